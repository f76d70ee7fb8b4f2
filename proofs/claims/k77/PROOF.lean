import PyProof.Rows.All
import Wide.FinOn
import OpenK.KMake
import OpenK.KLine
import KE.IntBitsLaws
import KE.KEqDict
import KE.KLam
import KE.KNestM
import KE.KTryMore
import KE.KTryOn
import KE.RegKIsAll
import KE.RegKTryMore
import PyProof.ExcBaseAll.ValueError
import PyProof.ExcArgsOwn
import PyProof.TupleCall
import PyProof.CollectIter
import PyProof.CallFns
import KE.KItem
import KE.LcSums
import KE.KItemsList
import PySem.Challenge.RW_countgen_k77_refused
set_option compiler.extract_closed false
open PySem renaming Value→Α,wpAny_bind→Β,Shared→Δ,wpAny→Κ,wpAny_pure→Μ,model→Ο,starEach→Χ,Program→Ψ,PyData→ε,Around→ζ,World→θ,wpAny_mono→ω,wpAny_field→av,mainGlobals→aI,FuncData→bt,compareOp→bu,wpAny_callSpecial?_slot→bv,backTo→bz,wpAny_seqItems→b8,IsPair→b9,wpAny_call_entry→ck,wpAny_loadPart_at→cy,rawInt→cE,wpAny_Call_Name_kw→cS,mem_of_lookup→c9,wpAny_newObj_type→dk,wpAny_setField_rec→dv,wpAny_holding→dy,Scope→dL,wpAny_execs_nil→dP,wpAny_execs_cons→d5,codeAny→d6,bootBuiltins→eL,wpAny_passesOwn→eR,wpAny_truthy_bool→e9,codeAny_call_builtin→fc,sliceBounds→fh,codeAny_mono→fm,wpAny_standAt→fz,attributeBase→fA,field→fE,cLine→fF,excClassObj→f8,IsZip→gh,pyNext→gu,codeAny_call_function→gN,wpAny_call→gS,wpAny_newFunctionEnv→gV,wpAny_specialOf→ij,letOwnedTupleGo→ik,bindArgs→iq,binaryOp→ir,NameKind→iE,Within→iL,sysModules→i4,builtinsNs→i5,wpAny_pyIter_enum→i7,Result→jp,wpAny_attempt→js,compEnvC→jI,wpAny_isInstance→j0,wpAny_forIn_list→j3,Arguments→ki,wpAny_rule→kq,closureFor→kr,assignEach→ku,wpAny_updateSeq→kA,wpAny_setField→kG,wpAny_loadPart→kH,firstArgMember→kK,sizeLine_eq→kP,keywordEach→kQ,swapsWith→kT,wpAny_onRaise→kX,behindInMarks→k9,ReadsAll→ll,codeAny_func→lm
open PySem.Heap renaming get?_push_of_some→Ε,lt_size→Ν,get?_push_size→δ,get?_update_self→br,SameBut→ci,get?_update_other→c8,size_push→dC,MadeExcOf→kN,FlyingW→lr,ExtBut→lz
open List renaming length_map→Ζ,getElem?_eq_getElem→Η,getElem?_eq_some_iff→Ι,getElem?_map→Ξ,length_append→Ρ,mem_of_getElem?→Τ,mem_cons→Υ,not_mem_nil→ι,size_toArray→ξ,mem_singleton→ρ,length_cons→υ,mem_map→ψ,length_singleton→aa,map_cons→ae,map_append→af,mem_append→ag,getElem?_append_left→ar,getElem?_append_right→aE,take_of_length_le→a8,nodup_cons→a9,length_take→ba,length_drop→bb,lookup_cons→bg,range→bj,mem_append_right→bq,mem_cons_of_mem→bS,getElem?_eq_none_iff→bX,zip_cons_cons→b0,Nodup→cr,getD_eq_getElem?_getD→cK,length_nil→da,append_nil→db,lookup→di,getElem?_zip_eq_some→dm,map_nil→dS,map_map→d3,getElem?_eq_none→ef,of_mem_zip→eh,getElem?_of_mem→ek,length_eq_zero_iff→ez,getElem?_cons_zero→eA,mem_map_of_mem→eC,filterMap_cons→eI,mem_cons_self→eP,range_succ→eT,length_replicate→eW,take_length→fq,forIn_cons→fR,drop_of_length_le→gf,ext_getElem?→gm,mem_range→gE,mem_filter→ip,mem_filterMap→iP,getElem?_drop→iS,nodup_append→i8,drop_sublist→i9,all_eq_true→kb,nil_append→kD,nodup_nil→kL,forIn_nil→kM
open Option.some renaming inj→Θ,injEq→gi
open PySem.W renaming Frag→Λ,kitOne→aw,findIn→c6,fnOf→dQ,keepIn→ee,hideAll_get→eB,kia_one→eK,callWith_K→eM,emptyDict→gc,looks_findIn→gv,tabObj→gz,hideAll→im,exmOne→ix,CodeHd→iA,instObj→iF,mroIn→i3,codeIn→i6,mg_of→jv,hasDictIn→kS,any_some→lj,nsIn→lp
open Nat renaming le_refl→Φ,ne_of_lt→ν,lt_of_lt_of_le→τ,zero_le→ay,le_trans→az,lt_irrefl→aS,ne_of_gt→du,lt_succ_of_lt→dE,le_of_lt→gy,min_eq_left→io,sub_self→iN,lt_succ_self→ka,add_assoc→lc,le_succ→ly,mod_lt→lP
open PySem.Value renaming ref→Ω,bool→bo,none→cq,builtin→dA,type→fN,str→kU,int→lx
open Bool renaming false_ne_true→η,false_eq_true→c5,and_eq_true→de,eq_false_iff→jb,eq_iff_iff→kF
open Option renaming map_eq_some_iff→ο,map_some→kC
open PySem.Builtin.SmallTypes renaming nextOf→ς,ownedTupleIsFree→ax
open PySem.Str renaming ofString→χ
open Ne renaming symm→ah
open PySem.NameKind renaming free→ai,cell→g0
open False renaming elim→am
open PySem.PyData renaming depthAll→ap,eqv→bi,canLayAll0→bE,depth→df,strOk→dq,eqvAll→e7,canLay0→fk
open PySem.F renaming plainAttrs_list→bc,slot_list_append→be,type_list_append→bn,slot_zip_next→ei,slot_tuple_iterator_next→e8,plain_extend_loop→fw,args_zip_next_1→ja,entry_zip_next→ke
open PySem.PassesOwn renaming never→bp
open PyProof.Rows renaming callWith_type1→cw,AllBare→hU,slot_tupleiter_next→ia,IsTupIter→kg,envOfC→km
open PySem.Builtin.Tuple renaming tupleHashOf→dn,tupleExact→ft
open PySem.Obj renaming mapSeq→d4,data_mapFields→iO
open Int renaming toNat_natCast→et
open True renaming intro→eJ
open PySem.Builtin.List renaming listExtendWith→eQ
open PySem.Builtin.Slice renaming slicePlaces→fg
open PySem.SeqAt renaming eqAt_reads→fo,EqAt→lL
open ForInStep renaming yield→fT
open PySem.Heap.SameBut renaming update→ib
open PySem.Builtin.Int renaming intBits→ic
open Array renaming length_toList→ie,forIn_toList→iX
open PySem.Sem renaming wp→jn,bind→jS
open Nat.succ renaming inj→kx
open Sum renaming inr→lh,inl→li
open PySem.Code renaming isFrame→lv
open PySem.Around renaming under→lw
open PySem.Data renaming seq→lI
set_option Elab.async false
set_option linter.all false
set_option maxRecDepth 100000
namespace L2
open PySem PySem.Spec PyProof.Rows
abbrev Key:=Sum Int Str
def VN:Key->Α->Bool
 | .inl k,v=>Value.isInt k v
 | .inr x,v=>Value.isStrOf x v
def Jg (w:θ):Key->Int
 | .inl k=>hashInt k
 | .inr x=>hashStr w x
theorem Xh:∀ {k:Key} {v:Α},VN k v=true->(∃ i t,k=li i/\v=lx i t)\/(∃ x t,k=lh x/\v=kU x t)
 | .inl i,v,h=>by
  obtain ⟨t,e⟩:=Value.isInt_shape (k:=i) (v:=v) h;exact .inl ⟨i,t,rfl,e⟩
 | .inr x,v,h=>by
  obtain ⟨t,e⟩:=Value.isStrOf_shape (x:=x) (v:=v) h;exact .inr ⟨x,t,rfl,e⟩
theorem J5 (i:Int) (t:Tok):VN (.inl i) (.int i t)=true:=by simp [VN,Value.isInt]
theorem J6 (x:Str) (t:Tok):VN (.inr x) (.str x t)=true:=by simp [VN,Value.isStrOf]
theorem J7 (a b:Int):decide ((li a:Key)=li b)=(a==b):=by
 by_cases e:a=b
 ·subst e;simp
 ·have h:¬ (li a:Key)=li b:=fun q=>e (Sum.inl.inj q)
  rw [decide_eq_false h];exact (beq_eq_false_iff_ne.mpr e).symm
theorem J8 (a b:Str):decide ((lh a:Key)=lh b)=decide (a=b):=by
 by_cases e:a=b
 ·subst e;simp
 ·have h:¬ (lh a:Key)=lh b:=fun q=>e (Sum.inr.inj q)
  rw [decide_eq_false h,decide_eq_false e]
theorem Ka (a:Int) (b:Str):decide ((li a:Key)=lh b)=false:=decide_eq_false (fun q=>nomatch q)
theorem Kc (a:Str) (b:Int):decide ((lh a:Key)=li b)=false:=decide_eq_false (fun q=>nomatch q)
def XG (prog:Ψ) (w:θ):PySem.KeyKind prog w Key where
 is:=VN
 hash:=Jg w
 inj:=fun v a b ha hb=>by
  rcases Xh ha with ⟨i,t,rfl,rfl⟩ | ⟨x,t,rfl,rfl⟩
  ·rcases Xh hb with ⟨j,u,rfl,e⟩ | ⟨y,u,rfl,e⟩
   ·injection e with e1 _;rw [e1]
   ·exact nomatch e
  ·rcases Xh hb with ⟨j,u,rfl,e⟩ | ⟨y,u,rfl,e⟩
   ·exact nomatch e
   ·injection e with e1 _;rw [e1]
 byValue:=fun k v h=>by
  rcases Xh h with ⟨i,t,rfl,rfl⟩ | ⟨x,t,rfl,rfl⟩<;>rfl
 pyHash:=fun hv h=>by
  rcases Xh hv with ⟨i,t,rfl,rfl⟩ | ⟨x,t,rfl,rfl⟩
  ·exact wpAny_pyHash_int h
  ·exact wpAny_pyHash_str h
 eqBool:=fun hu hv h=>by
  rcases Xh hu with ⟨i,t,rfl,rfl⟩ | ⟨x,t,rfl,rfl⟩
  ·rcases Xh hv with ⟨j,u,rfl,rfl⟩ | ⟨y,u,rfl,rfl⟩
   ·rw [J7] at h;exact wpAny_eqBool_int h
   ·rw [Ka] at h;exact SeqAt.EqAt.int_str i t y u _ _ _ _ h
  ·rcases Xh hv with ⟨j,u,rfl,rfl⟩ | ⟨y,u,rfl,rfl⟩
   ·rw [Kc] at h;exact SeqAt.EqAt.str_int x t j u _ _ _ _ h
   ·rw [J8] at h;exact wpAny_eqBool_str h
 «strs»:=fun k x t v h=>by
  rcases Xh h with ⟨i,u,rfl,e⟩ | ⟨y,u,rfl,e⟩
  ·exact nomatch e
  ·injection e with e1 _
   subst e1
   cases v<;>rfl
theorem Kd (prog:Ψ) (w:θ) (i:Int) (t:Tok):(XG prog w).is (.inl i) (.int i t)=true:=J5 i t
theorem Ke (prog:Ψ) (w:θ) (x:Str) (t:Tok):(XG prog w).is (.inr x) (.str x t)=true:=J6 x t
inductive V where
 | non | bl (b:Bool) | int (i:Int) | str (x:Str) | fM (b:Array UInt8) | flt (b:UInt64) | ref (a:Addr) | ty (n:String)
 deriving DecidableEq
def Yx:V->Α->Prop
 | .non,u=>u=cq
 | .bl b,u=>u=bo b
 | .int i,u=>∃ t,u=lx i t
 | .str x,u=>∃ t,u=kU x t
 | .fM b,u=>∃ t,u=Value.bytes b t
 | .flt b,u=>∃ t,u=Value.float b t
 | .ref a,u=>u=Ω a
 | .ty n,u=>u=fN n
abbrev Ym:List V->List Α->Prop:=Paired Yx
theorem Ym.length {xs:List V} {us:List Α} (r:Ym xs us):xs.length=us.length:=Paired.length r
theorem Ym.get:∀ {xs:List V} {us:List Α} {i:Nat} {x:V},Ym xs us->xs[i]?=some x->∃ u,us[i]?=some u/\Yx x u
 | _,_,_,_,.nil,e=>by simp at e
 | _,_,0,_,.cons r _,e=>by simp at e;subst e;exact ⟨_,rfl,r⟩
 | _,_,i+1,x,.cons _ t,e=>by
  obtain ⟨u,h1,h2⟩:=Ym.get (i:=i) (x:=x) t (by simpa using e);exact ⟨u,by simpa using h1,h2⟩
theorem Ym.set {x:V} {u:Α} (r:Yx x u):∀ {xs:List V} {us:List Α} (i:Nat),Ym xs us->Ym (xs.set i x) (us.set i u)
 | _,_,_,.nil => .nil
 | _,_,0,.cons _ t => .cons r t
 | _,_,i+1,.cons q t => .cons q (Ym.set r i t)
theorem Ym.append:∀ {xs ys:List V} {us ws:List Α},Ym xs us->Ym ys ws->Ym (xs++ys) (us++ws)
 | _,_,_,_,.nil,s=>s
 | _,_,_,_,.cons r t,s => .cons r (Ym.append t s)
theorem Ym.take:∀ {xs:List V} {us:List Α} (n:Nat),Ym xs us->Ym (xs.take n) (us.take n)
 | _,_,0,_ => .nil
 | _,_,_+1,.nil => .nil
 | _,_,n+1,.cons r t => .cons r (Ym.take n t)
theorem Ym.drop:∀ {xs:List V} {us:List Α} (n:Nat),Ym xs us->Ym (xs.drop n) (us.drop n)
 | _,_,0,r=>r
 | _,_,_+1,.nil => .nil
 | _,_,n+1,.cons _ t=>Ym.drop n t
def X7:Option V->Option Α->Prop
 | some v,some u=>Yx v u
 | none,none=>True
 | _,_=>False
def KV {κ:Type}:List (κ×V)->List (κ×Α)->Prop:=Paired fun (p:κ×V) (q:κ×Α)=>p.1=q.1/\Yx p.2 q.2
def kV:Key->V
 | .inl i => .int i
 | .inr x => .str x
inductive HO where
 /-- a list -/
 | lst (xs:List V)
 /-- a tuple (never changes) -/
 | tup (xs:List V)
 /-- a dict whose keys are ints and texts;one whose keys are tuples of ints and texts (the empty one is both) -/
 | dK (kvs:List (Key×V)) | dT (kvs:List (List Key×V))
 /-- a set of ints: its members,its size -/
 | set (S:Int->Bool) (n:Nat)
 /-- an instance of the class at C,its dict at dx,its attributes -/
 | ins (C dx:Addr) (fs:List (Str×V))
 /-- the dict of the instance at x -/
 | own (x:Addr)
 /-- the dict of an exception -/
 | xd (fs:List (Str×V))
 /-- a bound method,f of x -/
 | met (f x:Addr)
 /-- a range object lo,lo+1,.. below hi -/
 | rng (lo hi:Int)
 /-- a thing that is known to the object (the script;a dict while a loop walks it): read,never written while it is so -/
 | bR (o:Obj) (u:HO)
 /-- a code object's table -/
 | aH (ps:Array Α)
 /-- any other thing,by what is true of its one object (a def of one's own: Jh a S n:=HO.ext fun h => ..) -/
 | ext (φ:Heap->Prop)
abbrev Hp:=Addr->Option HO
def upd (H:Hp) (a:Addr) (o:HO):Hp:=fun b=>if b=a then some o else H b
theorem Yb {H:Hp} {a:Addr} {o:HO}:upd H a o a=some o:=by unfold upd;rw [if_pos rfl]
theorem Ye {H:Hp} {a b:Addr} {o:HO} (h:b≠a):upd H a o b=H b:=by unfold upd;rw [if_neg h]
theorem YW {H:Hp} {a b:Addr} {o u:HO} (h:H a=some o) (h':H b=some u) (d:o≠u):a≠b:=by
 intro e;subst e;rw [h] at h';exact d (Θ h')
theorem Yk {H:Hp} {a b:Addr} {o:HO} (h:H a=some o) (h':H b=none):a≠b:=by
 intro e;subst e;rw [h] at h';cases h'
section
variable (P:Ψ) (w:θ)
def YK (H:Hp) (h:Heap) (a:Addr):HO->Prop
 | .lst xs=>xs.length<=sizeLine/\∃ (its:List Α) (n:Nat),Ym xs its/\h.get? a=some { cls := .type "list",data := .seq its.toArray n }
 | .tup xs=>xs.length<=sizeLine/\∃ its:List Α,Ym xs its/\IsTup h a its.toArray
 | .dK kvs=>kvs.length<=sizeLine/\(a==i4)=false/\∃ vs,KV kvs vs/\h.DictOf (XG P w) a vs
 | .dT kvs=>kvs.length<=sizeLine/\(a==i4)=false/\∃ xs:List (List Key×Addr×Α),
   Paired (fun (p:List Key×V) (q:List Key×Addr×Α)=>p.1=q.1/\H q.2.1=some (.tup (p.1.map kV))/\Yx p.2 q.2.2) kvs xs /\
   ∃ o es ep,h.get? a=some o/\o.ExactDict/\o.data = .dict es ep/\es.toList=xs.map (entryOfKey (tupleKind (XG P w)))/\(xs.map (·.1)).Nodup
 | .set S n=>h.SetOf (intKind P w) a S n
 | .ins C dx fs=>H dx=some (.own a)/\fs.length<=1000/\dx≠a/\h.get? a=some (iF C dx) /\
   ∃ mA,h.Ns1 dx mA/\(∀ f,X7 (fs.lookup f) (mA f))/\iL mA (fs.map (·.1))
 | .own _=>∃ o,h.get? a=some o
 | .xd fs=>∃ mA,h.Ns1 a mA/\∀ f,X7 (fs.lookup f) (mA f)
 | .rng lo hi=>∃ t u v,h.get? a=some { cls := .type "range",data := .fields #[.int lo t,.int hi u,.int 1 v] }
 | .bR o u=>h.get? a=some o/\YK H h a u
 | .aH ps=>h.get? a=some { cls := .none,data := .fields ps }
 | .met f x=>h.get? a=some (W.methodObj (.ref f) (.ref x))
 | .ext φ=>φ h/\(∃ o,h.get? a=some o)/\∀ h1 h2:Heap,φ h1->(∀ o,h1.get? a=some o->h2.get? a=some o)->φ h2
def bA (H:Hp) (h:Heap):Prop:=∀ a o,H a=some o->YK P w H h a o
end
section
variable {P:Ψ} {w:θ} {H H':Hp} {h h':Heap} {a:Addr} {o:HO}
theorem YK.lt (x:YK P w H h a o):a<h.objs.size:=by
 cases o with
 | lst xs=>obtain ⟨_,_,_,_,e⟩:=x;exact Ν e
 | tup xs=>obtain ⟨_,_,_,p⟩:=x;exact p.lt
 | dK kvs=>obtain ⟨_,_,_,_,o,_,_,e,_⟩:=x;exact Ν e
 | dT kvs=>obtain ⟨_,_,_,_,o,_,_,e,_⟩:=x;exact Ν e
 | set S n=>obtain ⟨o,_,_,_,e,_⟩:=x;exact Ν e
 | ins C dx fs=>obtain ⟨_,_,_,e,_⟩:=x;exact Ν e
 | own y=>obtain ⟨_,e⟩:=x;exact Ν e
 | xd fs=>obtain ⟨_,⟨_,_,_,e,_⟩,_⟩:=x;exact Ν e
 | rng lo hi=>obtain ⟨_,_,_,e⟩:=x;exact Ν e
 | bR ob u=>obtain ⟨e,_⟩:=x;exact Ν e
 | aH ps=>exact Ν (show h.get? a=some _ from x)
 | met f y=>exact Ν (show h.get? a=some _ from x)
 | ext φ=>obtain ⟨_,⟨_,e⟩,_⟩:=x;exact Ν e
theorem Paired.vm {α β:Type} {F G:α->β->Prop}:∀ {l₁:List α} {l₂:List β},Paired F l₁ l₂->(∀ a b,F a b->G a b)->Paired G l₁ l₂
 | _,_,.nil,_ => .nil
 | _,_,.cons r t,f => .cons (f _ _ r) (Paired.vm t f)
theorem YK.stay (x:YK P w H h a o) (k:∀ b u,(b=a\/H b=some (.own a))->h.get? b=some u->h'.get? b=some u)
  (ho:∀ b,H b=some (.own a)->H' b=some (.own a)) (ht:∀ b xs,H b=some (.tup xs)->H' b=some (.tup xs)):YK P w H' h' a o:=by
 induction o with
 | lst xs=>obtain ⟨z,its,n,r,e⟩:=x;exact ⟨z,its,n,r,k _ _ (.inl rfl) e⟩
 | tup xs=>obtain ⟨z,its,r,ob,e,c⟩:=x;exact ⟨z,its,r,ob,k _ _ (.inl rfl) e,c⟩
 | dK kvs=>obtain ⟨z,y,vs,r,ob,es,ep,e,c⟩:=x;exact ⟨z,y,vs,r,ob,es,ep,k _ _ (.inl rfl) e,c⟩
 | dT kvs =>
  obtain ⟨z,y,xs,r,ob,es,ep,e,c⟩:=x;exact ⟨z,y,xs,Paired.vm r fun p q z=>⟨z.1,ht _ _ z.2.1,z.2.2⟩,ob,es,ep,k _ _ (.inl rfl) e,c⟩
 | set S n=>obtain ⟨ob,es,ep,t,e,c⟩:=x;exact ⟨ob,es,ep,t,k _ _ (.inl rfl) e,c⟩
 | ins C dx fs =>
  obtain ⟨d,z,ne,e,mA,⟨od,es,ep,e2,c⟩,r⟩:=x;exact ⟨ho _ d,z,ne,k _ _ (.inl rfl) e,mA,⟨od,es,ep,k _ _ (.inr d) e2,c⟩,r⟩
 | own y=>obtain ⟨ob,e⟩:=x;exact ⟨ob,k _ _ (.inl rfl) e⟩
 | xd fs=>obtain ⟨mA,⟨od,es,ep,e,c⟩,r⟩:=x;exact ⟨mA,⟨od,es,ep,k _ _ (.inl rfl) e,c⟩,r⟩
 | rng lo hi=>obtain ⟨t,u,v,e⟩:=x;exact ⟨t,u,v,k _ _ (.inl rfl) e⟩
 | bR ob u ih=>obtain ⟨e,q⟩:=x;exact ⟨k _ _ (.inl rfl) e,ih q⟩
 | aH ps =>
  have e:h.get? a=some { cls := .none,data := .fields ps }:=x
  show h'.get? a=some { cls := .none,data := .fields ps }
  exact k a _ (.inl rfl) e
 | met f y =>
  have e:h.get? a=some (W.methodObj (.ref f) (.ref y)):=x
  show h'.get? a=some (W.methodObj (.ref f) (.ref y))
  exact k a _ (.inl rfl) e
 | ext φ=>obtain ⟨p,⟨o,e⟩,st⟩:=x;exact ⟨st _ _ p fun o q=>k _ _ (.inl rfl) q,⟨o,k _ _ (.inl rfl) e⟩,st⟩
theorem bA.lt (x:bA P w H h) (e:H a=some o):a<h.objs.size:=(x a o e).lt
theorem bA.fresh (x:bA P w H h) (e:h.objs.size<=a):H a=none:=by
 cases q:H a with
 | none=>rfl
 | some u=>exact absurd (τ (x.lt q) e) (aS _)
theorem bA.kept (x:bA P w H h) (k:∀ b u,h.get? b=some u->h'.get? b=some u):bA P w H h':=fun a o e =>
 (x a o e).stay (fun b u _ q=>k b u q) (fun _ q=>q) fun _ _ q=>q
theorem bA.laid (x:bA P w H h) (k:∀ b u,h.get? b=some u->h'.get? b=some u) (hp:h.objs.size<=a) (new:YK P w (upd H a o) h' a o):bA P w (upd H a o) h':=fun b u e=>by
 have hn:=x.fresh hp;by_cases hb:b=a
 ·subst hb;rw [Yb] at e;cases e;exact new
 ·rw [Ye hb] at e
  exact (x b u e).stay (fun c v _ q=>k c v q) (fun c q=>by rw [Ye (Yk q hn)];exact q) fun c xs q=>by rw [Ye (Yk q hn)];exact q
end
def Rd (H:Hp) (a:Addr) (u:HO):Prop:=H a=some u\/∃ o,H a=some (.bR o u)
theorem Rd.ok {P:Ψ} {w:θ} {H:Hp} {h:Heap} {a:Addr} {u:HO} (r:Rd H a u) (x:bA P w H h):YK P w H h a u:=by
 rcases r with r | ⟨o,r⟩
 ·exact x a u r
 ·obtain ⟨_,q⟩:=x a _ r
  exact q
def rY:Option HO->Prop
 | some (.lst _)=>True
 | some (.dK _)=>True
 | some (.dT _)=>True
 | some (.set _ _)=>True
 | some (.ins _ _ _)=>True
 | some (.ext _)=>True
 | _=>False
section
variable {P:Ψ} {w:θ} {H:Hp} {h h':Heap} {x e:Addr} {o':HO}
theorem bA.write (ok:bA P w H h) (mu:rY (H x)) (he:e=x\/H e=some (.own x)) (k:∀ b u,b≠e->h.get? b=some u->h'.get? b=some u) (heo:∃ u,h'.get? e=some u)
  (new:YK P w (upd H x o') h' x o'):bA P w (upd H x o') h':=fun b u q=>by
 have vo:∀ c y,H c=some (.own y)->c≠x:=fun c y r z=>by subst z;rw [r] at mu;exact mu
 have Ji:∀ c xs,H c=some (.tup xs)->c≠x:=fun c xs r z=>by subst z;rw [r] at mu;exact mu
 by_cases hb:b=x
 ·subst hb;rw [Yb] at q;cases q;exact new
 ·rw [Ye hb] at q
  by_cases hbe:b=e
  ·have q':H b=some (.own x):=by
    rcases he with z | z
    ·exact absurd (hbe.trans z) hb
    ·rw [hbe];exact z
   rw [q] at q';cases q'
   obtain ⟨v,hv⟩:=heo;exact ⟨v,by rw [hbe];exact hv⟩
  ·refine (ok b u q).stay (fun c v hc r=>k c v ?_ r) (fun c r=>by rw [Ye (vo c b r)];exact r) fun c xs r=>by rw [Ye (Ji c xs r)];exact r
   rcases hc with rfl | hc
   ·exact hbe
   ·rintro rfl
    rcases he with z | z
    ·exact vo c b hc z
    ·rw [hc] at z;cases z;exact hb rfl
end
structure Un (fs ex:List Addr) (H H':Hp) (h h':Heap):Prop where
 keep:∀ b o,h.get? b=some o->H b=none->b∉fs->b∉ex->h'.get? b=some o
 slot:∀ b o,h.get? b=some o->H b=none->b∈fs->b∉ex->∃ sl,h'.get? b=some { o with slots:=sl }
 free:∀ b o,h.get? b=some o->H b=none->b∉ex->H' b=none
 there:∀ b o,h.get? b=some o->b∉ex->∃ o',h'.get? b=some o'
 tups:∀ b xs,H b=some (.tup xs)->H' b=some (.tup xs)
 bB:∀ b o u,H b=some (.bR o u)->H' b=some (.bR o u)
 bW:∀ b ps,H b=some (.aH ps)->∃ more,H' b=some (.aH (ps++more))
section
variable {fs fs' ex ex':List Addr} {H H1 H2:Hp} {h h1 h2 h':Heap} {a x e:Addr} {o:HO}
theorem Un.any (u:Un fs ex H H1 h h1) {b:Addr} {ob:Obj} (q:h.get? b=some ob) (n:H b=none) (hx:b∉ex):∃ sl,h1.get? b=some { ob with slots:=sl }:=by
 by_cases hb:b∈fs
 ·exact u.slot b ob q n hb hx
 ·exact ⟨ob.slots,u.keep b ob q n hb hx⟩
theorem Un.kept (k:∀ b u,h.get? b=some u->h'.get? b=some u):Un fs ex H H h h' :=
 ⟨fun b ob q _ _ _=>k b ob q,fun b ob q _ _ _=>⟨ob.slots,k b ob q⟩,fun _ _ _ n _=>n,fun b ob q _=>⟨ob,k b ob q⟩,fun _ _ q=>q,fun _ _ _ q=>q,fun _ ps q=>⟨#[],by rw [q];simp⟩⟩
theorem Un.refl:Un fs ex H H h h:=Un.kept fun _ _ q=>q
theorem Un.laid (k:∀ b u,h.get? b=some u->h'.get? b=some u) (hp:h.objs.size<=a) (hn:H a=none):Un fs ex H (upd H a o) h h' where
 keep:=fun b u q _ _ _=>k b u q
 slot:=fun b u q _ _ _=>⟨u.slots,k b u q⟩
 free:=fun b u q n _=>by rw [Ye (ν (τ (Ν q) hp))];exact n
 there:=fun b u q _=>⟨u,k b u q⟩
 tups:=fun b xs q=>by rw [Ye (Yk q hn)];exact q
 bB:=fun b u xs q=>by rw [Ye (Yk q hn)];exact q
 bW:=fun b ps q=>⟨#[],by rw [Ye (Yk q hn),q];simp⟩
theorem Un.write (mu:rY (H x)) (he:e=x\/H e=some (.own x)) (k:∀ b u,b≠e->h.get? b=some u->h'.get? b=some u) (heo:∃ u,h'.get? e=some u):Un fs ex H (upd H x o) h h':=by
 have hx:∀ b,H b=none->b≠x:=fun b n z=>by subst z;rw [n] at mu;exact mu
 have hb:∀ b,H b=none->b≠e:=fun b n z=>by
  subst z;rcases he with r | r
  ·exact hx b n r
  ·rw [n] at r;cases r
 have hm:∀ b u,H b=some u->¬ rY (some u)->b≠x:=fun b u q nm z=>by subst z;rw [q] at mu;exact nm mu
 refine ⟨fun b u q n _ _=>k b u (hb b n) q,fun b u q n _ _=>⟨u.slots,k b u (hb b n) q⟩,fun b u q n _=>by rw [Ye (hx b n)];exact n,fun b u q _=>?_,
  fun b xs q=>by rw [Ye (hm b _ q fun z=>z)];exact q,fun b u xs q=>by rw [Ye (hm b _ q fun z=>z)];exact q,fun b ps q=>⟨#[],by rw [Ye (hm b _ q fun z=>z),q];simp⟩⟩
 by_cases hbe:b=e
 ·subst hbe;exact heo
 ·exact ⟨u,k b u hbe q⟩
end
def rZ (h:Heap) (H:Hp):List Addr:=(bj h.objs.size).filter fun a=>(H a).isSome
def WH (h:Heap) (H:Hp):Heap:=W.hideAll h (rZ h H)
theorem Kf (h:Heap) (H:Hp):(WH h H).objs.size=h.objs.size:=W.hideAll_size _ _
theorem Kg {h:Heap} {H:Hp} {b:Addr} {o:Obj} (e:h.get? b=some o) (n:H b=none):(WH h H).get? b=some o :=
 W.hideAll_get _ e fun hm=>by
  have q:(H b).isSome=true:=(ip.mp hm).2;rw [n] at q;simp at q
theorem Kh {h:Heap} {H:Hp} {b:Addr} {o:Obj} (e:(WH h H).get? b=some o):h.get? b=some o/\H b=none:=by
 have e':h.get? b=some o:=W.of_hideAll (rZ h H) e;refine ⟨e',?_⟩
 cases q:H b with
 | none=>rfl
 | some x =>
  have hm:b∈rZ h H:=ip.mpr ⟨gE.mpr (Ν e'),by simp [q]⟩;have z:(WH h H).get? b=none:=W.hideAll_none (rZ h H) hm;rw [z] at e;cases e
def Kl (g h:Heap) (L:Addr):List (Addr×Obj):=(bj h.objs.size).filterMap fun a=>if a=L\/(g.get? a).isSome=true then none else (h.get? a).map fun o=>(a,o)
def YQ (g h:Heap) (L d:Addr):List (Addr×Obj):=(Kl g h L).filter fun p=>decide (p.1≠d)
structure Mod (K:Λ) (mg:Str->Option Α) (base:Heap):Prop where
 fY:K.In base
 glob:base.Ns aI mg
 blt:∃ mb,base.Ns i5 mb/\∀ x:Str,x≠"__name__"->mb x=eL x
 nolimit:base.NoLimit
structure Cx where
 prog:Ψ
 w:θ
 K:Λ
 mg:Str->Option Α
 base:Heap
 A:ζ
 N:List Str
 s₀:Δ
 H₀:Hp
 env:Env
 outer:List Env
 stack:List Env
 ex:List Addr
 fn:Str->Bool
 calm:Bool
 pn:List (Addr×Obj)
 xe:Α->Δ->Prop
def frs (l:List Env):List Addr:=l.filterMap (·.frame)
abbrev Cx.fs (X:Cx):List Addr:=frs X.outer
def sy (sc:dL) (x:Str):Prop:=sc.names.lookup x=some .local\/sc.names.lookup x=some .cell\/sc.names.lookup x=some .free
def Loc (sc:dL) (x:Str):Prop:=sc.names.lookup x=some .local\/sc.names.lookup x=some .cell
def Look (env:Env) (h:Heap) (m:Str->Option Α) (x:Str) (u:Α):Prop :=
 (env.kindOf x=some .local/\m x=some u)\/((env.kindOf x=some .cell\/env.kindOf x=some .free)/\∃ c,env.cells.lookup x=some c/\h.IsCell c (some u))
structure Cx.Ok (X:Cx):Prop where
 mod:Mod X.K X.mg X.base
 kind:X.env.scope.kind = .function
 glob:X.env.globals=aI
 blt:X.env.builtins=i5
 above:X.s₀.heap.objs.size<=X.env.locals
 inj:∀ x y c,X.env.cells.lookup x=some c->X.env.cells.lookup y=some c->x=y
 has:∀ x,(X.env.kindOf x=some .cell\/X.env.kindOf x=some .free)->∃ c,X.env.cells.lookup x=some c
 cab:∀ x c,X.fn x=true->X.env.cells.lookup x=some c->X.s₀.heap.objs.size<=c
 hd:X.calm=true->X.A.handled=none
 frames:X.A.frames=some X.stack
 stk:X.stack=X.outer\/(X.stack=X.env::X.outer/\X.env.frame=some X.env.locals)
 sE:∀ b∈X.ex,b≠X.env.locals/\∀ x c,X.env.cells.lookup x=some c->c≠b
 bs:∀ b o,X.base.get? b=some o->X.s₀.heap.get? b=some o/\X.H₀ b=none
 dG:X.base.objs.size<=X.s₀.heap.objs.size
 iG:∀ b o,X.base.get? b=some o->b∉X.ex
 jz:∀ b∈X.ex,b∉X.fs
 cu:X.s₀.heap.FunFrames X.base X.outer
 eE:∀ b∈X.fs,X.H₀ b=none
structure Inv (X:Cx) (pins:List (Addr×Obj)) (σ:List (Option V)) (H:Hp) (s:Δ):Prop where
 ok:X.Ok
 os:s.os=X.s₀.os
 bare:hU s.gens
 base:Un X.fs X.ex X.H₀ H X.s₀.heap s.heap
 loc:∃ m,s.heap.Ns X.env.locals m/\∀ (i:Nat) (x:Str) (v:V),X.N[i]?=some x->σ[i]?=some (some v)->sy X.env.scope x->∃ u,Yx v u/\Look X.env s.heap m x u
 cell:∀ x c,X.env.cells.lookup x=some c->∃ v,s.heap.IsCell c v
 free:H X.env.locals=none
 aV:∀ x c,X.env.cells.lookup x=some c->H c=none
 pin:∀ p∈X.pn++pins,s.heap.get? p.1=some p.2/\H p.1=none/\p.1≠X.env.locals/\p.1∉X.fs/\∀ v,p.2.data ≠ .cell v
 hok:bA X.prog X.w H s.heap
 len:σ.length=X.N.length
section
variable {X:Cx} {pins:List (Addr×Obj)} {σ:List (Option V)} {H H':Hp} {s:Δ} {h':Heap}
theorem Cx.Ok.Jj (ok:X.Ok) {b:Addr} {o:Obj} (e:X.base.get? b=some o):b∉X.fs:=fun hb=>by
 have:=(ok.cu.mem hb).1;rw [e] at this;cases this
theorem Inv.bs (I:Inv X pins σ H s):∀ b o,X.base.get? b=some o->s.heap.get? b=some o/\H b=none:=fun b o e =>
 ⟨I.base.keep b o (I.ok.bs b o e).1 (I.ok.bs b o e).2 (I.ok.Jj e) (I.ok.iG b o e),I.base.free b o (I.ok.bs b o e).1 (I.ok.bs b o e).2 (I.ok.iG b o e)⟩
theorem Inv.bk (I:Inv X pins σ H s):∀ b o,X.base.get? b=some o->s.heap.get? b=some o:=fun b o e=>(I.bs b o e).1
theorem Inv.mod (I:Inv X pins σ H s):Mod X.K X.mg X.base:=I.ok.mod
theorem Inv.aX (I:Inv X pins σ H s):X.K.In s.heap:=I.ok.mod.fY.keeps I.bk
theorem Inv.lt (I:Inv X pins σ H s):X.env.locals<s.heap.objs.size:=let ⟨_,hn,_⟩:=I.loc;hn.lt
theorem Inv.sz (I:Inv X pins σ H s):X.s₀.heap.objs.size<=s.heap.objs.size:=az I.ok.above (gy I.lt)
theorem Inv.Jk (I:Inv X pins σ H s) {a:Addr} (h:s.heap.objs.size<=a):a∉X.fs:=fun hb=>by
 obtain ⟨_,o,ho,_⟩:=I.ok.cu.mem hb;exact absurd (τ (Ν ho) (az I.sz h)) (aS _)
theorem Inv.fO (I:Inv X pins σ H s):∀ x c,X.env.cells.lookup x=some c->c≠X.env.locals:=fun x c e z=>by
 obtain ⟨v,o,ho,hd⟩:=I.cell x c e;obtain ⟨m,⟨o',es,ep,ho',hd',_⟩,_⟩:=I.loc;rw [z,ho'] at ho;cases ho;rw [hd'] at hd;cases hd
theorem Inv.cu (I:Inv X pins σ H s):s.heap.FunFrames X.base X.outer:=by
 have all:∀ (l:List Env),(∀ b∈frs l,b∈X.fs)->X.s₀.heap.FunFrames X.base l->s.heap.FunFrames X.base l:=by
  intro l
  induction l with
  | nil=>intro _ _;trivial
  | cons env r ih =>
   intro hs hl;obtain ⟨hk,⟨L,o,hf,hn,ho,hd⟩,hr⟩:=hl;have hL:L∈X.fs:=hs L (by unfold frs;rw [eI,hf];exact eP);obtain ⟨sl,e⟩:=I.base.slot L o ho (I.ok.eE L hL) hL fun z=>I.ok.jz L z hL
   exact ⟨hk,⟨L,_,hf,hn,e,hd⟩,ih (fun b hb=>hs b (by unfold frs;rw [eI,hf];exact bS _ hb)) hr⟩
 exact all X.outer (fun _ hb=>hb) I.ok.cu
theorem Inv.stack (I:Inv X pins σ H s):s.heap.FunFrames X.base X.stack:=by
 rcases I.ok.stk with e | ⟨e,hf⟩
 ·rw [e];exact I.cu
 ·rw [e]
  obtain ⟨m,hn,_⟩:=I.loc;refine .cons (by rw [I.ok.kind];decide) hf hn ?_ I.cu;exact Heap.get?_none_of_le (az I.ok.dG I.ok.above)
theorem Inv.fZ (I:Inv X pins σ H s):∀ b∈frs X.stack,b∈X.env.locals::X.fs:=fun b hb=>by
 rcases I.ok.stk with e | ⟨e,hf⟩
 ·rw [e] at hb;exact bS _ hb
 ·rw [e] at hb
  unfold frs at hb;rw [eI,hf] at hb
  exact hb
theorem Inv.dN (I:Inv X pins σ H s):∀ b∈frs X.stack,H b=none:=fun b hb=>by
 rcases Υ.mp (I.fZ b hb) with e | hb
 ·rw [e];exact I.free
 ·obtain ⟨_,o,ho,_⟩:=I.ok.cu.mem hb
  exact I.base.free b o ho (I.ok.eE b hb) fun z=>I.ok.jz b z hb
theorem Inv.step {g':Array GenState} {t':Nat} {d':Drawn} {ch:List Addr} (I:Inv X pins σ H s)
  (hch:∀ b∈ch,(b∈X.ex\/X.s₀.heap.objs.size<=b)/\b≠X.env.locals/\(∀ x c,X.env.cells.lookup x=some c->c≠b)/\∀ p∈X.pn++pins,p.1≠b)
  (keep:∀ b o,b≠X.env.locals->b∉X.fs->b∉ch->s.heap.get? b=some o->H b=none->h'.get? b=some o)
  (slot:∀ b o,b≠X.env.locals->b∈X.fs->b∉ch->s.heap.get? b=some o->H b=none->∃ sl,h'.get? b=some { o with slots:=sl }) (free:∀ b o,b∉ch->s.heap.get? b=some o->H b=none->H' b=none)
  (there:∀ b o,b∉ch->s.heap.get? b=some o->∃ o',h'.get? b=some o')
  (tups:∀ b xs,H b=some (.tup xs)->H' b=some (.tup xs)) (bB:∀ b o u,H b=some (.bR o u)->H' b=some (.bR o u)) (bW:∀ b ps,H b=some (.aH ps)->∃ more,H' b=some (.aH (ps++more)))
  (ns:∀ m,s.heap.Ns X.env.locals m->h'.Ns X.env.locals m) (hok:bA X.prog X.w H' h') (hg:hU g') :
  Inv X pins σ H' { s with heap:=h',gens:=g',drawn:=d',toks:=t' }:=by
 have BJ:∀ b o,X.s₀.heap.get? b=some o->b≠X.env.locals:=fun b o e=>ν (τ (Ν e) I.ok.above)
 have sG:∀ b o,X.s₀.heap.get? b=some o->b∉X.ex->b∉ch:=fun b o e hx hb=>by
  rcases (hch b hb).1 with z | z
  ·exact hx z
  ·exact absurd (τ (Ν e) z) (aS _)
 have cellK:∀ x c,X.env.cells.lookup x=some c->∀ v,s.heap.IsCell c v->h'.IsCell c v:=fun x c e v ⟨o,ho,hd⟩=>by
  have oH:c∉ch:=fun z=>(hch c z).2.2.1 x c e rfl
  by_cases hc:c∈X.fs
  ·obtain ⟨sl,q⟩:=slot c o (I.fO x c e) hc oH ho (I.aV x c e)
   exact ⟨_,q,hd⟩
  ·exact ⟨o,keep c o (I.fO x c e) hc oH ho (I.aV x c e),hd⟩
 refine ⟨I.ok,I.os,hg,⟨fun b o e n hb hx=>?_,fun b o e n hb hx=>?_,fun b o e n hx=>?_,fun b o e hx=>?_,fun b xs e=>tups b xs (I.base.tups b xs e),fun b o xs e=>bB b o xs (I.base.bB b o xs e),fun b ps e=>?_⟩,?_,fun x c e=>?_,?_,fun x c e=>?_,fun p hp=>?_,hok,I.len⟩
 ·exact keep b o (BJ b o e) hb (sG b o e hx) (I.base.keep b o e n hb hx) (I.base.free b o e n hx)
 ·obtain ⟨sl,e1⟩:=I.base.slot b o e n hb hx
  obtain ⟨sl',e2⟩:=slot b _ (BJ b o e) hb (sG b o e hx) e1 (I.base.free b o e n hx);exact ⟨sl',e2⟩
 ·obtain ⟨o',e1⟩:=I.base.there b o e hx
  exact free b o' (sG b o e hx) e1 (I.base.free b o e n hx)
 ·obtain ⟨o',e1⟩:=I.base.there b o e hx
  exact there b o' (sG b o e hx) e1
 ·obtain ⟨m1,e1⟩:=I.base.bW b ps e
  obtain ⟨m2,e2⟩:=bW b _ e1;exact ⟨m1++m2,by rw [e2,Array.append_assoc]⟩
 ·obtain ⟨m,hn,hl⟩:=I.loc
  refine ⟨m,ns m hn,fun i x v e1 e2 e3=>?_⟩;obtain ⟨u,r,l⟩:=hl i x v e1 e2 e3;refine ⟨u,r,?_⟩;rcases l with l | ⟨k,c,e,z⟩
  ·exact .inl l
  ·exact .inr ⟨k,c,e,cellK x c e _ z⟩
 ·obtain ⟨v,z⟩:=I.cell x c e
  exact ⟨v,cellK x c e v z⟩
 ·obtain ⟨m,⟨o,_,_,ho,_⟩,_⟩:=I.loc
  exact free _ o (fun z=>(hch _ z).2.1 rfl) ho I.free
 ·obtain ⟨v,o,ho,hd⟩:=I.cell x c e
  exact free c o (fun z=>(hch c z).2.2.1 x c e rfl) ho (I.aV x c e)
 ·obtain ⟨e,n,ne,nf,d⟩:=I.pin p hp
  have oH:p.1∉ch:=fun z=>(hch p.1 z).2.2.2 p hp rfl
  exact ⟨keep p.1 p.2 ne nf oH e n,free p.1 p.2 oH e n,ne,nf,d⟩
theorem Inv.un {t':Nat} (I:Inv X pins σ H s) (u:Un X.fs [] H H' s.heap h') (hok:bA X.prog X.w H' h'):Inv X pins σ H' { s with heap:=h',toks:=t' }:=by
 obtain ⟨m,⟨o,es,ep,ho,r⟩,_⟩:=id I.loc;obtain ⟨sl,hL⟩:=u.any ho I.free (by simp);exact I.step (g':=s.gens) (d':=s.drawn) (ch:=[]) (fun _ z=>nomatch z) (fun b o _ hb _ e n=>u.keep b o e n hb (by simp)) (fun b o _ hb _ e n=>u.slot b o e n hb (by simp)) (fun b o _ e n=>u.free b o e n (by simp)) (fun b o _ e=>u.there b o e (by simp)) u.tups u.bB u.bW (fun m' hm=>by
  obtain ⟨o',es',ep',ho',r'⟩:=hm;rw [ho] at ho';cases ho'
  exact ⟨_,es',ep',hL,r'⟩) hok I.bare
theorem Inv.call {g':Array GenState} {t':Nat} {d':Drawn} {ch:List Addr} (I:Inv X pins σ H s) (u:Un (frs X.stack) ch H H' s.heap h') (hok:bA X.prog X.w H' h') (hg:hU g')
  (hch:∀ b∈ch,(b∈X.ex\/X.s₀.heap.objs.size<=b)/\b≠X.env.locals/\(∀ x c,X.env.cells.lookup x=some c->c≠b)/\∀ p∈X.pn++pins,p.1≠b) :
  Inv X pins σ H' { s with heap:=h',gens:=g',drawn:=d',toks:=t' }:=by
 obtain ⟨m,⟨o,es,ep,ho,r⟩,_⟩:=id I.loc;obtain ⟨sl,hL⟩:=u.any ho I.free fun z=>(hch _ z).2.1 rfl
 exact I.step (ch:=ch) hch (fun b o hL hb hc e n=>u.keep b o e n (fun z=>(Υ.mp (I.fZ b z)).elim hL hb) hc) (fun b o _ _ hc e n=>u.any e n hc) (fun b o hc e n=>u.free b o e n hc) (fun b o hc e=>u.there b o e hc) u.tups u.bB u.bW (fun m' hm=>by
  obtain ⟨o',es',ep',ho',r'⟩:=hm;rw [ho] at ho';cases ho'
  exact ⟨_,es',ep',hL,r'⟩) hok hg
theorem Inv.turned {t':Nat} {it:Addr} (I:Inv X pins σ H s) (k:∀ b o,b≠it->s.heap.get? b=some o->h'.get? b=some o) (hn:H it=none) (hL:it≠X.env.locals)
  (h1:it∈X.ex\/X.s₀.heap.objs.size<=it) (h2:∀ x c,X.env.cells.lookup x=some c->c≠it) (h3:∀ p∈X.pn++pins,p.1≠it):Inv X pins σ H { s with heap:=h',toks:=t' }:=by
 have f9:∀ b u,H b=some u->b≠it:=fun b u e z=>by rw [z,hn] at e;cases e
 refine I.step (g':=s.gens) (d':=s.drawn) (ch:=[it]) (fun b hb=>?_) (fun b o _ _ hc e _=>k b o (fun z=>hc (by simp [z])) e) (fun b o _ _ hc e _=>⟨o.slots,k b o (fun z=>hc (by simp [z])) e⟩) (fun _ _ _ _ n=>n)
  (fun b o hc e=>⟨o,k b o (fun z=>hc (by simp [z])) e⟩) (fun _ _ e=>e) (fun _ _ _ e=>e) (fun b ps e=>⟨#[],by rw [e];simp⟩) (fun m hm=>?_) (fun b u e=>?_) I.bare
 ·have e:b=it:=by simpa using hb
  subst e;exact ⟨h1,hL,h2,h3⟩
 ·obtain ⟨o,es,ep,ho,r⟩:=hm
  exact ⟨o,es,ep,k _ o (ah hL) ho,r⟩
 ·refine (I.hok b u e).stay (fun c v hc q=>k c v ?_ q) (fun _ q=>q) fun _ _ q=>q
  rcases hc with z | z
  ·rw [z];exact f9 b u e
  ·exact f9 c _ z
theorem Inv.tok (I:Inv X pins σ H s) (t:Nat):Inv X pins σ H { s with toks:=t }:=I.un (h':=s.heap) (t':=t) Un.refl I.hok
theorem Inv.kept {t':Nat} (I:Inv X pins σ H s) (k:∀ b u,s.heap.get? b=some u->h'.get? b=some u):Inv X pins σ H { s with heap:=h',toks:=t' }:=I.un (Un.kept k) (I.hok.kept k)
theorem Inv.laid {a:Addr} {o:HO} {t':Nat} (I:Inv X pins σ H s) (k:∀ b u,s.heap.get? b=some u->h'.get? b=some u) (hp:s.heap.objs.size<=a) (new:YK X.prog X.w (upd H a o) h' a o) :
  Inv X pins σ (upd H a o) { s with heap:=h',toks:=t' }:=I.un (Un.laid k hp (I.hok.fresh hp)) (I.hok.laid k hp new)
theorem Inv.write {x e:Addr} {o:HO} {t':Nat} (I:Inv X pins σ H s) (mu:rY (H x)) (he:e=x\/H e=some (.own x)) (k:∀ b u,b≠e->s.heap.get? b=some u->h'.get? b=some u) (heo:∃ u,h'.get? e=some u)
  (new:YK X.prog X.w (upd H x o) h' x o):Inv X pins σ (upd H x o) { s with heap:=h',toks:=t' }:=I.un (Un.write mu he k heo) (I.hok.write mu he k heo new)
theorem Inv.mz {fu:List (Addr×Obj)} (I:Inv X pins σ H s) (h:∀ p∈fu,s.heap.get? p.1=some p.2/\H p.1=none/\p.1≠X.env.locals/\p.1∉X.fs/\∀ v,p.2.data ≠ .cell v):Inv X fu σ H s :=
 ⟨I.ok,I.os,I.bare,I.base,I.loc,I.cell,I.free,I.aV,fun p hp=>(ag.mp hp).elim (fun z=>I.pin p (List.mem_append_left _ z)) (h p),I.hok,I.len⟩
theorem V4 {N:List Str} (hN:N.Nodup) {i j:Nat} {x:Str} (a:N[i]?=some x) (b:N[j]?=some x):i=j:=by
 obtain ⟨h1,e1⟩:=Ι.mp a;obtain ⟨h2,e2⟩:=Ι.mp b;exact (List.getElem_inj hN).mp (e1.trans e2.symm)
theorem Km {M:Model} {A:ζ} {E:Α->Δ->Prop} {i:Nat} {x:Str} {v:V} {u:Α} {Q:Unit->Δ->Prop} (I:Inv X pins σ H s) (hN:X.N.Nodup) (hi:X.N[i]?=some x) (hx:Loc X.env.scope x) (r:Yx v u)
  (h:∀ s',Inv X pins (σ.set i (some v)) H s'->(∃ a,ci a s.heap s'.heap/\(a=X.env.locals\/X.env.cells.lookup x=some a))->Q () s') (hf:X.fn x=true\/X.env.scope.names.lookup x=some .local:=by first | exact .inl rfl | exact .inr rfl | assumption):Κ M A (storeName X.env x u) Q E s:=by
 obtain ⟨m,hn,hl⟩:=id I.loc;have hcls:(X.env.scope.kind == .class||(X.env.scope.kind == .module&&X.env.locals != X.env.globals))=false:=by rw [I.ok.kind];rfl
 have vp:i<σ.length:=by rw [I.len];exact (Ι.mp hi).1
 have fO:=I.fO;have tracked:∀ {a:Addr} {h':Heap},(∃ o,s.heap.get? a=some o/\H a=none)->ci a s.heap h'->bA X.prog X.w H h':=fun {a h'} ha hs b ob e=>by
  obtain ⟨_,_,hfree⟩:=ha;refine (I.hok b ob e).stay (fun c w' hc q=>(hs.2 c ?_).trans q) (fun _ q=>q) fun _ _ q=>q
  rintro rfl;rcases hc with rfl | hc
  ·rw [hfree] at e;cases e
  ·rw [hfree] at hc;cases hc
 rcases hx with hk | hk
 ·refine wpAny_storeName_local hk hn (fun h' hn' hs=>?_) hcls
  obtain ⟨oL,_,_,hoL,_⟩:=id hn;refine h _ ⟨I.ok,I.os,I.bare,⟨fun b o e n hb hx=>?_,fun b o e n hb hx=>?_,I.base.free,fun b o e hx=>?_,I.base.tups,I.base.bB,I.base.bW⟩,⟨_,hn',fun j y v' e1 e2 e3=>?_⟩,fun y c e=>?_,I.free,I.aV,fun p hp=>?_,tracked ⟨oL,hoL,I.free⟩ hs,by simpa using I.len⟩ ⟨_,hs,.inl rfl⟩
  ·exact (hs.2 b (ν (τ (Ν e) I.ok.above))).trans (I.base.keep b o e n hb hx)
  ·obtain ⟨sl,e1⟩:=I.base.slot b o e n hb hx
   exact ⟨sl,(hs.2 b (ν (τ (Ν e) I.ok.above))).trans e1⟩
  ·obtain ⟨o',e1⟩:=I.base.there b o e hx
   exact ⟨o',(hs.2 b (ν (τ (Ν e) I.ok.above))).trans e1⟩
  ·by_cases hj:j=i
   ·subst hj
    rw [hi] at e1;cases e1
    rw [List.getElem?_set_self vp] at e2
    cases e2
    exact ⟨u,r,.inl ⟨hk,by simp⟩⟩
   ·rw [List.getElem?_set_ne (ah hj)] at e2
    obtain ⟨u',r',q⟩:=hl j y v' e1 e2 e3;refine ⟨u',r',?_⟩;rcases q with ⟨k,e⟩ | ⟨k,c,e,z⟩
    ·refine .inl ⟨k,?_⟩
     have:y≠x:=fun e=>hj (V4 hN e1 (e▸hi))
     simp [this,e]
    ·exact .inr ⟨k,c,e,z.sameBut hs (fO y c e)⟩
  ·obtain ⟨w',z⟩:=I.cell y c e
   exact ⟨w',z.sameBut hs (fO y c e)⟩
  ·obtain ⟨e,n,ne,nf,d⟩:=I.pin p hp
   exact ⟨(hs.2 p.1 ne).trans e,n,ne,nf,d⟩
 ·have hfn:X.fn x=true:=by
   rcases hf with z | z
   ·exact z
   ·rw [z] at hk;cases hk
  obtain ⟨c,hc⟩:=I.ok.has x (.inl hk);obtain ⟨w',z⟩:=I.cell x c hc;refine wpAny_storeName_cell I.ok.kind hk hc z (fun h' hc' hs=>?_);obtain ⟨oc,hoc,Jl⟩:=id z;refine h { s with heap:=h' } ⟨I.ok,I.os,I.bare,⟨fun b o e n hb hx=>?_,fun b o e n hb hx=>?_,I.base.free,fun b o e hx=>?_,I.base.tups,I.base.bB,I.base.bW⟩,⟨m,hn.sameBut hs (ah (fO x c hc)),fun j y v' e1 e2 e3=>?_⟩,fun y c' e=>?_,I.free,I.aV,fun p hp=>?_,tracked ⟨oc,hoc,I.aV x c hc⟩ hs,by simpa using I.len⟩ ⟨c,hs,.inr hc⟩
  ·exact (hs.2 b (ν (τ (Ν e) (I.ok.cab x c hfn hc)))).trans (I.base.keep b o e n hb hx)
  ·obtain ⟨sl,e1⟩:=I.base.slot b o e n hb hx
   exact ⟨sl,(hs.2 b (ν (τ (Ν e) (I.ok.cab x c hfn hc)))).trans e1⟩
  ·obtain ⟨o',e1⟩:=I.base.there b o e hx
   exact ⟨o',(hs.2 b (ν (τ (Ν e) (I.ok.cab x c hfn hc)))).trans e1⟩
  ·by_cases hj:j=i
   ·subst hj
    rw [hi] at e1;cases e1
    rw [List.getElem?_set_self vp] at e2
    cases e2
    exact ⟨u,r,.inr ⟨.inl hk,c,hc,hc'⟩⟩
   ·rw [List.getElem?_set_ne (ah hj)] at e2
    obtain ⟨u',r',q⟩:=hl j y v' e1 e2 e3;refine ⟨u',r',?_⟩;rcases q with q | ⟨k,c',e,z'⟩
    ·exact .inl q
    ·refine .inr ⟨k,c',e,z'.sameBut hs ?_⟩
     rintro rfl;exact hj (V4 hN e1 (I.ok.inj _ _ _ e hc▸hi))
  ·by_cases hcc:c'=c
   ·subst hcc;exact ⟨_,hc'⟩
   ·obtain ⟨w2,z2⟩:=I.cell y c' e
    exact ⟨w2,z2.sameBut hs hcc⟩
  ·obtain ⟨e,n,ne,nf,d⟩:=I.pin p hp
   refine ⟨(hs.2 p.1 ?_).trans e,n,ne,nf,d⟩;intro q;rw [q,hoc] at e
   have q':oc=p.2:=Θ e;exact d w' (by rw [<- q'];exact Jl)
theorem Vj {M:Model} {A:ζ} {E:Α->Δ->Prop} {i:Nat} {x:Str} {v:V} {u:Α} {Q:Unit->Δ->Prop} (I:Inv X pins σ H s) (hN:X.N.Nodup) (hi:X.N[i]?=some x) (hx:Loc X.env.scope x) (r:Yx v u)
  (h:∀ s',Inv X pins (σ.set i (some v)) H s'->Q () s') (hf:X.fn x=true\/X.env.scope.names.lookup x=some .local:=by first | exact .inl rfl | exact .inr rfl | assumption):Κ M A (storeName X.env x u) Q E s :=
 Km I hN hi hx r (fun s' I' _=>h s' I') hf
theorem Inv.call' {s':Δ} {ch:List Addr} (I:Inv X pins σ H s) (ho:s'.os=s.os) (u:Un (frs X.stack) ch H H' s.heap s'.heap) (hok:bA X.prog X.w H' s'.heap) (hg:hU s'.gens)
  (hch:∀ b∈ch,(b∈X.ex\/X.s₀.heap.objs.size<=b)/\b≠X.env.locals/\(∀ x c,X.env.cells.lookup x=some c->c≠b)/\∀ p∈X.pn++pins,p.1≠b):Inv X pins σ H' s':=by
 obtain ⟨h',g',d',t',o'⟩:=s';have e:o'=s.os:=ho;subst e;exact I.call (g':=g') (t':=t') (d':=d') u hok hg hch
end
abbrev XK:=Α->Option Addr->Hp->Prop
abbrev St:=List (Option V)
abbrev VK:=V->Hp->Prop
abbrev TE:=St->Hp->VK->Prop
abbrev TT:=St->Hp->(Bool->Hp->Prop)->Prop
abbrev TA:=St->Hp->(List V->Hp->Prop)->Prop
structure Ends where
 nx:St->Hp->Prop
 rt:VK
 bk:St->Hp->Prop:=fun _ _=>False
 ct:St->Hp->Prop:=fun _ _=>False
abbrev TS:=Ends->St->Hp->Prop
def EP (X:Cx) (pins:List (Addr×Obj)) (σ:St) (Q:VK) (u:Α) (s':Δ):Prop:=∃ v H',Inv X pins σ H' s'/\Yx v u/\Q v H'
def TP (X:Cx) (pins:List (Addr×Obj)) (σ:St) (Q:Bool->Hp->Prop) (b:Bool) (s':Δ):Prop:=∃ H',Inv X pins σ H' s'/\Q b H'
def AP (X:Cx) (pins:List (Addr×Obj)) (σ:St) (Q:List V->Hp->Prop) (us:List Α) (s':Δ):Prop:=∃ vs H',Inv X pins σ H' s'/\Ym vs us/\Q vs H'
def SP (X:Cx) (pins:List (Addr×Obj)) (D:Ends) (f:Flow) (s':Δ):Prop :=
 match f with
 | .next=>∃ σ' H',Inv X pins σ' H' s'/\D.nx σ' H'
 | .brk=>∃ σ' H',Inv X pins σ' H' s'/\D.bk σ' H'
 | .cont=>∃ σ' H',Inv X pins σ' H' s'/\D.ct σ' H'
 | .ret u=>∃ v σ' H',Inv X pins σ' H' s'/\Yx v u/\D.rt v H'
def PE (X:Cx) (e:Expr) (t:TE):Prop :=
 ∀ (pins:List (Addr×Obj)) (s:Δ) (σ:St) (H:Hp) (Q:VK),Inv X pins σ H s->t σ H Q->Κ (Ο X.prog X.w) X.A (eval e X.env) (EP X pins σ Q) X.xe s
def PT (X:Cx) (e:Expr) (t:TT):Prop :=
 ∀ (pins:List (Addr×Obj)) (s:Δ) (σ:St) (H:Hp) (Q:Bool->Hp->Prop),Inv X pins σ H s->t σ H Q->Κ (Ο X.prog X.w) X.A (isTrue e X.env (eval e X.env)) (TP X pins σ Q) X.xe s
def PW (X:Cx) (e:Expr) (t:TT):Prop :=
 ∀ (whole:Sem Α) (pins:List (Addr×Obj)) (s:Δ) (σ:St) (H:Hp) (Q:Bool->Hp->Prop),Inv X pins σ H s->t σ H Q->Κ (Ο X.prog X.w) X.A (isTrue e X.env whole) (TP X pins σ Q) X.xe s
theorem PW.pt {X:Cx} {e:Expr} {t:TT} (h:PW X e t):PT X e t:=h _
def PA (X:Cx) (es:List Expr) (t:TA):Prop :=
 ∀ (pos:Pos) (pins:List (Addr×Obj)) (s:Δ) (σ:St) (H:Hp) (Q:List V->Hp->Prop),Inv X pins σ H s->t σ H Q->Κ (Ο X.prog X.w) X.A (spliced (bz pos (Χ es X.env))) (AP X pins σ Q) X.xe s
def PS (X:Cx) (st:Stmt) (t:TS):Prop :=
 ∀ (pins:List (Addr×Obj)) (s:Δ) (σ:St) (H:Hp) (D:Ends),Inv X pins σ H s->t D σ H->Κ (Ο X.prog X.w) X.A (exec st X.env) (SP X pins D) X.xe s
def cR (X:Cx) (st:List Stmt) (t:TS):Prop :=
 ∀ (pins:List (Addr×Obj)) (s:Δ) (σ:St) (H:Hp) (D:Ends),Inv X pins σ H s->t D σ H->Κ (Ο X.prog X.w) X.A (execs st X.env) (SP X pins D) X.xe s
theorem aD {α:Type} {t:Sem α} {Q Q':α->Δ->Prop} {M:Model} {A:ζ} {E:Α->Δ->Prop} {s:Δ} (h:Κ M A t Q E s) (hQ:∀ a s,Q a s->Q' a s):Κ M A t Q' E s:=ω h hQ fun _ _ x=>x
section
variable {X:Cx}
def kI (x:V) (k:Int->Prop):Prop:=match x with | .int i=>k i | _=>False
def kB (x:V) (k:Bool->Prop):Prop:=match x with | .bl i=>k i | _=>False
def kR (x:V) (k:Addr->Prop):Prop:=match x with | .ref i=>k i | _=>False
def k1 (l:List V) (k:V->Prop):Prop:=match l with | [x]=>k x | _=>False
def k2 (l:List V) (k:V->V->Prop):Prop:=match l with | [x,y]=>k x y | _=>False
theorem BK (i:Int) (k:Int->Prop):kI (.int i) k=k i:=rfl
theorem BL (i:Bool) (k:Bool->Prop):kB (.bl i) k=k i:=rfl
theorem BP (i:Addr) (k:Addr->Prop):kR (.ref i) k=k i:=rfl
theorem BR (x:V) (k:V->Prop):k1 [x] k=k x:=rfl
theorem BW (x y:V) (k:V->V->Prop):k2 [x,y] k=k x y:=rfl
theorem UJ {x:V} {k:Int->Prop}:kI x k↔∃ i,x = .int i/\k i:=⟨fun h=>by cases x<;>first | exact ⟨_,rfl,h⟩ | exact h.elim,fun ⟨_,e,h⟩=>e▸h⟩
theorem UK {x:V} {k:Bool->Prop}:kB x k↔∃ i,x = .bl i/\k i:=⟨fun h=>by cases x<;>first | exact ⟨_,rfl,h⟩ | exact h.elim,fun ⟨_,e,h⟩=>e▸h⟩
theorem W1 {x:V} {k:Addr->Prop}:kR x k↔∃ i,x = .ref i/\k i:=⟨fun h=>by cases x<;>first | exact ⟨_,rfl,h⟩ | exact h.elim,fun ⟨_,e,h⟩=>e▸h⟩
theorem vq {l:List V} {k:V->Prop} (h:k1 l k):∃ x,l=[x]/\k x:=by
 unfold k1 at h
 split at h
 ·exact ⟨_,rfl,h⟩
 ·exact h.elim
theorem Jm {l:List V} {k:V->V->Prop} (h:k2 l k):∃ x y,l=[x,y]/\k x y:=by
 unfold k2 at h
 split at h
 ·exact ⟨_,_,rfl,h⟩
 ·exact h.elim
def iw:Nat->St->(V->Prop)->Prop
 | 0,σ,k=>match σ with | some v::_=>k v | _=>False
 | n+1,σ,k=>match σ with | _::l=>iw n l k | []=>False
theorem BX (v:V) (l:St) (k:V->Prop):iw 0 (some v::l) k=k v:=rfl
theorem BZ (n:Nat) (a:Option V) (l:St) (k:V->Prop):iw (n+1) (a::l) k=iw n l k:=rfl
theorem Ca:∀ {n:Nat} {σ:St} {k:V->Prop},iw n σ k->∃ v,σ[n]?=some (some v)/\k v
 | 0,σ,k,h=>by
  unfold iw at h
  split at h
  ·exact ⟨_,rfl,h⟩
  ·exact h.elim
 | n+1,σ,k,h=>by
  unfold iw at h
  split at h
  ·exact Ca (n:=n) h
  ·exact h.elim
theorem QO:∀ {n:Nat} {σ:St} {k:V->Prop} {v:V},σ[n]?=some (some v)->k v->iw n σ k
 | _,[],_,_,e,_=>by simp at e
 | 0,a::σ,k,v,e,h=>by
  have:a=some v:=by simpa using e
  subst this;exact h
 | n+1,a::σ,k,v,e,h=>QO (n:=n) (σ:=σ) (by simpa using e) h
def Wy (i:Nat):TE:=fun σ H Q=>iw i σ fun v=>Q v H
def tC (v:V):TE:=fun _ H Q=>Q v H
theorem Cd {i:Nat} {x:Str} {pos:Pos} (hN:X.N[i]?=some x) (hv:sy X.env.scope x) (hd:(x==("__debug__":Str))=false:=by decide) (hcd:(x==("__classdict__":Str))=false:=by decide):PE X (.Name x pos) (Wy i):=by
 intro pins s σ H Q I h;obtain ⟨v,e,h⟩:=Ca h;obtain ⟨m,hn,hl⟩:=I.loc;obtain ⟨u,r,l⟩:=hl i x v hN e hv;have fin:EP X pins σ Q u s:=⟨v,H,I,r,h⟩;rcases l with ⟨hk,hm⟩ | ⟨hk,c,hc,hcell⟩
 ·exact wpAny_Name (wpAny_loadName_local I.ok.kind hk hn hm fin) hd
 ·rcases hk with hk | hk
  ·exact wpAny_Name (wpAny_loadName_cell I.ok.kind hk hc hcell fin) hd
  ·exact wpAny_Name (wpAny_loadName_free I.ok.kind hk hc hcell fin hcd) hd
theorem Yi {i j pos}:PE X (.Constant (.int i) j pos) (tC (.int i)):=fun _ _ _ H _ I h=>wpAny_Constant_int ⟨.int i,H,I.tok _,⟨_,rfl⟩,h⟩
theorem Xe {b j pos}:PE X (.Constant (.bool b) j pos) (tC (.bl b)):=fun _ _ _ H _ I h=>Constant_bool ⟨.bl b,H,I,rfl,h⟩
theorem Y5 {j pos}:PE X (.Constant .none j pos) (tC .non):=fun _ _ _ H _ I h=>Constant_none ⟨.non,H,I,rfl,h⟩
theorem Yn {x j pos}:PE X (.Constant (.str x) j pos) (tC (.str x)):=fun _ _ _ H _ I h=>Calls.Constant_str ⟨.str x,H,I.tok _,⟨_,rfl⟩,h⟩
def Gl (X:Cx) (x:Str):Prop:=X.env.kindOf x=some .globalImplicit
theorem XQ {E:Α->Δ->Prop} {pins:List (Addr×Obj)} {s:Δ} {σ:St} {H:Hp} {x:Str} {u:Α} {pos:Pos} {Q:Α->Δ->Prop} (I:Inv X pins σ H s) (hg:Gl X x) (hm:X.mg x=some u) (h:Q u s)
  (hd:(x==("__debug__":Str))=false:=by decide):Κ (Ο X.prog X.w) X.A (eval (.Name x pos) X.env) Q E s :=
 Calls.Name_function_global I.ok.kind hg (Calls.loadGlobal_global (by rw [I.ok.glob];exact I.mod.glob.keeps I.bk) hm h) hd
theorem X8 {E:Α->Δ->Prop} {pins:List (Addr×Obj)} {s:Δ} {σ:St} {H:Hp} {x:Str} {u:Α} {pos:Pos} {Q:Α->Δ->Prop} (I:Inv X pins σ H s) (hg:Gl X x) (hm:X.mg x=none) (hv:eL x=some u) (h:Q u s)
  (hn:x≠"__name__":=by decide) (hd:(x==("__debug__":Str))=false:=by decide):Κ (Ο X.prog X.w) X.A (eval (.Name x pos) X.env) Q E s:=by
 obtain ⟨mb,h1,h2⟩:=I.mod.blt;exact Calls.Name_function_global I.ok.kind hg (Calls.loadGlobal_builtin (by rw [I.ok.glob];exact I.mod.glob.keeps I.bk) hm (by rw [I.ok.blt];exact h1.keeps I.bk) ((h2 x hn).trans hv) h) hd
theorem Ce {x:Str} {v:V} {u:Α} {pos:Pos} (hg:Gl X x) (hm:X.mg x=some u) (r:Yx v u) (hd:(x==("__debug__":Str))=false:=by decide):PE X (.Name x pos) (tC v) :=
 fun _ _ _ H _ I h=>XQ I hg hm ⟨v,H,I,r,h⟩ hd
theorem Ko {x:Str} {v:V} {u:Α} {pos:Pos} (hg:Gl X x) (hm:X.mg x=none) (hv:eL x=some u) (r:Yx v u) (hn:x≠"__name__":=by decide) (hd:(x==("__debug__":Str))=false:=by decide):PE X (.Name x pos) (tC v) :=
 fun _ _ _ H _ I h=>X8 I hg hm hv ⟨v,H,I,r,h⟩ hn hd
variable {a b:Expr} {ta tb:TE} {pos:Pos}
def tB (t:TE):TT:=fun σ H Q=>t σ H fun x H1=>kB x fun c=>Q c H1
theorem Y8 {e:Expr} {t:TE} (h:PE X e t) (he:∀ whole,isTrue e X.env whole=(do let v <- whole;standAt e.pos;holding [v] (truthy v))):PT X e (tB t):=by
 intro pins s σ H Q I hw;refine isTrue_plain (aD (h pins s σ H _ I hw) fun v s1 ⟨x,H1,I1,r1,q1⟩=>?_) (he _);obtain ⟨d,rfl,q⟩:=UK.mp q1
 cases r1
 exact e9 ⟨H1,I1,q⟩
variable {tA Cg:TT} {YQ:List Expr}
def vA (t u:TT):TT:=fun σ H Q=>t σ H fun c H1=>if c=true then u σ H1 Q else Q false H1
def vB (t u:TT):TT:=fun σ H Q=>t σ H fun c H1=>if c=true then Q true H1 else u σ H1 Q
def qJ (t:TT):TT:=fun σ H Q=>t σ H fun c H1=>Q (!c) H1
theorem Wp (ha:PT X a tA):PW X (.BoolOp .Or [a] pos) tA:=by
 intro wh pins s σ H Q I h;refine isTrue_or (aD (ha pins s σ H Q I h) fun c s1 e=>?_)
 cases c with
 | false=>exact isTrue_or_nil e
 | true=>exact e
theorem XY (ha:PT X a tA) (hb:PW X (.BoolOp .Or (b::YQ) pos) Cg):PW X (.BoolOp .Or (a::b::YQ) pos) (vB tA Cg):=by
 intro wh pins s σ H Q I h;refine isTrue_or (aD (ha pins s σ H _ I h) fun c s1 ⟨H1,I1,q1⟩=>?_)
 cases c with
 | true=>exact ⟨H1,I1,q1⟩
 | false=>exact hb wh pins s1 σ H1 Q I1 q1
theorem Xt (ha:PT X a tA):PT X (.UnaryOp .Not a pos) (qJ tA):=by
 intro pins s σ H Q I h;exact isTrue_not (ha pins s σ H (fun c H1=>Q (!c) H1) I h)
def vC (ta tb:TE):TE:=fun σ H Q=>ta σ H fun x H1=>kB x fun c=>if c=true then tb σ H1 Q else Q (.bl false) H1
def vD (ta tb:TE):TE:=fun σ H Q=>ta σ H fun x H1=>kB x fun c=>if c=true then Q (.bl true) H1 else tb σ H1 Q
def vG (ta:TE):TE:=fun σ H Q=>ta σ H fun x H1=>kB x fun c=>Q (.bl (!c)) H1
theorem X9 {op} {t:TE} (h:PE X a t):PE X (.BoolOp op [a] pos) t:=fun pins s σ H Q I hw=>BoolOp_one (h pins s σ H Q I hw)
theorem Wa (ha:PE X a ta) (hb:PE X (.BoolOp .And (b::YQ) pos) tb):PE X (.BoolOp .And (a::b::YQ) pos) (vC ta tb):=by
 intro pins s σ H Q I h;refine BoolOp_and (aD (ha pins s σ H _ I h) fun v s1 ⟨x,H1,I1,r1,q1⟩=>?_)
 replace q1:=UK.mp q1
 obtain ⟨c,rfl,q1⟩:=q1
 cases r1
 refine e9 ?_
 cases c with
 | true=>exact hb pins s1 σ H1 Q I1 q1
 | false=>exact ⟨.bl false,H1,I1,rfl,q1⟩
theorem Ci (ha:PE X a ta):PE X (.UnaryOp .Not a pos) (vG ta):=by
 intro pins s σ H Q I h;refine UnaryOp_ (aD (ha pins s σ H _ I h) fun v s1 ⟨x,H1,I1,r1,q1⟩=>?_)
 replace q1:=UK.mp q1
 obtain ⟨c,rfl,q1⟩:=q1
 cases r1
 exact not_of (e9 ⟨.bl (!c),H1,I1,rfl,q1⟩)
def vH (t:TT) (ta tb:TE):TE:=fun σ H Q=>t σ H fun c H1=>if c=true then ta σ H1 Q else tb σ H1 Q
theorem Q5 {c:Expr} (hc:PT X c tA) (ha:PE X a ta) (hb:PE X b tb):PE X (.IfExp c a b pos) (vH tA ta tb):=by
 intro pins s σ H Q I h;refine wpAny_IfExp (aD (hc pins s σ H _ I h) fun d s1 ⟨H1,I1,q1⟩=>?_)
 cases d with
 | true=>exact ha pins s1 σ H1 Q I1 q1
 | false=>exact hb pins s1 σ H1 Q I1 q1
end
def ao (K:Λ) (H:Hp) (a:Addr) (xs:List V):Prop :=
 Rd H a (.lst xs) \/
  ∃ (o:Obj) (its:Array Α) (n:Nat),K.lookup a=some o/\o.cls = .type "list"/\o.dict=none/\o.data = .seq its n/\its.size<=sizeLine/\Ym xs its.toList
def aA (K:Λ) (H:Hp) (a:Addr) (xs:List V):Prop :=
 Rd H a (.tup xs) \/
  ∃ (o:Obj) (its:Array Α) (n:Nat),K.lookup a=some o/\o.cls = .type "tuple"/\o.data = .seq its n/\its.size<=sizeLine/\Ym xs its.toList
def Jo:Α->Option V
 | .none=>some .non
 | .bool b=>some (.bl b)
 | .int i _=>some (.int i)
 | .str x _=>some (.str x)
 | .bytes b _=>some (.fM b)
 | .float b _=>some (.flt b)
 | .ref a=>some (.ref a)
 | .type n=>some (.ty n)
 | _=>none
theorem Yx.abs {x:V} {u:Α} (r:Yx x u):Jo u=some x:=by
 cases x with
 | non=>cases r;rfl
 | bl _=>cases r;rfl
 | int _=>obtain ⟨t,rfl⟩:=r;rfl
 | str _=>obtain ⟨t,rfl⟩:=r;rfl
 | fM _=>obtain ⟨t,rfl⟩:=r;rfl
 | flt _=>obtain ⟨t,rfl⟩:=r;rfl
 | ref _=>cases r;rfl
 | ty _=>cases r;rfl
theorem Yx.inj {x y:V} {u:Α} (r:Yx x u) (q:Yx y u):x=y:=Θ (r.abs.symm.trans q.abs)
theorem Ym.inj:∀ {xs ys:List V} {us:List Α},Ym xs us->Ym ys us->xs=ys
 | _,_,_,.nil,.nil=>rfl
 | _,_,_,.cons r t,.cons r' t'=>by rw [r.inj r',Ym.inj t t']
section
variable {X:Cx} {pins:List (Addr×Obj)} {σ:St} {H:Hp} {s:Δ} {a:Addr} {xs ys:List V}
theorem ao.of {K:Λ} (h:H a=some (.lst xs)):ao K H a xs := .inl (.inl h)
theorem aA.of {K:Λ} (h:H a=some (.tup xs)):aA K H a xs := .inl (.inl h)
theorem Inv.list (I:Inv X pins σ H s) (h:ao X.K H a xs):∃ its:List Α,Ym xs its/\PlainL s.heap a its.toArray/\xs.length<=sizeLine:=by
 rcases h with h | ⟨o,its,n,hk,hc,hd,hs,hz,r⟩
 ·obtain ⟨z,its,n,r,e⟩:=h.ok I.hok
  exact ⟨its,r,⟨_,n,e,rfl,rfl,rfl⟩,z⟩
 ·refine ⟨its.toList,r,⟨o,n,I.aX a o hk,hc,hd,by simpa using hs⟩,?_⟩
  have e:=r.length;simp only [ie] at e;omega
theorem Inv.tuple (I:Inv X pins σ H s) (h:aA X.K H a xs):∃ its:List Α,Ym xs its/\IsTup s.heap a its.toArray/\xs.length<=sizeLine:=by
 rcases h with h | ⟨o,its,n,hk,hc,hs,hz,r⟩
 ·obtain ⟨z,its,r,p⟩:=h.ok I.hok
  exact ⟨its,r,p,z⟩
 ·refine ⟨its.toList,r,⟨o,I.aX a o hk,hc,n,by simpa using hs⟩,?_⟩
  have e:=r.length;simp only [ie] at e;omega
theorem Inv.iH (I:Inv X pins σ H s) (h:ao X.K H a xs) (h':ao X.K H a ys):xs=ys:=by
 obtain ⟨its,r,⟨o,n,e,_,_,d⟩,_⟩:=I.list h;obtain ⟨its',r',⟨o',n',e',_,_,d'⟩,_⟩:=I.list h';rw [e] at e';cases e'
 rw [d] at d'
 injection d' with d1 _
 have:its=its':=by simpa using congrArg Array.toList d1
 subst this;exact r.inj r'
theorem Inv.jH (I:Inv X pins σ H s) (h:aA X.K H a xs) (h':aA X.K H a ys):xs=ys:=by
 obtain ⟨its,r,⟨o,e,_,n,d⟩,_⟩:=I.tuple h;obtain ⟨its',r',⟨o',e',_,n',d'⟩,_⟩:=I.tuple h';rw [e] at e';cases e'
 rw [d] at d'
 injection d' with d1 _
 have:its=its':=by simpa using congrArg Array.toList d1
 subst this;exact r.inj r'
end
abbrev Cx.wish (X:Cx) (E:Α->Δ->Prop):Cx:={ X with xe:=E }
abbrev Cx.cB (X:Cx):Cx:=X.wish fun _ _=>False
theorem Cx.Ok.wish {X:Cx} (ok:X.Ok) (E:Α->Δ->Prop):(X.wish E).Ok :=
 ⟨ok.mod,ok.kind,ok.glob,ok.blt,ok.above,ok.inj,ok.has,ok.cab,ok.hd,ok.frames,ok.stk,ok.sE,ok.bs,ok.dG,ok.iG,ok.jz,ok.cu,ok.eE⟩
theorem Cx.Ok.cA {X:Cx} {E:Α->Δ->Prop} (ok:(X.wish E).Ok):X.Ok :=
 ⟨ok.mod,ok.kind,ok.glob,ok.blt,ok.above,ok.inj,ok.has,ok.cab,ok.hd,ok.frames,ok.stk,ok.sE,ok.bs,ok.dG,ok.iG,ok.jz,ok.cu,ok.eE⟩
section
variable {X:Cx} {pins:List (Addr×Obj)} {σ:St} {H:Hp} {s:Δ} {E:Α->Δ->Prop}
theorem Inv.wish (I:Inv X pins σ H s) (E:Α->Δ->Prop):Inv (X.wish E) pins σ H s:=⟨I.ok.wish E,I.os,I.bare,I.base,I.loc,I.cell,I.free,I.aV,I.pin,I.hok,I.len⟩
theorem Inv.cA (I:Inv (X.wish E) pins σ H s):Inv X pins σ H s:=⟨I.ok.cA,I.os,I.bare,I.base,I.loc,I.cell,I.free,I.aV,I.pin,I.hok,I.len⟩
theorem SP.cA {D:Ends} {f:Flow} {s':Δ} (h:SP (X.wish E) pins D f s'):SP X pins D f s':=by
 cases f with
 | next=>obtain ⟨σ',H',I,q⟩:=h;exact ⟨σ',H',I.cA,q⟩
 | brk=>obtain ⟨σ',H',I,q⟩:=h;exact ⟨σ',H',I.cA,q⟩
 | cont=>obtain ⟨σ',H',I,q⟩:=h;exact ⟨σ',H',I.cA,q⟩
 | ret u=>obtain ⟨v,σ',H',I,r,q⟩:=h;exact ⟨v,σ',H',I.cA,r,q⟩
theorem cR.cB {st:List Stmt} {t:TS} (h:cR X.cB st t):cR X st t:=fun pins s σ H D I hw =>
 ω (h pins s σ H D (I.wish _) hw) (fun _ _ q=>q.cA) fun _ _ z=>am z
end
section
variable {X:Cx} {st:Stmt} {YQ:List Stmt} {t u:TS} {e:Expr} {te:TE} {pos:Pos}
def Ug:TS:=fun D σ H=>D.nx σ H
def WI (t u:TS):TS:=fun D σ H=>t { D with nx:=u D } σ H
theorem Yr:cR X [] Ug:=fun _ _ σ H _ I h=>dP ⟨σ,H,I,h⟩
theorem Yf (h1:PS X st t) (h2:cR X YQ u):cR X (st::YQ) (WI t u):=by
 intro pins s σ H D I h;refine d5 (aD (h1 pins s σ H { D with nx:=u D } I h) fun f s1 q=>?_)
 cases f with
 | next =>
  obtain ⟨σ',H',I',q⟩:=q;exact h2 pins s1 σ' H' D I' q
 | ret v=>exact q
 | brk=>exact q
 | cont=>exact q
theorem Yg (h1:PS X st t):cR X [st] t:=by
 intro pins s σ H D I h;refine d5 (aD (h1 pins s σ H D I h) fun f s1 q=>?_)
 cases f with
 | next=>exact dP q
 | ret v=>exact q
 | brk=>exact q
 | cont=>exact q
def Cj:TS:=fun D σ H=>D.bk σ H
def Ck:TS:=fun D σ H=>D.ct σ H
theorem Inv.quiet {pins:List (Addr×Obj)} {σ:St} {H:Hp} {s:Δ} (I:Inv X pins σ H s):interactive X.env=false:=by simp [interactive,I.ok.kind]
def QP (te:TE):TS:=fun D σ H=>te σ H fun _ H1=>D.nx σ H1
theorem Y2 (he:PE X e te) (hs:kT e none pos.line X.env=pure false:=by rfl):PS X (.Expr e pos) (QP te):=by
 intro pins s σ H D I h;exact wpAny_Expr_any (aD (he pins s σ H _ I h) fun v s1 ⟨x,H1,I1,r1,q1⟩=>⟨σ,H1,I1,q1⟩) I.quiet hs
def qK (te:TE):TS:=fun D σ H=>te σ H D.rt
theorem Yl (he:PE X e te):PS X (.Return (some e) pos) (qK te):=by
 intro pins s σ H D I h;exact wpAny_Return_some (aD (he pins s σ H _ I h) fun v s1 ⟨x,H1,I1,r1,q1⟩=>⟨x,σ,H1,I1,r1,q1⟩)
def Cm:TS:=fun D _ H=>D.rt .non H
def Q6 (c:TT) (t u:TS):TS:=fun D σ H=>c σ H fun b H1=>if b=true then t D σ H1 else u D σ H1
theorem YE {c:Expr} {a b:List Stmt} {tc:TT} (hc:PT X c tc) (ha:cR X a t) (hb:cR X b u):PS X (.If c a b pos) (Q6 tc t u):=by
 intro pins s σ H D I h;refine wpAny_If (aD (hc pins s σ H _ I h) fun d s1 ⟨H1,I1,q1⟩=>?_)
 cases d with
 | true=>exact ha pins s1 σ H1 D I1 q1
 | false=>exact hb pins s1 σ H1 D I1 q1
def Q7:TS:=fun _ _ _=>False
theorem Xp:PS X st Q7:=fun _ _ _ _ _ _ h=>h.elim
end
abbrev TG:=V->St->Hp->(St->Hp->Prop)->Prop
abbrev j8:=List V->St->Hp->(St->Hp->Prop)->Prop
def PG (X:Cx) (target:Expr) (t:TG):Prop :=
 ∀ (pins:List (Addr×Obj)) (s:Δ) (σ:St) (H:Hp) (v:V) (u:Α) (Q:St->Hp->Prop),Inv X pins σ H s->Yx v u->t v σ H Q ->
  Κ (Ο X.prog X.w) X.A (assign target X.env u) (fun _ s'=>∃ σ' H',Inv X pins σ' H' s'/\Q σ' H') X.xe s
def sH (X:Cx) (ts:List Expr) (t:j8):Prop :=
 ∀ (pins:List (Addr×Obj)) (s:Δ) (σ:St) (H:Hp) (vs:List V) (us:List Α) (Q:St->Hp->Prop),Inv X pins σ H s->Ym vs us->t vs σ H Q ->
  Κ (Ο X.prog X.w) X.A (assignInOrder ((ku ts X.env).map (·.2)) us) (fun _ s'=>∃ σ' H',Inv X pins σ' H' s'/\Q σ' H') X.xe s
abbrev qL:=V->V->V->Hp->(Hp->Prop)->Prop
def vI (X:Cx) (t:qL):Prop :=
 ∀ (pins:List (Addr×Obj)) (s:Δ) (σ:St) (H:Hp) (o i v:V) (ov iv u:Α) (Q:Hp->Prop),Inv X pins σ H s->Yx o ov->Yx i iv->Yx v u->t o i v H Q ->
  Κ (Ο X.prog X.w) X.A (setItem ov iv u) (fun _ s'=>∃ H',Inv X pins σ H' s'/\Q H') X.xe s
abbrev Cp:=V->V->Hp->VK->Prop
section
variable {X:Cx} {pos:Pos}
def YF (i:Nat):TG:=fun v σ H Q=>Q (σ.set i (some v)) H
theorem YB {i:Nat} {x:Str} (hN:X.N.Nodup) (hi:X.N[i]?=some x) (hx:Loc X.env.scope x) (hf:X.fn x=true\/X.env.scope.names.lookup x=some .local):PG X (.Name x pos) (YF i):=by
 intro pins s σ H v u Q I r h;exact wpAny_assign_Name (Vj I hN hi hx r (fun s' I'=>⟨_,H,I',h⟩) hf)
def Vv:j8:=fun vs σ H Q=>vs=[]/\Q σ H
def XL (t:TG) (u:j8):j8:=fun vs σ H Q=>∃ v r,vs=v::r/\t v σ H fun σ' H'=>u r σ' H' Q
theorem X4:sH X [] Vv:=by
 intro pins s σ H vs us Q I r h;obtain ⟨e,h⟩:=h;subst e
 cases r
 exact assignInOrder_nil ⟨σ,H,I,h⟩
theorem YX {e:Expr} {es:List Expr} {t:TG} {u:j8} (h1:PG X e t) (h2:sH X es u)
  (hs:(ku (e::es) X.env).map (·.2)=assign e X.env::(ku es X.env).map (·.2)):sH X (e::es) (XL t u):=by
 intro pins s σ H vs us Q I r h;obtain ⟨v,vr,e1,h⟩:=h;subst e1
 cases r with
 | cons r rr =>
  rw [hs];refine assignInOrder_cons (aD (h1 pins s σ H _ _ _ I r h) fun _ s1 ⟨σ1,H1,I1,q1⟩=>?_);exact h2 pins s1 σ1 H1 _ _ Q I1 rr q1
def Vk (K:Λ) (n:Nat) (t:j8):TG:=fun v σ H Q=>∃ a xs,v = .ref a/\aA K H a xs/\xs.length=n/\t xs σ H Q
theorem Wq {es:List Expr} {k:Nat} {t:j8} {n:Nat} (hc:X.calm=true) (h:sH X es t)
  (hn:(ku es X.env).length=n) (hst:(ku es X.env).findIdx? (·.1)=none):PG X (.Tuple es k pos) (Vk X.K n t):=by
 intro pins s σ H v u Q I r hw;obtain ⟨a,xs,e1,hq,hl,hw⟩:=hw;subst e1
 cases r
 obtain ⟨its,rv,ht,hz⟩:=I.tuple hq;refine assign_Tuple_tuple (I.ok.hd hc) ht (by simp [hn,<- hl,rv.length]) hst fun h' hx=>?_
 have I1:Inv X pins σ H { s with heap:=h' }:=I.kept (t':=s.toks) fun b o e=>hx b o (ν (Ν e)) e
 exact h pins _ σ H xs _ Q I1 (by simpa using rv) hw
def qM (to ti:TE) (t:qL):TG:=fun v σ H Q=>to σ H fun o H1=>ti σ H1 fun i H2=>t o i v H2 fun H3=>Q σ H3
theorem Kp {o i:Expr} {to ti:TE} {t:qL} (ho:PE X o to) (hi:PE X i ti) (hs:vI X t)
  (ha:∀ v,assign (.Subscript o i pos) X.env v=(do
   let ov <- holding [v] (eval o X.env)
   let iv <- holding [v,ov] (eval i X.env)
   standAt pos
   holding [v,ov,iv] (setItem ov iv v)
   release [v,ov,iv] [])):PG X (.Subscript o i pos) (qM to ti t):=by
 intro pins s σ H v u Q I r h;rw [ha];refine Β (dy (aD (ho pins s σ H _ I h) fun ov s1 ⟨x,H1,I1,r1,q1⟩=>?_));refine Β (dy (aD (hi pins s1 σ H1 _ I1 q1) fun iv s2 ⟨y,H2,I2,r2,q2⟩=>?_));refine Β (fz (Β (dy (aD (hs pins s2 σ H2 x y v ov iv u _ I2 r1 r2 r q2) fun _ s3 ⟨H3,I3,q3⟩=>?_))));exact wpAny_release ⟨σ,H3,I3,q3⟩
def sJ (te:TE) (g:TG):TS:=fun D σ H=>te σ H fun x H1=>g x σ H1 D.nx
theorem Kq {tg e:Expr} {te:TE} {g:TG} (he:PE X e te) (hg:PG X tg g) (hs:swapsWithSole [tg] e pos.line X.env=pure false) (hw:swappedStores [tg] e X.env=pure none)
  (h1:(ku [tg] X.env).map (·.2)=[assign tg X.env]):PS X (.Assign [tg] e pos) (sJ te g):=by
 intro pins s σ H D I h;refine wpAny_Assign_stores (aD (he pins s σ H _ I h) fun v s1 ⟨x,H1,I1,r1,q1⟩=>?_) hs hw;rw [h1];exact aD (hg pins s1 σ H1 x v _ I1 r1 q1) fun _ s2 q=>q
theorem YA {i:Nat} {x:Str} {e:Expr} {te:TE} {pos':Pos} (hN:X.N.Nodup) (hi:X.N[i]?=some x) (hx:Loc X.env.scope x) (he:PE X e te) (hs:kT e (some (.Name x pos')) pos.line X.env=pure false) (hf:X.fn x=true\/X.env.scope.names.lookup x=some .local) :
  PS X (.Assign [.Name x pos'] e pos) (sJ te (YF i)):=by
 intro pins s σ H D I h;refine wpAny_Assign_Name (aD (he pins s σ H _ I h) fun v s1 ⟨y,H1,I1,r1,q1⟩=>?_) hs;exact Vj I1 hN hi hx r1 (fun s2 I2=>⟨_,H1,I2,q1⟩) hf
def vJ (i:Nat) (te:TE) (ti:Cp):TS:=fun D σ H=>iw i σ fun x=>te σ H fun y H1=>ti x y H1 fun z H2=>D.nx (σ.set i (some z)) H2
def Cq (f:Int->Int->Int):Cp:=fun x y H Q=>kI x fun i=>kI y fun j=>Q (.int (f i j)) H
theorem vK {x y:V} {k:Int->Int->Prop} (h:kI x fun i=>kI y fun j=>k i j):∃ i j,x = .int i/\y = .int j/\k i j:=by
 obtain ⟨i,e,h⟩:=UJ.mp h;obtain ⟨j,e',h⟩:=UJ.mp h;exact ⟨i,j,e,e',h⟩
def Cr (c:TT) (tb:TS):TS:=fun D σ H=>∃ W:Nat->St->Hp->Prop,(∃ m,W m σ H)/\∀ m σ H,W m σ H ->
 c σ H fun b H1=>if b=true then ∃ N:St->Hp->Prop,(∀ σ' H',N σ' H'->∃ m',m'<m/\W m' σ' H')/\tb { D with nx:=N,ct:=N,bk:=D.nx } σ H1 else D.nx σ H1
theorem Q8 {c:Expr} {body:List Stmt} {tc:TT} {tb:TS} (hp:PassesOwn (Ο X.prog X.w) X.A X.env X.xe) (hc:PT X c tc) (hb:cR X body tb):PS X (.While c body [] pos) (Cr tc tb):=by
 intro pins s σ H D I h;obtain ⟨W,⟨m0,w0⟩,turn⟩:=h;refine wpAny_While (codeAny_whileLoop (fun n s'=>∃ σ' H',Inv X pins σ' H' s'/\W n σ' H') ?_ m0 ⟨σ,H,I,w0⟩);rintro n s1 ⟨σ1,H1,I1,w1⟩;refine eR hp (aD (hc pins s1 σ1 H1 _ I1 (turn n σ1 H1 w1)) fun b s2 ⟨H2,I2,q2⟩=>?_)
 cases b with
 | true =>
  obtain ⟨N,hN,q2⟩:=q2;rw [if_pos rfl];refine eR hp (aD (hb pins s2 σ1 H2 _ I2 q2) fun f s3 q3=>?_)
  cases f with
  | next =>
   obtain ⟨σ3,H3,I3,n3⟩:=q3;obtain ⟨m',hm,w3⟩:=hN σ3 H3 n3;exact ⟨m',hm,σ3,H3,I3,w3⟩
  | cont =>
   obtain ⟨σ3,H3,I3,n3⟩:=q3;obtain ⟨m',hm,w3⟩:=hN σ3 H3 n3;exact ⟨m',hm,σ3,H3,I3,w3⟩
  | brk=>exact q3
  | ret v=>exact q3
 | false =>
  rw [if_neg η];exact dP ⟨σ1,H2,I2,q2⟩
end
structure It where
 go:Nat->Hp->Prop
 gb:Nat->Hp->V->Hp->Prop
 stop:Nat->Hp->Prop
def Wb (X:Cx) (pins:List (Addr×Obj)) (H:Hp) (b:Addr):Prop :=
 H b=none/\b≠X.env.locals/\b∉X.fs/\(b∈X.ex\/X.s₀.heap.objs.size<=b)/\(∀ x c,X.env.cells.lookup x=some c->c≠b)/\∀ p∈X.pn++pins,p.1≠b
theorem Inv.fB {X:Cx} {pins:List (Addr×Obj)} {σ:St} {H H':Hp} {s:Δ} {b:Addr} (I:Inv X pins σ H s) (hb:s.heap.objs.size<=b) (hn:H' b=none):Wb X pins H' b:=by
 refine ⟨hn,du (τ I.lt hb),I.Jk hb,.inr (az I.sz hb),fun x c e z=>?_,fun p hp z=>?_⟩
 ·obtain ⟨v,q⟩:=I.cell x c e
  exact absurd (τ q.lt (by rw [z];exact hb)) (aS _)
 ·exact absurd (τ (Ν (I.pin p hp).1) (by rw [z];exact hb)) (aS _)
structure Turn (P:Ψ) (w:θ) (K:Λ) (tg:Expr) (J:It) (fp:List Addr) (it:Addr) (tn:Nat->Heap->Prop):Prop where
 mem:it∈fp
 obj:∀ i h,tn i h->∀ b∈fp,∃ o,h.get? b=some o/\∀ v,o.data ≠ .cell v
 keep:∀ i h h',tn i h->(∀ b∈fp,∀ o,h.get? b=some o->h'.get? b=some o)->tn i h'
 item:∀ (X:Cx),X.prog=P->X.w=w->X.K=K->X.calm=true->∀ (i:Nat) (pins:List (Addr×Obj)) (s:Δ) (σ:St) (H:Hp) (E:Α->Δ->Prop),Inv X pins σ H s->(∀ b∈fp,Wb X pins H b)->tn i s.heap->J.go i H ->
  Κ (Ο P w) X.A (gu (.ref it)) (fun r s1=>∃ u,r=some u /\
   Κ (Ο P w) X.A (ik tg (.ref it) u) (fun _ s2=>∃ x H',Inv X pins σ H' s2/\Yx x u/\J.gb i H x H'/\tn (i+1) s2.heap/\∀ b∈fp,H' b=none) E s1) E s
 done:∀ (X:Cx),X.prog=P->X.w=w->X.K=K->X.calm=true->∀ (i:Nat) (pins:List (Addr×Obj)) (s:Δ) (σ:St) (H:Hp) (E:Α->Δ->Prop),Inv X pins σ H s->(∀ b∈fp,Wb X pins H b)->tn i s.heap->J.stop i H ->
  Κ (Ο P w) X.A (gu (.ref it)) (fun r s1=>r=none/\Inv X pins σ H s1) E s
 self:∀ (A:ζ) (i:Nat) (s:Δ) (Q:Α->Δ->Prop) (E:Α->Δ->Prop),tn i s.heap->Q (.ref it) s->Κ (Ο P w) A (pyIter (.ref it)) Q E s
abbrev TI:=St->Hp->(It->Hp->Prop)->Prop
def PIE (X:Cx) (pins:List (Addr×Obj)) (σ:St) (tg:Expr) (R:It->Hp->Prop) (itv:Α) (s2:Δ):Prop :=
 ∃ (it:Addr) (fp:List Addr) (tn:Nat->Heap->Prop) (J:It) (H':Hp),itv = .ref it/\Inv X pins σ H' s2/\Turn X.prog X.w X.K tg J fp it tn/\tn 0 s2.heap/\(∀ b∈fp,Wb X pins H' b)/\R J H'
def PI (X:Cx) (tg iter:Expr) (wi:TI):Prop :=
 ∀ (pins:List (Addr×Obj)) (s:Δ) (σ:St) (H:Hp) (R:It->Hp->Prop),Inv X pins σ H s->wi σ H R ->
  Κ (Ο X.prog X.w) X.A (eval iter X.env) (fun v s1=>Κ (Ο X.prog X.w) X.A (pyIter v) (PIE X pins σ tg R) X.xe s1) X.xe s
theorem QQ {M:Model} {A:ζ} {E:Α->Δ->Prop} {s:Δ} {tg:Expr} {it:Addr} {u:Α} {o:Obj} {n:String} {vs:Array Α} {Q:Unit->Δ->Prop} (ho:s.heap.get? it=some o) (hc:o.cls = .type n) (hd:o.data = .fields vs)
  (hn:["enumerate","zip","dict_itemiterator","dict_reverseitemiterator","odict_iterator","itertools.zip_longest","itertools.pairwise"].contains n=false) (hQ:Q () s):Κ M A (ik tg (.ref it) u) Q E s:=by
 unfold ik
 cases tg<;>first
  | exact Μ hQ
  | (cases u<;>first
    | exact Μ hQ
    | (refine Β (wpAny_load ho ?_)
       rw [hc,hd]
       show Κ M A (if (["enumerate","zip","dict_itemiterator","dict_reverseitemiterator","odict_iterator","itertools.zip_longest","itertools.pairwise"].contains n&&vs[0]?==some (cE _))=true then _ else _) Q E s
       rw [if_neg (by intro h;rw [hn,Bool.false_and] at h;cases h)];exact Μ hQ))
def mC (K:Λ) (a:Addr):It :=
 ⟨fun i H=>∃ xs x,ao K H a xs/\xs[i]?=some x,fun i H x H'=>H'=H/\∀ xs,ao K H a xs->xs[i]?=some x,fun i H=>∃ xs,ao K H a xs/\xs.length<=i⟩
def mD (K:Λ) (a:Addr):It :=
 ⟨fun i H=>∃ xs x,aA K H a xs/\xs[i]?=some x,fun i H x H'=>H'=H/\∀ xs,aA K H a xs->xs[i]?=some x,fun i H=>∃ xs,aA K H a xs/\xs.length<=i⟩
def j9 (lo:Int) (n:Nat):It:=⟨fun i _=>i<n,fun i H x H'=>H'=H/\x = .int (lo+i),fun i _=>n<=i⟩
theorem Kr {P:Ψ} {w:θ} {K:Λ} {tg:Expr} (a it:Addr):Turn P w K tg (mC K a) [it] it (fun i h=>h.IsListIter it a i) where
 mem:=by simp
 obj:=fun i h st b hb=>by
  have e:b=it:=by simpa using hb
  subst e;obtain ⟨o,e,c,d⟩:=st;exact ⟨o,e,fun v z=>by rw [d] at z;cases z⟩
 keep:=fun i h h' st k=>st.at fun o e=>k it (by simp) o e
 item:=by
  intro X hP hw hK hc i pins s σ H E I hf st hg;subst hP hw hK;obtain ⟨xs,x,hq,hx⟩:=hg;obtain ⟨its,rv,p,hz⟩:=I.list hq;obtain ⟨u,hu,ru⟩:=rv.get hx;obtain ⟨f0,f1,f2,f3,f4,f5⟩:=hf it (by simp);refine wpAny_pyNext_list_item st p.isList (x:=u) (by simpa using hu) fun h' st' sb=>?_
  have I1:Inv X pins σ H { s with heap:=h' }:=I.turned (t':=s.toks) (fun b o hb e=>(sb.2 b hb).trans e) f0 f1 f3 f4 f5;obtain ⟨o,e,c,d⟩:=id st';exact ⟨u,rfl,QQ (s:={ s with heap:=h' }) e c d (by decide) ⟨x,H,I1,ru,⟨rfl,fun ys hy=>by rw [I.iH hy hq];exact hx⟩,st',fun b hb=>(hf b hb).1⟩⟩
 done:=by
  intro X hP hw hK hc i pins s σ H E I hf st hg;subst hP hw hK;obtain ⟨xs,hq,hx⟩:=hg;obtain ⟨its,rv,p,hz⟩:=I.list hq;obtain ⟨f0,f1,f2,f3,f4,f5⟩:=hf it (by simp);have hl:=rv.length;exact wpAny_pyNext_list_end (I.ok.hd hc) st p.isList (by simp;omega) fun h' eb=>⟨rfl,I.turned (t':=s.toks) (fun b o hb e=>eb b o hb e) f0 f1 f3 f4 f5⟩
 self:=fun _ _ _ _ _ st h=>wpAny_pyIter_listiter st h
theorem Ks {P:Ψ} {w:θ} {K:Λ} {tg:Expr} (a it:Addr):Turn P w K tg (mD K a) [it] it (fun i h=>h.IsTupleIter it a i) where
 mem:=by simp
 obj:=fun i h st b hb=>by
  have e:b=it:=by simpa using hb
  subst e;obtain ⟨o,e,c,d⟩:=st;exact ⟨o,e,fun v z=>by rw [d] at z;cases z⟩
 keep:=fun i h h' st k=>st.at fun o e=>k it (by simp) o e
 item:=by
  intro X hP hw hK hc i pins s σ H E I hf st hg;subst hP hw hK;obtain ⟨xs,x,hq,hx⟩:=hg;obtain ⟨its,rv,p,hz⟩:=I.tuple hq;obtain ⟨u,hu,ru⟩:=rv.get hx;obtain ⟨f0,f1,f2,f3,f4,f5⟩:=hf it (by simp);refine wpAny_pyNext_tuple_item st (show s.heap.IsTuple a its.toArray from p) (x:=u) (by simpa using hu) fun h' st' sb=>?_
  have I1:Inv X pins σ H { s with heap:=h' }:=I.turned (t':=s.toks) (fun b o hb e=>(sb.2 b hb).trans e) f0 f1 f3 f4 f5;obtain ⟨o,e,c,d⟩:=id st';exact ⟨u,rfl,QQ (s:={ s with heap:=h' }) e c d (by decide) ⟨x,H,I1,ru,⟨rfl,fun ys hy=>by rw [I.jH hy hq];exact hx⟩,st',fun b hb=>(hf b hb).1⟩⟩
 done:=by
  intro X hP hw hK hc i pins s σ H E I hf st hg;subst hP hw hK;obtain ⟨xs,hq,hx⟩:=hg;obtain ⟨its,rv,p,hz⟩:=I.tuple hq;obtain ⟨f0,f1,f2,f3,f4,f5⟩:=hf it (by simp);have hl:=rv.length;exact wpAny_pyNext_tuple_end (I.ok.hd hc) st (show s.heap.IsTuple a its.toArray from p) (by simp;omega) fun h' eb=>⟨rfl,I.turned (t':=s.toks) (fun b o hb e=>eb b o hb e) f0 f1 f3 f4 f5⟩
 self:=fun _ _ _ _ _ st h=>wpAny_pyIter_tupleiter st h
theorem Ku {P:Ψ} {w:θ} {K:Λ} {tg:Expr} (it:Addr) (lo:Int) (n:Nat):Turn P w K tg (j9 lo n) [it] it (fun i h=>IsRangeIter h it (lo+(i:Nat)*1) ((n:Int) - (i:Nat)) 1) where
 mem:=by simp
 obj:=fun i h st b hb=>by
  have e:b=it:=by simpa using hb
  subst e;exact ⟨_,st,fun v z=>by
   have z':Data.fields _=Data.cell v:=z
   cases z'⟩
 keep:=fun i h h' st k=>k it (by simp) _ st
 item:=by
  intro X hP hw hK hc i pins s σ H E I hf st hg;subst hP hw hK;obtain ⟨f0,f1,f2,f3,f4,f5⟩:=hf it (by simp);have W:=Walks.range (prog:=X.prog) (w:=X.w) (I.ok.hd hc) it lo 1 n;refine W.item i s _ _ hg st fun v h' tk hv st' kk=>?_
  obtain ⟨t,rfl⟩:=hv;have I1:Inv X pins σ H { s with heap:=h',toks:=tk }:=I.turned (fun b o hb e=>kk b o (by simpa using hb) e) f0 f1 f3 f4 f5;refine ⟨_,rfl,QQ (s:={ s with heap:=h',toks:=tk }) (n:="range_iterator") st' rfl rfl (by decide) ⟨.int (lo+i),H,I1,⟨t,?_⟩,⟨rfl,rfl⟩,st',fun b hb=>(hf b hb).1⟩⟩;rw [Int.mul_one]
 done:=by
  intro X hP hw hK hc i pins s σ H E I hf st hg;subst hP hw hK;obtain ⟨f0,f1,f2,f3,f4,f5⟩:=hf it (by simp);exact wpAny_pyNext_range_end (I.ok.hd hc) st (by have:n<=i:=hg;omega) fun h' eb=>⟨rfl,I.turned (t':=s.toks) (fun b o hb e=>eb b o hb e) f0 f1 f3 f4 f5⟩
 self:=fun _ _ _ _ _ st h=>wpAny_pyIter_rangeiter st h
section
variable {X:Cx} {tg:Expr}
def Wc (K:Λ) (tl:TE):TI:=fun σ H R=>tl σ H fun x H1=>∃ a,x = .ref a/\(∃ xs,ao K H1 a xs)/\R (mC K a) H1
def qN (K:Λ) (tl:TE):TI:=fun σ H R=>tl σ H fun x H1=>∃ a,x = .ref a/\(∃ xs,aA K H1 a xs)/\R (mD K a) H1
theorem Xg {l:Expr} {tl:TE} (hl:PE X l tl):PI X tg l (Wc X.K tl):=by
 intro pins s σ H R I h;refine aD (hl pins s σ H _ I h) fun v s1 ⟨x,H1,I1,r1,q1⟩=>?_
 obtain ⟨a,e,⟨xs,hq⟩,q⟩:=q1;subst e
 cases r1
 obtain ⟨its,rv,p,hz⟩:=I1.list hq;refine wpAny_pyIter_list p.isList ?_;refine ⟨s1.heap.objs.size,[s1.heap.objs.size],_,_,H1,rfl,I1.kept (t':=s1.toks) fun b o e=>Ε _ e,Kr a _,⟨_,δ _ rfl,rfl,rfl⟩,fun b hb=>?_,q⟩;have e:b=s1.heap.objs.size:=by simpa using hb
 subst e;exact I1.fB (Φ _) (I1.hok.fresh (Φ _))
theorem Cu {l:Expr} {tl:TE} (hl:PE X l tl):PI X tg l (qN X.K tl):=by
 intro pins s σ H R I h;refine aD (hl pins s σ H _ I h) fun v s1 ⟨x,H1,I1,r1,q1⟩=>?_
 obtain ⟨a,e,⟨xs,hq⟩,q⟩:=q1;subst e
 cases r1
 obtain ⟨its,rv,p,hz⟩:=I1.tuple hq;refine wpAny_pyIter_tuple (show s1.heap.IsTuple a its.toArray from p) ?_;refine ⟨s1.heap.objs.size,[s1.heap.objs.size],_,_,H1,rfl,I1.kept (t':=s1.toks) fun b o e=>Ε _ e,Ks a _,⟨_,δ _ rfl,rfl,rfl⟩,fun b hb=>?_,q⟩;have e:b=s1.heap.objs.size:=by simpa using hb
 subst e;exact I1.fB (Φ _) (I1.hok.fresh (Φ _))
theorem Kv {pins:List (Addr×Obj)} {σ:St} {H:Hp} {s:Δ} {R:It->Hp->Prop} {E:Α->Δ->Prop} {lo hi:Int} {t u v:Tok} {tk:Nat} (I:Inv X pins σ H s) (h1 : -(2^62)<=lo) (h2:lo<2^62) (h3 : -(2^62)<=hi) (h4:hi<2^62)
  (q:R (j9 lo (hi - lo).toNat) H):Κ (Ο X.prog X.w) X.A (pyIter (.ref s.heap.objs.size)) (PIE X pins σ tg R) E { s with heap:=s.heap.push { cls := .type "range",data := .fields #[.int lo t,.int hi u,.int 1 v] },toks:=tk }:=by
 refine wpAny_pyIter_range (IsRange.new ..) (small_one h1 h2 h3 h4) ?_;have I1:Inv X pins σ H { s with heap:=s.heap.push { cls := .type "range",data := .fields #[.int lo t,.int hi u,.int 1 v] },toks:=tk }:=I.kept fun b o e=>Ε _ e
 refine ⟨(s.heap.push { cls := .type "range",data := .fields #[.int lo t,.int hi u,.int 1 v] }).objs.size,[(s.heap.push { cls := .type "range",data := .fields #[.int lo t,.int hi u,.int 1 v] }).objs.size],_,_,H,rfl,
  I1.kept (t':=tk) fun b o e=>Ε _ e,Ku _ lo (hi - lo).toNat,?_,fun b hb=>?_,q⟩
 ·have e1:lo+((0:Nat):Int)*1=lo:=by simp
  have e2:(((hi - lo).toNat:Nat):Int) - ((0:Nat):Int)=Builtin.Range.rangeSize lo hi 1:=by rw [rangeSize_one];split<;>omega
  show IsRangeIter _ _ (lo+((0:Nat):Int)*1) ((((hi - lo).toNat:Nat):Int) - ((0:Nat):Int)) 1
  rw [e1,e2];exact δ _ rfl
 ·have e:b=(s.heap.push { cls := .type "range",data := .fields #[.int lo t,.int hi u,.int 1 v] }).objs.size:=by simpa using hb
  subst e;exact I1.fB (Φ _) (I1.hok.fresh (Φ _))
def vL (ta:TA):TI:=fun σ H R=>ta σ H fun vs H1=>∃ j:Int,vs=[.int j] /\ -(2^62)<=j/\j<2^62/\R (j9 0 j.toNat) H1
theorem WV {a:Expr} {ta:TA} {p pos:Pos} (hg:Gl X "range") (hm:X.mg "range"=none) (ha:PA X [a] ta) (hs:Χ [a] X.env=[(false,eval a X.env)]):PI X tg (.Call (.Name "range" p) [a] [] pos) (vL ta):=by
 intro pins s σ H R I h;refine Call_ (X8 I hg hm boot_range (cw (aD (ha pos pins s σ H _ I h) fun us s1 ⟨vs,H1,I1,r1,q1⟩=>?_) hs rfl));obtain ⟨j,e,q1,q2,q⟩:=q1;subst e
 cases r1 with
 | cons r rr =>
  cases rr
  obtain ⟨t,rfl⟩:=r;exact call_range_1 (Kv I1 (by omega) (by omega) q1 q2 (by simpa using q))
def Vw (wi:TI) (g:TG) (tb:TS):TS:=fun D σ H=>wi σ H fun J H1=>∃ W:Nat->Nat->St->Hp->Prop,(∃ m,W 0 m σ H1)/\∀ i m σ H,W i m σ H ->
 (J.stop i H/\D.nx σ H)\/(J.go i H/\∃ N:St->Hp->Prop,(∀ σ' H',N σ' H'->∃ m',m'<m/\W (i+1) m' σ' H')/\∀ x H',J.gb i H x H'->g x σ H' fun σ2 H2=>tb { D with nx:=N,ct:=N,bk:=D.nx } σ2 H2)
def Vy (fp:List Addr) (h:Heap):List (Addr×Obj):=fp.filterMap fun b=>(h.get? b).map fun o=>(b,o)
theorem WB {fp:List Addr} {h:Heap} {b:Addr} {o:Obj} (hb:b∈fp) (e:h.get? b=some o):(b,o)∈Vy fp h:=iP.mpr ⟨b,hb,by rw [e];rfl⟩
theorem Kw {fp:List Addr} {h:Heap} {p:Addr×Obj} (hp:p∈Vy fp h):p.1∈fp/\h.get? p.1=some p.2:=by
 obtain ⟨b,hb,e⟩:=iP.mp hp
 cases q:h.get? b with
 | none=>rw [q] at e;cases e
 | some o =>
  rw [q] at e
  have e':(b,o)=p:=Θ e;subst e';exact ⟨hb,q⟩
theorem Inv.pinned {pins:List (Addr×Obj)} {σ:St} {H:Hp} {s:Δ} {fp:List Addr} (I:Inv X pins σ H s) (hf:∀ b∈fp,Wb X pins H b) (ho:∀ b∈fp,∃ o,s.heap.get? b=some o/\∀ v,o.data ≠ .cell v):Inv X (pins++Vy fp s.heap) σ H s :=
 I.mz fun p hp=>(ag.mp hp).elim (fun z=>I.pin p (bq _ z)) fun z=>by
  obtain ⟨hb,e⟩:=Kw z;obtain ⟨f0,f1,f2,_⟩:=hf p.1 hb;obtain ⟨o,e',d⟩:=ho p.1 hb;rw [e] at e';cases e'
  exact ⟨e,f0,f1,f2,d⟩
theorem Inv.fC {pins pl:List (Addr×Obj)} {σ:St} {H:Hp} {s:Δ} (I:Inv X (pins++pl) σ H s):Inv X pins σ H s:=I.mz fun p hp=>I.pin p (bq _ (List.mem_append_left _ hp))
theorem XE {iter:Expr} {body:List Stmt} {wi:TI} {g:TG} {tb:TS} {pos:Pos} (hp:PassesOwn (Ο X.prog X.w) X.A X.env X.xe) (hc:X.calm=true) (hi:PI X tg iter wi) (hg:PG X tg g) (hb:cR X body tb)
  (hs:∀ x,foldedSetIterable iter X.env x=pure x):PS X (.For tg iter body [] pos) (Vw wi g tb):=by
 intro pins s σ H D I h;refine wpAny_For (aD (hi pins s σ H _ I h) fun v s1 h1=>aD h1 fun itv s2 h2=>?_) hs;obtain ⟨it,fp,tn,J,H2,e,I2,T,st2,f2,W,⟨m0,w0⟩,turn⟩:=h2;subst e
 -- what stays true of the iterator's objects through the loop
 have stat:∀ {H':Hp},(∀ b∈fp,H' b=none)->∀ b∈fp,Wb X pins H' b:=fun hn b hb=>⟨hn b hb,(f2 b hb).2⟩
 refine codeAny_forLoop_any (fun n s'=>∃ i σ' H',Inv X pins σ' H' s'/\tn i s'.heap/\(∀ b∈fp,H' b=none)/\W i n σ' H') ?_ m0 ⟨0,σ,H2,I2,st2,fun b hb=>(f2 b hb).1,w0⟩;rintro n s3 ⟨i,σ3,H3,I3,st3,Cv,w3⟩;rcases turn i n σ3 H3 w3 with ⟨stop,qn⟩ | ⟨go,N,hN,step⟩
 ·refine eR hp (aD (T.done X rfl rfl rfl hc i pins s3 σ3 H3 X.xe I3 (stat Cv) st3 stop) fun r s4 ⟨hr,I4⟩=>?_)
  subst hr;exact dP ⟨σ3,H3,I4,qn⟩
 ·refine eR hp (aD (T.item X rfl rfl rfl hc i pins s3 σ3 H3 X.xe I3 (stat Cv) st3 go) fun r s4 ⟨u,hr,h4⟩=>?_)
  subst hr;refine eR hp (aD h4 fun _ s5 ⟨x,H5,I5,r5,y5,mF,sS⟩=>?_);have Ky:=I5.pinned (stat sS) (T.obj _ _ mF);refine eR hp (aD (hg _ s5 σ3 H5 x u _ Ky r5 (step x H5 y5)) fun _ s6 ⟨Kz,H6,I6,q6⟩=>?_);refine eR hp (aD (hb _ s6 Kz H6 _ I6 q6) fun f s7 q7=>?_);have again:∀ {gj:St} {H7:Hp},Inv X (pins++Vy fp s5.heap) gj H7 s7->N gj H7->∃ m,m<n/\∃ i σ' H',Inv X pins σ' H' s7/\tn i s7.heap/\(∀ b∈fp,H' b=none)/\W i m σ' H':=fun {gj H7} I7 n7=>by
   obtain ⟨m',hm,w7⟩:=hN gj H7 n7;refine ⟨m',hm,i+1,gj,H7,I7.fC,T.keep _ _ _ mF fun b hb o e=>(I7.pin (b,o) (bq _ (bq _ (WB hb e)))).1,fun b hb=>?_,w7⟩;obtain ⟨o,e,d⟩:=T.obj _ _ mF b hb;exact (I7.pin (b,o) (bq _ (bq _ (WB hb e)))).2.1
  cases f with
  | next=>obtain ⟨gj,H7,I7,n7⟩:=q7;exact again I7 n7
  | cont=>obtain ⟨gj,H7,I7,n7⟩:=q7;exact again I7 n7
  | brk=>obtain ⟨gj,H7,I7,q7⟩:=q7;exact ⟨gj,H7,I7.fC,q7⟩
  | ret v=>obtain ⟨x7,gj,H7,I7,r7,q7⟩:=q7;exact ⟨x7,gj,H7,I7.fC,r7,q7⟩
end
theorem V5 {K:Λ} {a:Addr} {xs:List V} {g:TG} {tb:TS} {D:Ends} {σ:St} {H:Hp} (Pv:Nat->St->Hp->Prop) (h0:Pv 0 σ H) (hl:∀ i σ H,i<=xs.length->Pv i σ H->ao K H a xs)
  (hs:∀ i x σ H,xs[i]?=some x->Pv i σ H->g x σ H fun σ2 H2=>tb { D with nx:=Pv (i+1),ct:=Pv (i+1),bk:=D.nx } σ2 H2) (hd:∀ σ H,Pv xs.length σ H->D.nx σ H) :
  ∃ W:Nat->Nat->St->Hp->Prop,(∃ m,W 0 m σ H)/\∀ i m σ H,W i m σ H ->
   ((mC K a).stop i H/\D.nx σ H)\/((mC K a).go i H/\∃ N:St->Hp->Prop,(∀ σ' H',N σ' H'->∃ m',m'<m/\W (i+1) m' σ' H')/\∀ x H',(mC K a).gb i H x H'->g x σ H' fun σ2 H2=>tb { D with nx:=N,ct:=N,bk:=D.nx } σ2 H2):=by
 refine ⟨fun i m σ H=>m=xs.length - i/\i<=xs.length/\Pv i σ H,⟨xs.length,by simp,ay _,h0⟩,?_⟩;rintro i m σ H ⟨rfl,hi,p⟩;have q:=hl i σ H hi p;by_cases hlt:i<xs.length
 ·refine .inr ⟨⟨xs,xs[i],q,by simp [hlt]⟩,Pv (i+1),fun σ' H' p'=>⟨xs.length - (i+1),by omega,rfl,hlt,p'⟩,fun x H' y=>?_⟩
  obtain ⟨e,y⟩:=y;subst e;exact hs i x σ _ (y xs q) p
 ·have e:i=xs.length:=by omega
  subst e;exact .inl ⟨⟨xs,q,Φ _⟩,hd σ H p⟩
theorem KC {K:Λ} {a:Addr} {xs:List V} {g:TG} {tb:TS} {D:Ends} {σ:St} {H:Hp} (Pv:Nat->St->Hp->Prop) (h0:Pv 0 σ H) (hl:∀ i σ H,i<=xs.length->Pv i σ H->aA K H a xs)
  (hs:∀ i x σ H,xs[i]?=some x->Pv i σ H->g x σ H fun σ2 H2=>tb { D with nx:=Pv (i+1),ct:=Pv (i+1),bk:=D.nx } σ2 H2) (hd:∀ σ H,Pv xs.length σ H->D.nx σ H) :
  ∃ W:Nat->Nat->St->Hp->Prop,(∃ m,W 0 m σ H)/\∀ i m σ H,W i m σ H ->
   ((mD K a).stop i H/\D.nx σ H)\/((mD K a).go i H/\∃ N:St->Hp->Prop,(∀ σ' H',N σ' H'->∃ m',m'<m/\W (i+1) m' σ' H')/\∀ x H',(mD K a).gb i H x H'->g x σ H' fun σ2 H2=>tb { D with nx:=N,ct:=N,bk:=D.nx } σ2 H2):=by
 refine ⟨fun i m σ H=>m=xs.length - i/\i<=xs.length/\Pv i σ H,⟨xs.length,by simp,ay _,h0⟩,?_⟩;rintro i m σ H ⟨rfl,hi,p⟩;have q:=hl i σ H hi p;by_cases hlt:i<xs.length
 ·refine .inr ⟨⟨xs,xs[i],q,by simp [hlt]⟩,Pv (i+1),fun σ' H' p'=>⟨xs.length - (i+1),by omega,rfl,hlt,p'⟩,fun x H' y=>?_⟩
  obtain ⟨e,y⟩:=y;subst e;exact hs i x σ _ (y xs q) p
 ·have e:i=xs.length:=by omega
  subst e;exact .inl ⟨⟨xs,q,Φ _⟩,hd σ H p⟩
theorem KD {lo:Int} {n:Nat} {g:TG} {tb:TS} {D:Ends} {σ:St} {H:Hp} (Pv:Nat->St->Hp->Prop) (h0:Pv 0 σ H)
  (hs:∀ i σ H,i<n->Pv i σ H->g (.int (lo+i)) σ H fun σ2 H2=>tb { D with nx:=Pv (i+1),ct:=Pv (i+1),bk:=D.nx } σ2 H2) (hd:∀ σ H,Pv n σ H->D.nx σ H) :
  ∃ W:Nat->Nat->St->Hp->Prop,(∃ m,W 0 m σ H)/\∀ i m σ H,W i m σ H ->
   ((j9 lo n).stop i H/\D.nx σ H)\/((j9 lo n).go i H/\∃ N:St->Hp->Prop,(∀ σ' H',N σ' H'->∃ m',m'<m/\W (i+1) m' σ' H')/\∀ x H',(j9 lo n).gb i H x H'->g x σ H' fun σ2 H2=>tb { D with nx:=N,ct:=N,bk:=D.nx } σ2 H2):=by
 refine ⟨fun i m σ H=>m=n - i/\i<=n/\Pv i σ H,⟨n,by simp,ay _,h0⟩,?_⟩;rintro i m σ H ⟨rfl,hi,p⟩;by_cases hlt:i<n
 ·refine .inr ⟨hlt,Pv (i+1),fun σ' H' p'=>⟨n - (i+1),by omega,rfl,hlt,p'⟩,fun x H' y=>?_⟩
  obtain ⟨e,y⟩:=y;subst e y;exact hs i σ _ hlt p
 ·have e:i=n:=by omega
  subst e;exact .inl ⟨Φ _,hd σ H p⟩
abbrev R2:=V->V->Hp->VK->Prop
def bT (X:Cx) (f:Α->Α->Sem Α) (r:R2):Prop :=
 ∀ (pins:List (Addr×Obj)) (s:Δ) (σ:St) (H:Hp) (x y:V) (v u:Α) (Q:VK),Inv X pins σ H s->Yx x v->Yx y u->r x y H Q ->
  Κ (Ο X.prog X.w) X.A (f v u) (EP X pins σ Q) X.xe s
def vM (X:Cx) (f:Α->Sem Α) (r:V->Hp->VK->Prop):Prop :=
 ∀ (pins:List (Addr×Obj)) (s:Δ) (σ:St) (H:Hp) (x:V) (v:Α) (Q:VK),Inv X pins σ H s->Yx x v->r x H Q ->
  Κ (Ο X.prog X.w) X.A (f v) (EP X pins σ Q) X.xe s
def XM (X:Cx) (f:Α) (r:List V->Hp->VK->Prop):Prop :=
 ∀ (pins:List (Addr×Obj)) (s:Δ) (σ:St) (H:Hp) (xs:List V) (us:List Α) (Q:VK),Inv X pins σ H s->Ym xs us->r xs H Q ->
  Κ (Ο X.prog X.w) X.A (call f us) (EP X pins σ Q) X.xe s
def iy (r:R2) (ta tb:TE):TE:=fun σ H Q=>ta σ H fun x H1=>tb σ H1 fun y H2=>r x y H2 Q
def vN (r:V->Hp->VK->Prop) (ta:TE):TE:=fun σ H Q=>ta σ H fun x H1=>r x H1 Q
def rI (C:Int->Int->Prop) (g:Int->Int->V):R2:=fun x y H Q=>kI x fun i=>kI y fun j=>C i j/\Q (g i j) H
def iW (g:Int->Int->V):R2:=fun x y H Q=>kI x fun i=>kI y fun j=>Q (g i j) H
def rU (g:Int->V):V->Hp->VK->Prop:=fun x H Q=>kI x fun i=>Q (g i) H
section
variable {X:Cx} {a b c:Expr} {ta tb tc:TE} {pos:Pos}
theorem qO (ha:PE X a ta) (hb:PE X b tb) {pins:List (Addr×Obj)} {s:Δ} {σ:St} {H:Hp} {R:V->V->Hp->Prop} (I:Inv X pins σ H s)
  (h:ta σ H fun x H1=>tb σ H1 fun y H2=>R x y H2) {Q:Α->Δ->Prop} {f:Α->Α->Sem Α}
  (hf:∀ v u s2 x y H2,Inv X pins σ H2 s2->Yx x v->Yx y u->R x y H2->Κ (Ο X.prog X.w) X.A (f v u) Q X.xe s2) :
  Κ (Ο X.prog X.w) X.A (eval a X.env) (fun v s₁=>Κ (Ο X.prog X.w) X.A (eval b X.env) (fun u s₂=>Κ (Ο X.prog X.w) X.A (f v u) Q X.xe s₂) X.xe s₁) X.xe s:=by
 refine aD (ha pins s σ H _ I h) fun v s1 ⟨x,H1,I1,r1,q1⟩=>?_
 refine aD (hb pins s1 σ H1 _ I1 q1) fun u s2 ⟨y,H2,I2,r2,q2⟩=>?_
 exact hf v u s2 x y H2 I2 r1 r2 q2
theorem YC {op:Operator} {r:R2} (ho:bT X (ir op) r) (ha:PE X a ta) (hb:PE X b tb):PE X (.BinOp a op b pos) (iy r ta tb):=by
 intro pins s σ H Q I h;exact wpAny_BinOp (qO ha hb I h fun v u s2 x y H2 I2 rx ry q=>ho pins s2 σ H2 x y v u Q I2 rx ry q)
theorem Uh {op:UnaryOp} {r:V->Hp->VK->Prop} (ho:vM X (unaryOp op) r) (ha:PE X a ta):PE X (.UnaryOp op a pos) (vN r ta):=by
 intro pins s σ H Q I h;exact UnaryOp_ (aD (ha pins s σ H _ I h) fun v s1 ⟨x,H1,I1,r1,q1⟩=>ho pins s1 σ H1 x v Q I1 r1 q1)
theorem sU {f:Α->Α->Sem Α} {C:Int->Int->Prop} {g:Int->Int->Int}
  (rule:∀ (i j:Int) (t u:Tok) (s:Δ) (Q:Α->Δ->Prop) (E:Α->Δ->Prop),C i j->Q (.int (g i j) s.toks) { s with toks:=s.toks+1 }->Κ (Ο X.prog X.w) X.A (f (.int i t) (.int j u)) Q E s) :
  bT X f (rI C fun i j => .int (g i j)):=by
 intro pins s σ H x y v u Q I rx ry h
 replace h:=vK h
 obtain ⟨i,j,rfl,rfl,hc,q⟩:=h;obtain ⟨t,rfl⟩:=rx;obtain ⟨t',rfl⟩:=ry;exact rule i j t t' s _ _ hc ⟨.int (g i j),H,I.tok _,⟨_,rfl⟩,q⟩
theorem vO {f:Α->Α->Sem Α} {g:Int->Int->Int}
  (rule:∀ (i j:Int) (t u:Tok) (s:Δ) (Q:Α->Δ->Prop) (E:Α->Δ->Prop),Q (.int (g i j) s.toks) { s with toks:=s.toks+1 }->Κ (Ο X.prog X.w) X.A (f (.int i t) (.int j u)) Q E s) :
  bT X f (iW fun i j => .int (g i j)):=by
 intro pins s σ H x y v u Q I rx ry h
 replace h:=vK h
 obtain ⟨i,j,rfl,rfl,q⟩:=h;obtain ⟨t,rfl⟩:=rx;obtain ⟨t',rfl⟩:=ry;exact rule i j t t' s _ _ ⟨.int (g i j),H,I.tok _,⟨_,rfl⟩,q⟩
theorem qP {f:Α->Α->Sem Α} {g:Int->Int->Bool}
  (rule:∀ (i j:Int) (t u:Tok) (s:Δ) (Q:Α->Δ->Prop) (E:Α->Δ->Prop),Q (.bool (g i j)) s->Κ (Ο X.prog X.w) X.A (f (.int i t) (.int j u)) Q E s) :
  bT X f (iW fun i j => .bl (g i j)):=by
 intro pins s σ H x y v u Q I rx ry h
 replace h:=vK h
 obtain ⟨i,j,rfl,rfl,q⟩:=h;obtain ⟨t,rfl⟩:=rx;obtain ⟨t',rfl⟩:=ry;exact rule i j t t' s _ _ ⟨.bl (g i j),H,I,rfl,q⟩
def vP (i j:Int):Prop:=0<=j/\j<=1000000/\i.natAbs<2^64
def qQ (i j:Int):Prop:=(-(2^64)<i/\i<2^64)\/(-(2^64)<j/\j<2^64)
theorem qQ.ok {i j:Int} (h:qQ i j):IntMulOk i j:=by
 rcases h with ⟨h1,h2⟩ | ⟨h1,h2⟩
 ·exact .of_left (intBits_le_64 h1 h2)
 ·exact .of_right (intBits_le_64 h1 h2)
theorem Xa:bT X (ir .Add) (iW fun i j => .int (i+j)):=vO fun _ _ _ _ _ _ _ q=>add_int q
theorem WJ:bT X (ir .Sub) (iW fun i j => .int (i - j)):=vO fun _ _ _ _ _ _ _ q=>sub_int q
theorem Wr:bT X (ir .Mod) (rI (fun _ j=>0<j) fun i j => .int (i%j)):=sU fun i j _ _ _ _ _ hc q=>by
 have h1:(0:Int)<j:=hc;exact mod_int' (by omega) (by rw [Int.fmod_eq_emod_of_nonneg i (by omega)];exact q)
theorem Cw:bT X (ir .Pow) (rI vP fun i j => .int (i^j.toNat)):=sU fun _ _ _ _ _ _ _ hc q=>pow_int_small hc.1 hc.2.1 hc.2.2 q
theorem KH {f:Α->Sem Α} {g:Int->Int}
  (rule:∀ (i:Int) (t:Tok) (s:Δ) (Q:Α->Δ->Prop) (E:Α->Δ->Prop),Q (.int (g i) s.toks) { s with toks:=s.toks+1 }->Κ (Ο X.prog X.w) X.A (f (.int i t)) Q E s) :
  vM X f (rU fun i => .int (g i)):=by
 intro pins s σ H x v Q I rx h;obtain ⟨i,rfl,q⟩:=UJ.mp h;obtain ⟨t,rfl⟩:=rx;exact rule i t s _ _ ⟨.int (g i),H,I.tok _,⟨_,rfl⟩,q⟩
theorem Vz:vM X (unaryOp .USub) (rU fun i => .int (-i)):=KH fun _ _ _ _ _ q=>neg_int q
end
def sV:V->V->Bool
 | .non,.non=>true | .non,.int _=>true | .int _,.non=>true | .non,.bl _=>true | .bl _,.non=>true | .non,.str _=>true | .str _,.non=>true
 | .int _,.int _=>true | .bl _,.bl _=>true | .str _,.str _=>true | .fM _,.fM _=>true
 | .int _,.str _=>true | .str _,.int _=>true | .bl _,.str _=>true | .str _,.bl _=>true
 | _,_=>false
def kEq (x y:V) (k:Bool->Prop):Prop:=match x,y with
 | .int i,.int j=>k (decide (i=j))
 | .str i,.str j=>k (decide (i=j))
 | x,y=>sV x y=true/\k (decide (x=y))
theorem Cy (i j:Int) (k:Bool->Prop):kEq (.int i) (.int j) k=k (decide (i=j)):=rfl
theorem CG (i j:Str) (k:Bool->Prop):kEq (.str i) (.str j) k=k (decide (i=j)):=rfl
theorem vQ {x y:V} {k:Bool->Prop}:kEq x y k↔sV x y=true/\k (decide (x=y)):=by
 unfold kEq
 split
 ·rename_i i j
  rw [show decide (V.int i=V.int j)=decide (i=j) from by simp];exact ⟨fun h=>⟨rfl,h⟩,fun h=>h.2⟩
 ·rename_i i j
  rw [show decide (V.str i=V.str j)=decide (i=j) from by simp];exact ⟨fun h=>⟨rfl,h⟩,fun h=>h.2⟩
 ·exact Iff.rfl
def oJ:R2:=fun x y H Q=>kEq x y fun b=>Q (.bl b) H
def vR:R2:=fun x y H Q=>kEq x y fun b=>Q (.bl (!b)) H
theorem CJ {i j:Int}:decide (V.int i=V.int j)=(i==j):=by
 rw [kF];simp
theorem CK {i j:Bool}:decide (V.bl i=V.bl j)=(i==j):=by
 rw [kF];simp
theorem CN {i j:Str}:decide (V.str i=V.str j)=(i==j):=by
 rw [kF];simp
theorem CP {i j:Array UInt8}:decide (V.fM i=V.fM j)=(i.toList==j.toList):=by
 rw [kF]
 cases i
 cases j
 simp
section
variable {X:Cx} {a b c:Expr} {ta tb tc:TE} {pos:Pos}
theorem YJ {pins:List (Addr×Obj)} {σ:St} {H:Hp} {s:Δ} {Q:VK} {k k':Bool} (I:Inv X pins σ H s) (q:Q (.bl k) H) (e:k=k'):EP X pins σ Q (.bool k') s:=by
 subst e;exact ⟨.bl k,H,I,rfl,q⟩
theorem YS:bT X (bu .Eq) oJ:=by
 intro pins s σ H x y v u Q I rx ry h;obtain ⟨hs,q⟩:=vQ.mp h
 cases x with
 | non =>
  cases rx
  cases y with
  | non=>cases ry;exact PySem.EqNone.eq_none_none (YJ I q (by simp))
  | bl j=>cases ry;exact PySem.EqNone.eq_none_bool (YJ I q (by simp))
  | int j=>obtain ⟨t',rfl⟩:=ry;exact PySem.EqNone.eq_none_int (YJ I q (by simp))
  | str j=>obtain ⟨t',rfl⟩:=ry;exact PySem.EqNone.eq_none_str (YJ I q (by simp))
  | _=>exact absurd (show false=true from hs) η
 | bl i =>
  cases rx
  cases y with
  | non=>cases ry;exact PySem.EqNone.eq_bool_none (YJ I q (by simp))
  | bl j=>cases ry;exact eq_bool (YJ I q CK)
  | str j=>obtain ⟨t',rfl⟩:=ry;exact PySem.EqMixed.eq_bool_str (YJ I q (by simp))
  | _=>exact absurd (show false=true from hs) η
 | int i =>
  obtain ⟨t,rfl⟩:=rx
  cases y with
  | non=>cases ry;exact PySem.EqNone.eq_int_none (YJ I q (by simp))
  | int j=>obtain ⟨t',rfl⟩:=ry;exact eq_int (YJ I q CJ)
  | str j=>obtain ⟨t',rfl⟩:=ry;exact PySem.EqMixed.eq_int_str (YJ I q (by simp))
  | _=>exact absurd (show false=true from hs) η
 | str i =>
  obtain ⟨t,rfl⟩:=rx
  cases y with
  | non=>cases ry;exact PySem.EqNone.eq_str_none (YJ I q (by simp))
  | bl j=>cases ry;exact PySem.EqMixed.eq_str_bool (YJ I q (by simp))
  | int j=>obtain ⟨t',rfl⟩:=ry;exact PySem.EqMixed.eq_str_int (YJ I q (by simp))
  | str j=>obtain ⟨t',rfl⟩:=ry;exact eq_str (YJ I q CN)
  | _=>exact absurd (show false=true from hs) η
 | fM i =>
  obtain ⟨t,rfl⟩:=rx
  cases y with
  | fM j=>obtain ⟨t',rfl⟩:=ry;exact W.eq_bytes (YJ I q CP)
  | _=>exact absurd (show false=true from hs) η
 | _=>cases y<;>exact absurd (show false=true from hs) η
theorem CQ:bT X (bu .NotEq) vR:=by
 intro pins s σ H x y v u Q I rx ry h;obtain ⟨hs,q⟩:=vQ.mp h
 cases x with
 | non =>
  cases rx
  cases y with
  | non=>cases ry;exact PySem.EqNone.ne_none_none (YJ I q (by simp))
  | bl j=>cases ry;exact PySem.EqNone.ne_none_bool (YJ I q (by simp))
  | int j=>obtain ⟨t',rfl⟩:=ry;exact PySem.EqNone.ne_none_int (YJ I q (by simp))
  | str j=>obtain ⟨t',rfl⟩:=ry;exact PySem.EqNone.ne_none_str (YJ I q (by simp))
  | _=>exact absurd (show false=true from hs) η
 | bl i =>
  cases rx
  cases y with
  | non=>cases ry;exact PySem.EqNone.ne_bool_none (YJ I q (by simp))
  | bl j=>cases ry;exact ne_bool (YJ I q (congrArg not CK))
  | str j=>obtain ⟨t',rfl⟩:=ry;exact PySem.EqMixed.ne_bool_str (YJ I q (by simp))
  | _=>exact absurd (show false=true from hs) η
 | int i =>
  obtain ⟨t,rfl⟩:=rx
  cases y with
  | non=>cases ry;exact PySem.EqNone.ne_int_none (YJ I q (by simp))
  | int j=>obtain ⟨t',rfl⟩:=ry;exact ne_int (YJ I q (congrArg not CJ))
  | str j=>obtain ⟨t',rfl⟩:=ry;exact PySem.EqMixed.ne_int_str (YJ I q (by simp))
  | _=>exact absurd (show false=true from hs) η
 | str i =>
  obtain ⟨t,rfl⟩:=rx
  cases y with
  | non=>cases ry;exact PySem.EqNone.ne_str_none (YJ I q (by simp))
  | bl j=>cases ry;exact PySem.EqMixed.ne_str_bool (YJ I q (by simp))
  | int j=>obtain ⟨t',rfl⟩:=ry;exact PySem.EqMixed.ne_str_int (YJ I q (by simp))
  | str j=>obtain ⟨t',rfl⟩:=ry;exact ne_str (YJ I q (congrArg not CN))
  | _=>exact absurd (show false=true from hs) η
 | fM i =>
  obtain ⟨t,rfl⟩:=rx
  cases y with
  | fM j=>obtain ⟨t',rfl⟩:=ry;exact W.ne_bytes (YJ I q (congrArg not CP))
  | _=>exact absurd (show false=true from hs) η
 | _=>cases y<;>exact absurd (show false=true from hs) η
theorem Ax:bT X (bu .Lt) (iW fun i j => .bl (decide (i<j))):=qP fun _ _ _ _ _ _ _ q=>lt_int q
theorem CT:bT X (bu .LtE) (iW fun i j => .bl (decide (i<=j))):=qP fun _ _ _ _ _ _ _ q=>le_int q
theorem CW:bT X (bu .Gt) (iW fun i j => .bl (decide (j<i))):=qP fun _ _ _ _ _ _ _ q=>gt_int q
theorem KJ:bT X (bu .In) (fun x y H Q=>∃ i j,x = .str i/\y = .str j/\Q (.bl (!(Builtin.Str.occurrences j i 0 j.length 1).isEmpty)) H):=by
 intro pins s σ H x y v u Q I rx ry h;obtain ⟨i,j,rfl,rfl,q⟩:=h;obtain ⟨t,rfl⟩:=rx;obtain ⟨t',rfl⟩:=ry;exact in_str (YJ I q rfl)
theorem W8:bT X (bu .Is) (fun x y H Q=>y = .non/\Q (.bl (decide (x = .non))) H):=by
 intro pins s σ H x y v u Q I rx ry h;obtain ⟨rfl,q⟩:=h
 cases ry
 refine is_none_gen (YJ I q ?_)
 cases x<;>first
  | (cases rx;rfl)
  | (obtain ⟨t,rfl⟩:=rx;rfl)
theorem UL:bT X (bu .IsNot) (fun x y H Q=>y = .non/\Q (.bl (!decide (x = .non))) H):=by
 intro pins s σ H x y v u Q I rx ry h;obtain ⟨rfl,q⟩:=h
 cases ry
 refine isnot_none_gen (YJ I q ?_)
 cases x<;>first
  | (cases rx;rfl)
  | (obtain ⟨t,rfl⟩:=rx;rfl)
theorem Yp (b:Expr) {op:CmpOp} (h:op ≠ .In:=by decide) (h2:op ≠ .NotIn:=by decide):k9 op b=false:=by
 have e1:(op==CmpOp.In)=false:=by cases op<;>first | rfl | exact absurd rfl h
 have e2:(op==CmpOp.NotIn)=false:=by cases op<;>first | rfl | exact absurd rfl h2
 cases b<;>simp [k9,e1,e2]
theorem Xn {op:CmpOp} {r:R2} (ho:bT X (bu op) r) (ha:PE X a ta) (hb:PE X b tb) (hm:k9 op b=false):PE X (.Compare a [op] [b] pos) (iy r ta tb):=by
 intro pins s σ H Q I h;exact wpAny_Compare1 (qO ha hb I h fun v u s2 x y H2 I2 rx ry q=>ho pins s2 σ H2 x y v u Q I2 rx ry q) hm
def Ui (t:TE):TT:=fun σ H Q=>t σ H fun x H'=>kB x fun k=>Q k H'
theorem Ys {op:CmpOp} {r:R2} (ho:bT X (bu op) r) (ha:PE X a ta) (hb:PE X b tb) (hm:k9 op b=false):PT X (.Compare a [op] [b] pos) (Ui (iy r ta tb)):=by
 intro pins s σ H Q I h;refine wpAny_isTrue_Compare1 (aD (ha pins s σ H _ I h) fun v s1 ⟨x,H1,I1,r1,q1⟩=>aD (hb pins s1 σ H1 _ I1 q1) fun u s2 ⟨y,H2,I2,r2,q2⟩ =>
  aD (ho pins s2 σ H2 x y v u _ I2 r1 r2 q2) fun c s3 ⟨z,H3,I3,r3,q3⟩=>?_) hm
 replace q3:=UK.mp q3
 obtain ⟨k,e,q3⟩:=q3;subst e
 cases r3
 exact e9 ⟨H3,I3,q3⟩
def Q9 (r r':R2) (ta tb tc:TE):TE:=fun σ H Q=>ta σ H fun x H1=>tb σ H1 fun y H2=>r x y H2 fun z H3=>kB z fun k =>
 (if k=true then tc σ H3 fun w' H4=>r' y w' H4 Q else Q (.bl false) H3)
theorem KQ {op op':CmpOp} {r r':R2} (ho:bT X (bu op) r) (ho':bT X (bu op') r') (ha:PE X a ta) (hb:PE X b tb) (hc:PE X c tc)
  (hm:lastMarks [op,op'] [b,c]=false):PE X (.Compare a [op,op'] [b,c] pos) (Q9 r r' ta tb tc):=by
 intro pins s σ H Q I h;refine Compare_chain (aD (ha pins s σ H _ I h) fun v s1 ⟨x,H1,I1,r1,q1⟩=>chain_link (aD (hb pins s1 σ H1 _ I1 q1) fun u s2 ⟨y,H2,I2,r2,q2⟩ =>
  aD (ho pins s2 σ H2 x y v u _ I2 r1 r2 q2) fun d s3 ⟨z,H3,I3,r3,q3⟩=>?_)) hm
 replace q3:=UK.mp q3
 obtain ⟨k,e,q3⟩:=q3;subst e
 cases r3
 refine e9 ?_
 cases k with
 | false=>exact ite_ff ⟨.bl false,H3,I3,rfl,q3⟩
 | true=>exact ite_tt (chain_last (aD (hc pins s3 σ H3 _ I3 q3) fun w' s4 ⟨z',H4,I4,r4,q4⟩=>ho' pins s4 σ H4 y z' u w' Q I4 r2 r4 q4))
theorem W9:(sizeLine:Nat)<2^63:=by rw [kP];decide
theorem Uj:bT X (ir .Add) (fun x y H Q=>∃ i j,x = .str i/\y = .str j/\i.length+j.length<=sizeLine/\Q (.str (i++j)) H):=by
 intro pins s σ H x y v u Q I rx ry h;obtain ⟨i,j,rfl,rfl,hz,q⟩:=h;obtain ⟨t,rfl⟩:=rx;obtain ⟨t',rfl⟩:=ry;exact add_str (fun t' tk=>⟨.str (i++j),H,I.tok _,⟨_,rfl⟩,q⟩) hz
theorem WC {x:V} {us:List Α} (r:Ym [x] us):∃ u,us=[u]/\Yx x u:=by
 cases r with
 | cons r1 r2=>cases r2;exact ⟨_,rfl,r1⟩
theorem vU {x y:V} {us:List Α} (r:Ym [x,y] us):∃ u w',us=[u,w']/\Yx x u/\Yx y w':=by
 cases r with
 | cons r1 r2 =>
  cases r2 with
  | cons r3 r4=>cases r4;exact ⟨_,_,rfl,r1,r3⟩
def CZ:List V->Hp->VK->Prop:=fun xs H Q=>k2 xs fun x y=>kI x fun i=>kI y fun j=>Q (.int (if j>i then j else i)) H
def Dc:List V->Hp->VK->Prop:=fun xs H Q=>k2 xs fun x y=>kI x fun i=>kI y fun j=>Q (.int (if j<i then j else i)) H
end
structure iI (h:Heap) (x dx C:Addr) (mA:Str->Option Α):Prop where
 obj:h.get? x=some (iF C dx)
 ns:h.Ns1 dx mA
 ne:dx≠x
theorem KR {h:Heap} {dx:Addr} {mA:Str->Option Α} (n:h.Ns1 dx mA):∃ od,h.get? dx=some od/\∀ name,W.lookIn name od=some (mA name):=by
 obtain ⟨o,es,ep,ho,hd,hk,_,hm⟩:=n;refine ⟨o,ho,fun name=>?_⟩;have e:=hm name;unfold nsFind findBy at e;rw [<- Array.find?_toList] at e
 unfold W.lookIn;rw [hd];dsimp only
 split
 ·rename_i y q
  rw [q] at e
  exact congrArg some e
 ·rename_i q
  rw [q] at e
  have a:es.toList.any (·.refKey)=false:=by
   rw [List.any_eq_false];intro y hy;obtain ⟨z,t,hkey⟩:=hk y (Array.mem_toList_iff.mp hy);simp [DictEntry.refKey,hkey]
  have a':¬ es.toList.any (·.refKey)=true:=by rw [a];exact η
  rw [if_neg a'];exact congrArg some e
theorem iI.look {h:Heap} {x dx C:Addr} {mA:Str->Option Α} (I:iI h x dx C mA):∃ od,W.InstAt h x (iF C dx) C (some od)/\∀ name,W.lookIn name od=some (mA name) :=
 let ⟨od,ho,hl⟩:=KR I.ns
 ⟨od,⟨I.obj,rfl,rfl,ho⟩,hl⟩
section
variable {prog:Ψ} {w:θ} {A:ζ} {E:Α->Δ->Prop} {s:Δ} {K:Λ} {x dx C f:Addr} {mA:Str->Option Α} {name:Str} {v:Α}
theorem KY {expr:Bool} {Q:Α->Δ->Prop} (X:K.In s.heap) (I:iI s.heap x dx C mA) (hg:W.plainGet K C name=true) (hh:kS K C=true)
  (ha:c6 K (.ref C) name=some none) (hv:mA name=some v) (hv':W.handedIn v=true) (h:Q v { s with toks:=s.toks+1 }) :
  Κ (Ο prog w) A (getAttr (.ref x) name expr) Q E s:=by
 obtain ⟨od,J,hl⟩:=I.look;exact W.get_value X J (W.plainGet_of hg).1 (W.findObj_own hh ha rfl (by rw [hl,hv])) hv' h
theorem KZ {pl:Sem Bool} {Q:Α×List Α->Δ->Prop} (X:K.In s.heap) (I:iI s.heap x dx C mA) (hg:W.plainGet K C name=true)
  (hf:c6 K (.ref C) name=some (some (.ref f))) (ht:W.isFn K (.ref f)=true) (hv:mA name=none) (h:Q (.ref f,[.ref x]) s) :
  Κ (Ο prog w) A (getMethod (.ref x) name pl) Q E s:=by
 obtain ⟨od,J,hl⟩:=I.look;exact W.method_fn X J (W.plainGet_of hg).1 (W.plainGet_of hg).2 hf (beq_iff_eq.mp ht) (by show (W.lookIn name od).map (·.isSome)=some false;rw [hl,hv];rfl) h
theorem K3 {ns:List Str} {Q:Unit->Δ->Prop} (X:K.In s.heap) (I:iI s.heap x dx C mA)
  (hs:c6 K (.ref C) "__setattr__"=some (some (.builtin "object.__setattr__"))) (hp:W.plainOver K C=true) (ht:W.takerIn K C name=some none) (hh:kS K C=true)
  (hw:iL mA ns) (hsz:ns.length<=sizeLine)
  (h:∀ h',iI h' x dx C (fun y=>if y=name then some v else mA y)->ci dx s.heap h'->Q () { s with heap:=h',toks:=s.toks+2 }) :
  Κ (Ο prog w) A (setAttr (.ref x) name v) Q E s:=by
 obtain ⟨od,J,hl⟩:=I.look;refine W.set_plain X J hs (W.osa_open (s:={ s with toks:=s.toks+1 }) (r:=none) X J hp ht fun b=>?_);obtain ⟨cd,hc,hd'⟩:=W.any_some hh;have hx:s.heap.get? x=some ⟨.ref C,some dx,.plain,#[]⟩:=I.obj;refine Β (Μ (Β (Β (kH hx (Β (W.Looks.here (s:={ s with toks:=s.toks+1 }) (W.looks_clsIn X hc) ?_))))));rw [hd'];refine Μ (a:=some dx) (Β (Μ (Β ?_)));refine wpAny_nsSet1 (s:={ s with toks:=s.toks+1 }) I.ns fun h' hn2 hs2=>?_
 obtain ⟨oD,esD,epD,hoD,hdD,hcD⟩:=hn2.count (PySem.Within.cons name v hw);refine Β (wpAny_lookBehind hoD (by rw [hdD];exact pastItsLine_dict (az hcD (by rw [υ];omega))) ?_);exact Μ (h _ ⟨(hs2.2 _ (ah I.ne)).trans I.obj,hn2,I.ne⟩ hs2)
theorem K4 {R:jp->Δ->Prop} {vs:List Α} {kw:List (Str×Α)} (X:K.In s.heap) (hm:W.makesIn K C=true)
  (hi:c6 K (.ref C) "__init__"=some (some (.ref f))) (hf:W.typeIn K (.ref f)=some (.type "function"))
  (h:d6 (Ο prog w) (A.under (.builtin "type.__call__" ⟨.ref C::vs,kw⟩)) (.call (.ref f) ⟨.ref (s.heap.objs.size+1)::vs,kw⟩) (W.InitBack (s.heap.objs.size+1) R)
   { s with heap:=(s.heap.push gc).push (iF C s.heap.objs.size) }) :
  d6 (Ο prog w) A (.call (.ref C) ⟨vs,kw⟩) R s:=by
 obtain ⟨hh,g,d,t,os⟩:=s;exact W.make_core (W.makes_of X hm) (W.looks_findIn X hi) (fun self=>W.bind_fn X self hf) (.inl rfl) h
end
def Xi (f:Str) (v:V):List (Str×V)->List (Str×V)
 | []=>[(f,v)]
 | (g,x)::r=>if g=f then (g,v)::r else (g,x)::Xi f v r
theorem W2 (f g:Str) (v:V):∀ fs:List (Str×V),(Xi f v fs).lookup g=if g=f then some v else fs.lookup g
 | []=>by
  show di g [(f,v)]=_
  by_cases h:g=f
  ·have hb:(g==f)=true:=beq_iff_eq.mpr h
   simp only [di,hb,if_pos h]
  ·have hb:(g==f)=false:=beq_eq_false_iff_ne.mpr h
   simp only [di,hb,if_neg h]
 | (k,x)::r=>by
  have ih:=W2 f g v r;rw [show Xi f v ((k,x)::r)=(if k=f then (k,v)::r else (k,x)::Xi f v r) from rfl];by_cases hk:k=f
  ·rw [if_pos hk]
   by_cases h:g=k
   ·have hb:(g==k)=true:=beq_iff_eq.mpr h
    simp only [di,hb,if_pos (h.trans hk)]
   ·have hb:(g==k)=false:=beq_eq_false_iff_ne.mpr h
    simp only [di,hb,if_neg (fun e:g=f=>h (e.trans hk.symm))]
  ·rw [if_neg hk]
   by_cases h:g=k
   ·have hb:(g==k)=true:=beq_iff_eq.mpr h
    simp only [di,hb,if_neg (fun e:g=f=>hk (h.symm.trans e))]
   ·have hb:(g==k)=false:=beq_eq_false_iff_ne.mpr h
    simp only [di,hb];exact ih
theorem Ws (f:Str) (v:V):∀ fs:List (Str×V),f∈(Xi f v fs).map (·.1)/\∀ g,g∈fs.map (·.1)->g∈(Xi f v fs).map (·.1)
 | []=>⟨by simp [Xi],fun g h=>by simp at h⟩
 | (k,x)::r=>by
  obtain ⟨i1,i2⟩:=Ws f v r;rw [show Xi f v ((k,x)::r)=(if k=f then (k,v)::r else (k,x)::Xi f v r) from rfl];by_cases hk:k=f
  ·rw [if_pos hk]
   subst hk;exact ⟨by simp,fun g h=>by simpa using h⟩
  ·rw [if_neg hk]
   refine ⟨?_,fun g h=>?_⟩
   ·rw [ae]
    exact bS _ i1
   ·rw [ae] at h ⊢
    rcases Υ.mp h with e | e
    ·exact Υ.mpr (.inl e)
    ·exact bS _ (i2 g e)
theorem VZ (f:Str) (v:V):∀ fs:List (Str×V),(Xi f v fs).length<=fs.length+1
 | []=>by simp [Xi]
 | (k,x)::r=>by
  have ih:=VZ f v r;rw [show Xi f v ((k,x)::r)=(if k=f then (k,v)::r else (k,x)::Xi f v r) from rfl];by_cases hk:k=f
  ·rw [if_pos hk,υ,υ];omega
  ·rw [if_neg hk,υ,υ];omega
theorem X7.some_of {v:V} {o:Option Α} (r:X7 (some v) o):∃ u,o=some u/\Yx v u:=by
 cases o with
 | none=>exact (show False from r).elim
 | some u=>exact ⟨u,rfl,r⟩
theorem X7.none_of {o:Option Α} (r:X7 none o):o=none:=by
 cases o with
 | none=>rfl
 | some u=>exact (show False from r).elim
theorem Qe {v:V} {u:Α} (r:Yx v u):W.handedIn u=true:=by
 cases v with
 | non=>cases (show u=cq from r);rfl
 | bl b=>cases (show u=bo b from r);rfl
 | int i=>obtain ⟨t,e⟩:=(show ∃ t,u=lx i t from r);cases e;rfl
 | str x=>obtain ⟨t,e⟩:=(show ∃ t,u=kU x t from r);cases e;rfl
 | fM b=>obtain ⟨t,e⟩:=(show ∃ t,u=Value.bytes b t from r);cases e;rfl
 | flt b=>obtain ⟨t,e⟩:=(show ∃ t,u=Value.float b t from r);cases e;rfl
 | ref a=>cases (show u=Ω a from r);rfl
 | ty n=>cases (show u=fN n from r);rfl
section
variable {P:Ψ} {w:θ} {H H':Hp} {h h':Heap} {a C dx:Addr} {fs fs':List (Str×V)}
theorem VO (hok:bA P w H h) (e:H a=some (.ins C dx fs)):∃ mA,iI h a dx C mA/\(∀ f,X7 (fs.lookup f) (mA f))/\iL mA (fs.map (·.1))/\fs.length<=1000/\H dx=some (.own a):=by
 obtain ⟨d,z,ne,ob,mA,n,r,q⟩:=(show YK P w H h a (.ins C dx fs) from hok a _ e);exact ⟨mA,⟨ob,n,ne⟩,r,q,z,d⟩
end
structure Cls (K:Λ) (C:Addr):Prop where
 pg:W.plainGet K C Str.empty=true
 hd:kS K C=true
 po:W.plainOver K C=true
 sa:c6 K (.ref C) "__setattr__"=some (some (.builtin "object.__setattr__"))
theorem Cls.get {K:Λ} {C:Addr} (c:Cls K C) (f:Str):W.plainGet K C f=true:=c.pg
def YY (K:Λ) (C:Addr) (f:Str):Prop:=c6 K (.ref C) f=some none
theorem YY.taker {K:Λ} {C:Addr} {f:Str} (n:YY K C f):W.takerIn K C f=some none:=by
 unfold W.takerIn;rw [show c6 K (.ref C) f=some none from n];rfl
structure Meth (K:Λ) (C:Addr) (m:Str) (f:Addr):Prop where
 at_:c6 K (.ref C) m=some (some (.ref f))
 fn:W.isFn K (.ref f)=true
 kp:ee K (.ref f)=true
section
variable {X:Cx} {pins:List (Addr×Obj)} {σ:St} {H:Hp} {s:Δ} {a C dx:Addr} {fs:List (Str×V)} {f:Str} {v:V} {A:ζ} {E:Α->Δ->Prop}
theorem K5 {b:Bool} {Q:Α->Δ->Prop} (I:Inv X pins σ H s) (e:H a=some (.ins C dx fs)) (c:Cls X.K C) (n:YY X.K C f) (l:fs.lookup f=some v)
  (h:∀ u s',Inv X pins σ H s'->Yx v u->Q u s'):Κ (Ο X.prog X.w) A (getAttr (.ref a) f b) Q E s:=by
 obtain ⟨mA,O,r,_,_,_⟩:=VO I.hok e;obtain ⟨u,hu,ru⟩:=X7.some_of (v:=v) (o:=mA f) (by rw [<- l];exact r f);exact KY I.aX O (c.get f) c.hd n hu (Qe ru) (h u _ (I.tok _) ru)
theorem K6 {m:Str} {g:Addr} {pl:Sem Bool} {Q:Α×List Α->Δ->Prop} (I:Inv X pins σ H s) (e:H a=some (.ins C dx fs)) (c:Cls X.K C) (k:Meth X.K C m g) (l:fs.lookup m=none)
  (h:Q (.ref g,[.ref a]) s):Κ (Ο X.prog X.w) A (getMethod (.ref a) m pl) Q E s:=by
 obtain ⟨mA,O,r,_,_,_⟩:=VO I.hok e;have hn:mA m=none:=X7.none_of (by rw [<- l];exact r m);exact KZ I.aX O (c.get m) k.at_ k.fn hn h
theorem K7 {y:V} {u:Α} {Q:Unit->Δ->Prop} (I:Inv X pins σ H s) (e:H a=some (.ins C dx fs)) (c:Cls X.K C) (n:YY X.K C f) (hl:fs.length<1000) (ry:Yx y u)
  (h:∀ s',Inv X pins σ (upd H a (.ins C dx (Xi f y fs))) s'->Q () s'):Κ (Ο X.prog X.w) A (setAttr (.ref a) f u) Q E s:=by
 obtain ⟨mA,O,r,wi,_,ho⟩:=VO I.hok e;have hz:(fs.map (·.1)).length<=sizeLine:=by rw [Ζ,kP];omega
 refine K3 I.aX O c.sa c.po n.taker c.hd wi hz fun h' O' sb=>h _ ?_
 have hd:∃ o,h'.get? dx=some o:=let ⟨o,_,_,e',_⟩:=O'.ns;⟨o,e'⟩
 refine I.write (x:=a) (e:=dx) (by rw [e];exact eJ) (.inr ho) (fun b q hb z=>(sb.2 b hb).trans z) hd ?_;refine ⟨by rw [Ye O.ne];exact ho,?_,O.ne,O'.obj,_,O'.ns,fun g=>?_,fun g hg=>?_⟩
 ·have:=VZ f y fs;omega
 ·show X7 ((Xi f y fs).lookup g) (if g=f then some u else mA g)
  rw [W2];by_cases q:g=f
  ·rw [if_pos q,if_pos q];exact ry
  ·rw [if_neg q,if_neg q];exact r g
 ·by_cases q:g=f
  ·rw [q];exact (Ws f y fs).1
  ·refine (Ws f y fs).2 g (wi g fun z=>hg ?_)
   show (if g=f then some u else mA g)=none
   rw [if_neg q];exact z
theorem Inv.made (I:Inv X pins σ H s):Inv X pins σ (upd (upd H s.heap.objs.size (.own (s.heap.objs.size+1))) (s.heap.objs.size+1) (.ins C s.heap.objs.size []))
  { s with heap:=(s.heap.push gc).push (iF C s.heap.objs.size) }:=by
 have e1:(s.heap.push gc).get? s.heap.objs.size=some W.emptyDict:=δ s.heap rfl;have e2:((s.heap.push gc).push (iF C s.heap.objs.size)).get? (s.heap.objs.size+1)=some (iF C s.heap.objs.size):=by
  have:=δ (s.heap.push gc) (o:=iF C s.heap.objs.size) rfl
  rwa [dC] at this
 have e3:(s.heap.push gc).Ns s.heap.objs.size (fun _=>none):=⟨gc,#[],_,e1,rfl,(fun e he=>absurd he (by simp)),fun _=>rfl⟩;have I1:=I.laid (a:=s.heap.objs.size) (o := .own (s.heap.objs.size+1)) (h':=s.heap.push gc) (t':=s.toks) (fun b u q=>Ε _ q) (Φ _) ⟨_,e1⟩;refine I1.laid (a:=s.heap.objs.size+1) (o := .ins C s.heap.objs.size []) (t':=s.toks) (fun b u q=>Ε _ q) (Nat.le_of_eq (dC _ _)) ?_;have ne:s.heap.objs.size≠s.heap.objs.size+1:=ν (ka _);refine ⟨by rw [Ye ne,Yb],ay _,ne,e2,fun _=>none,(Heap.Ns1.of_empty e3).at fun o q=>Ε _ q,fun _=>eJ,fun y hy=>absurd rfl hy⟩
theorem Dd {prog:Ψ} {w:θ} {env:Env} {e:Expr} {f:Str} {pos:Pos} {s:Δ} {Q:Α->Δ->Prop} (hb:fA e f env (eval e env)=eval e env)
  (h:Κ (Ο prog w) A (eval e env) (fun o s₁=>Κ (Ο prog w) A (getAttr o f true) Q E s₁) E s):Κ (Ο prog w) A (eval (.Attribute e f pos) env) Q E s :=
 Attribute_any_ h (by rw [arm_eval_Attribute,hb])
end
inductive Jp (K:Λ) (H:Hp) (a:Addr) (f:Str) (Q:V->Prop):Prop
 | mk (C dx:Addr) (fs:List (Str×V)) (h:H a=some (.ins C dx fs)) (c:Cls K C) (n:YY K C f) (v:V) (l:fs.lookup f=some v) (q:Q v)
inductive Jq (K:Λ) (H:Hp) (a:Addr) (f:Str) (Q:Addr->Addr->List (Str×V)->Prop):Prop
 | mk (C dx:Addr) (fs:List (Str×V)) (h:H a=some (.ins C dx fs)) (c:Cls K C) (n:YY K C f) (l:fs.length<1000) (q:Q C dx fs)
def tu (K:Λ) (ta:TE) (f:Str):TE:=fun σ H Q=>ta σ H fun x H1=>kR x fun a=>Jp K H1 a f fun v=>Q v H1
def qR (K:Λ) (ta tv:TE) (f:Str):TS:=fun D σ H=>tv σ H fun y H1=>ta σ H1 fun x H2=>kR x fun a=>Jq K H2 a f fun C dx fs=>D.nx σ (upd H2 a (.ins C dx (Xi f y fs)))
section
variable {X:Cx} {o e value:Expr} {f:Str} {pos pos' tpos:Pos} {ta tv:TE}
theorem vV (he:PE X e ta) (hb:fA e f X.env (eval e X.env)=eval e X.env):PE X (.Attribute e f pos) (tu X.K ta f):=by
 intro pins s σ H Q I h;refine Dd hb (aD (he pins s σ H _ I h) fun u s1 ⟨x,H1,I1,rx,q⟩=>?_)
 replace q:=W1.mp q
 obtain ⟨a,ex,C,dx,fs,ea,c,n,v,l,q⟩:=q;subst ex;obtain rfl:u=Ω a:=rx;exact K5 I1 ea c n l fun u' s2 I2 ru=>⟨v,H1,I2,ru,q⟩
theorem Uk (ha:PE X o ta) (hv:PE X value tv) (hs:kT value (some (.Attribute o f pos')) pos.line X.env=pure false):PS X (.Assign [.Attribute o f pos'] value pos) (qR X.K ta tv f):=by
 intro pins s σ H D I h;refine plainObj_wpAny_Assign_Attribute (aD (hv pins s σ H _ I h) fun u s1 ⟨y,H1,I1,ry,q⟩=>aD (ha pins s1 σ H1 _ I1 q) fun ov s2 ⟨x,H2,I2,rx,q2⟩=>?_) hs
 replace q2:=W1.mp q2
 obtain ⟨a,ex,C,dx,fs,ea,c,n,l,q2⟩:=q2;subst ex;obtain rfl:ov=Ω a:=rx;exact K7 I2 ea c n l ry fun s3 I3=>⟨σ,_,I3,q2⟩
end
section
variable {X:Cx} {pins:List (Addr×Obj)} {σ:St} {H:Hp} {s:Δ} {A:ζ} {E:Α->Δ->Prop} {Q:Α->Δ->Prop} {c:Α} {b:Bool}
inductive cT (K:Λ) (H:Hp):V->Α->Prop where
 | non:cT K H .non (.type "NoneType")
 | bl (x:Bool):cT K H (.bl x) (.type "bool")
 | int (i:Int):cT K H (.int i) (.type "int")
 | str (x:Str):cT K H (.str x) (.type "str")
 | flt (x:UInt64):cT K H (.flt x) (.type "float")
 | lst {a:Addr} {xs:List V} (e:H a=some (.lst xs)):cT K H (.ref a) (.type "list")
 | bR {a:Addr} {o:Obj} {xs:List V} (e:H a=some (.bR o (.lst xs))):cT K H (.ref a) (.type "list")
 | tup {a:Addr} {xs:List V} (e:H a=some (.tup xs)):cT K H (.ref a) (.type "tuple")
 | dK {a:Addr} {kvs:List (Key×V)} (e:H a=some (.dK kvs)):cT K H (.ref a) (.type "dict")
 | dT {a:Addr} {kvs:List (List Key×V)} (e:H a=some (.dT kvs)):cT K H (.ref a) (.type "dict")
 | ins {a C dx:Addr} {fs:List (Str×V)} (e:H a=some (.ins C dx fs)) (cl:Cls K C) (ha:c6 K (.ref C) "__class__"=some (some (.builtin "object.__class__")))
   (hn:W.specialIn K (.builtin "object.__class__") "__get__"=some (some (.builtin "getset_descriptor.__get__"))) (htk:W.takesIn K (.builtin "object.__class__")=some true)
   (hm:W.mroIn K C (.type "object")=some true):cT K H (.ref a) (.ref C)
theorem K8 {x:V} {u t:Α} (I:Inv X pins σ H s) (rx:Yx x u) (ty:cT X.K H x t) (e:aw X.K t c=some b) (h:∀ tk,Q (.bool b) { s with toks:=tk }) :
  Κ (Ο X.prog X.w) A (call (.builtin "isinstance") [u,c]) Q E s:=by
 cases ty with
 | non=>cases (show u=cq from rx);exact eK W.kitx_none I.aX eJ e (fun z=>nomatch z) h
 | bl y=>cases (show u=bo y from rx);exact eK W.kitx_bool I.aX eJ e (fun z=>nomatch z) h
 | int i=>obtain ⟨t,q⟩:=(show ∃ t,u=lx i t from rx);cases q;exact eK W.kitx_int I.aX eJ e (fun z=>nomatch z) h
 | str y=>obtain ⟨t,q⟩:=(show ∃ t,u=kU y t from rx);cases q;exact eK W.kitx_str I.aX eJ e (fun z=>nomatch z) h
 | flt y=>obtain ⟨t,q⟩:=(show ∃ t,u=Value.float y t from rx);cases q;exact eK W.kitx_float I.aX eJ e (fun z=>nomatch z) h
 | @lst a xs ea =>
  cases (show u=Ω a from rx)
  obtain ⟨_,_,n,_,h1⟩:=(show YK X.prog X.w H s.heap a (.lst xs) from I.hok a _ ea);exact eK W.kitx_list I.aX ⟨_,h1,rfl⟩ e (fun z=>nomatch z) h
 | @bR a ob xs ea =>
  cases (show u=Ω a from rx)
  obtain ⟨_,_,_,n,_,h1⟩:=(show YK X.prog X.w H s.heap a (.bR ob (.lst xs)) from I.hok a _ ea);exact eK W.kitx_list I.aX ⟨_,h1,rfl⟩ e (fun z=>nomatch z) h
 | @tup a xs ea =>
  cases (show u=Ω a from rx)
  obtain ⟨_,_,_,p⟩:=(show YK X.prog X.w H s.heap a (.tup xs) from I.hok a _ ea);obtain ⟨o,h1,h2,_⟩:=p;exact eK W.kitx_tuple I.aX ⟨o,h1,h2⟩ e (fun z=>nomatch z) h
 | @dK a kvs ea =>
  cases (show u=Ω a from rx)
  obtain ⟨_,_,vs,_,p⟩:=(show YK X.prog X.w H s.heap a (.dK kvs) from I.hok a _ ea);obtain ⟨o,es,ep,h1,h2,_⟩:=p;exact eK W.kitx_dict I.aX ⟨o,h1,h2.1⟩ e (fun z=>nomatch z) h
 | @dT a kvs ea =>
  cases (show u=Ω a from rx)
  obtain ⟨_,_,xs,_,o,es,ep,h1,h2,_⟩:=(show YK X.prog X.w H s.heap a (.dT kvs) from I.hok a _ ea);exact eK W.kitx_dict I.aX ⟨o,h1,h2.1⟩ e (fun z=>nomatch z) h
 | @ins a C dx fs ea cl ha hn htk hm =>
  cases (show u=Ω a from rx)
  obtain ⟨mA,O,_⟩:=VO I.hok ea;obtain ⟨od,J,_⟩:=O.look;exact eK (W.kitx_own (cl.get _) cl.hd ha hn htk hm) I.aX J e (fun z=>nomatch z) h
end
structure aL (k:Nat) (A:ζ):Prop where
 hd:A.handled=none
 dp:A.depth+3*k+5<recursionLimit
 un:A.units+16*k+200<fF
 gd:A.guards=some []
theorem aL.mono {j k:Nat} {A:ζ} (r:aL k A) (h:j<=k):aL j A:=⟨r.hd,by have:=r.dp;omega,by have:=r.un;omega,r.gd⟩
theorem aL.deeper {k:Nat} {A:ζ} (r:aL (k+1) A) (env:Env):aL k (A.deeper env) :=
 ⟨r.hd,by have:=r.dp;show A.depth+1+3*k+5<_;omega,by have:=r.un;show A.units+3+16*k+200<_;omega,r.gd⟩
theorem K9 {A:ζ} {C:Addr} {us:List Α} {kw:List (Str×Α)}:(A.under (.builtin "type.__call__" ⟨.ref C::us,kw⟩)).depth=A.depth+1:=by
 first | rfl | simp [lw,Code.weight,Code.isCreation,Code.isGuard,Code.isCaller,Code.frames,lv,guardIds]
theorem La {A:ζ} {C:Addr} {us:List Α} {kw:List (Str×Α)}:(A.under (.builtin "type.__call__" ⟨.ref C::us,kw⟩)).units=A.units+1:=by
 first | rfl | simp [lw,Code.cUnits,Code.frames,lv]
theorem aL.make {k:Nat} {A:ζ} (r:aL (k+1) A) (C:Addr) (us:List Α) (kw:List (Str×Α)):aL k (A.under (.builtin "type.__call__" ⟨.ref C::us,kw⟩)) :=
 ⟨r.hd,by have:=r.dp;rw [K9];omega,by have:=r.un;rw [La];omega,by first | exact r.gd | simpa [lw,Code.isGuard,lv,guardIds] using r.gd⟩
theorem aL.depth {k:Nat} {A:ζ} (r:aL k A):A.depth<recursionLimit:=by have:=r.dp;omega
theorem aL.units {k:Nat} {A:ζ} (r:aL k A):A.units+64<cLine:=by have:=r.un;omega
def tD:TA:=fun _ H Q=>Q [] H
def Ul (ta:TE) (tr:TA):TA:=fun σ H Q=>ta σ H fun x H1=>tr σ H1 fun xs H2=>Q (x::xs) H2
section
variable {X:Cx} {e:Expr} {es:List Expr} {te:TE} {t:TA} {pos:Pos}
theorem Yc:PA X [] tD:=fun _ _ _ _ H Q I h=>Calls.spliced_nil ⟨[],H,I,.nil,h⟩
theorem Ya (ha:PE X e te) (hr:PA X es t) (hs:Χ (e::es) X.env=(false,eval e X.env)::Χ es X.env:=by rfl):PA X (e::es) (Ul te t):=by
 intro pos pins s σ H Q I h;rw [hs]
 show Κ _ _ (spliced ((false,eval e X.env)::bz pos (Χ es X.env))) _ _ s
 refine Calls.spliced_cons (aD (ha pins s σ H _ I h) fun u s1 ⟨x,H1,I1,r1,q1⟩=>?_);exact aD (hr pos pins s1 σ H1 _ I1 q1) fun us s2 ⟨xs,H2,I2,r2,q2⟩=>⟨x::xs,H2,I2,.cons r1 r2,q2⟩
def qT (t:TA):TE:=fun σ H Q=>t σ H fun xs H1=>xs.length<=sizeLine/\∀ p,H1 p=none->Q (.ref p) (upd H1 p (.tup xs))
def qU (t:TA):TE:=fun σ H Q=>t σ H fun xs H1=>xs.length<=sizeLine/\∀ p,H1 p=none->Q (.ref p) (upd H1 p (.lst xs))
theorem Yv {x1} (h:PA X es t):PE X (.Tuple es x1 pos) (qT t):=by
 intro pins s σ H Q I hq;refine wpAny_Tuple_spliced (aD (h pos pins s σ H _ I hq) fun us s1 ⟨xs,H1,I1,r,z,q⟩=>⟨by rw [<- r.length];exact z,?_⟩);have hf:H1 s1.heap.objs.size=none:=I1.hok.fresh (Φ _);refine ⟨.ref s1.heap.objs.size,upd H1 s1.heap.objs.size (.tup xs),I1.laid (t':=s1.toks) (fun b u e=>Ε _ e) (Φ _) ?_,rfl,q _ hf⟩;exact ⟨z,us,r,⟨_,δ _ rfl,rfl,_,rfl⟩⟩
theorem Yw (h:PA X es t):PE X (.List es pos) (qU t):=by
 intro pins s σ H Q I hq;refine wpAny_List_spliced (aD (h pos pins s σ H _ I hq) fun us s1 ⟨xs,H1,I1,r,z,q⟩=>⟨by rw [<- r.length];exact z,?_⟩);have hf:H1 s1.heap.objs.size=none:=I1.hok.fresh (Φ _);refine ⟨.ref s1.heap.objs.size,upd H1 s1.heap.objs.size (.lst xs),I1.laid (t':=s1.toks) (fun b u e=>Ε _ e) (Φ _) ?_,rfl,q _ hf⟩;exact ⟨z,us,0,r,δ _ rfl⟩
end
abbrev Sp:=List V->Hp->VK->XK->Prop
abbrev dO:=List Env->Hp->Δ->XK->Α->Δ->Prop
structure dg (P:Ψ) (w:θ) (K:Λ) (mg:Str->Option Α) (base:Heap) (A:ζ) (outer:List Env) (s:Δ) (H:Hp):Prop where
 frames:A.frames=some outer
 mod:Mod K mg base
 bs:∀ b o,base.get? b=some o->s.heap.get? b=some o/\H b=none
 dG:base.objs.size<=s.heap.objs.size
 cu:s.heap.FunFrames base outer
 eE:∀ b∈frs outer,H b=none
 hok:bA P w H s.heap
 bare:hU s.gens
def CE (outer:List Env) (P:Ψ) (w:θ) (H:Hp) (s:Δ) (Q:VK) (u:Α) (s':Δ):Prop :=
 ∃ v H',s'.os=s.os/\hU s'.gens/\Un (frs outer) [] H H' s.heap s'.heap/\bA P w H' s'.heap/\Yx v u/\Q v H'
def CR (CX:dO) (outer:List Env) (P:Ψ) (w:θ) (H:Hp) (s:Δ) (Q:VK) (E:XK) (r:jp) (s':Δ):Prop :=
 match r with
 | .ok (.ret u)=>CE outer P w H s Q u s'
 | .ok _=>False
 | .error e=>CX outer H s E e s'
structure bw (P:Ψ) (w:θ) (K:Λ) (mg:Str->Option Α) (base:Heap) (CX:dO) (k:Nat) (f:Addr) (fd:bt) (ps:List Str) (sp:Sp):Prop where
 len:∀ vs H Q E,sp vs H Q E->vs.length=ps.length
 run:∀ (A:ζ) (outer:List Env) (s:Δ) (H:Hp) (args:Args) (us:List Α) (vs:List V) (Q:VK) (E:XK),aL k A->dg P w K mg base A outer s H->BindsTo s fd args (ps.zip us)->Ym vs us->sp vs H Q E ->
  d6 (Ο P w) A (.call (.ref f) args) (CR CX outer P w H s Q E) s
theorem bw.mono {P:Ψ} {w:θ} {K:Λ} {mg:Str->Option Α} {base:Heap} {CX:dO} {j k:Nat} {f:Addr} {fd:bt} {ps:List Str} {sp:Sp} (F:bw P w K mg base CX j f fd ps sp) (h:j<=k) :
  bw P w K mg base CX k f fd ps sp:=⟨F.len,fun A outer s H args us vs Q E hr=>F.run A outer s H args us vs Q E (hr.mono h)⟩
theorem dg.make {P:Ψ} {w:θ} {K:Λ} {mg:Str->Option Α} {base:Heap} {A:ζ} {outer:List Env} {s:Δ} {H:Hp} (e:dg P w K mg base A outer s H) (C:Addr) (us:List Α) (kw:List (Str×Α)) :
  dg P w K mg base (A.under (.builtin "type.__call__" ⟨.ref C::us,kw⟩)) outer s H:=⟨by first | exact e.frames | (simpa [lw,Code.envs,lv,pushEnvs] using e.frames),e.mod,e.bs,e.dG,e.cu,e.eE,e.hok,e.bare⟩
section
variable {X:Cx} {pins:List (Addr×Obj)} {σ:St} {H:Hp} {s s':Δ}
theorem Inv.env0 (I:Inv X pins σ H s):dg X.prog X.w X.K X.mg X.base X.A X.stack s H :=
 ⟨I.ok.frames,I.ok.mod,I.bs,az I.ok.dG I.sz,I.stack,I.dN,I.hok,I.bare⟩
theorem Inv.after {Q:VK} {u:Α} (I:Inv X pins σ H s) (h:CE X.stack X.prog X.w H s Q u s'):EP X pins σ Q u s':=by
 obtain ⟨v,H',os,bare,un,hok,r,q⟩:=h;obtain ⟨hh,g,d,t,os'⟩:=s';obtain rfl:os'=s.os:=os;exact ⟨v,H',I.call (h':=hh) (g':=g) (d':=d) (t':=t) (ch:=[]) un hok bare (fun b z=>absurd z (by simp)),r,q⟩
end
def Um (sp:Sp) (bx:List V) (E:XK) (t:TA):TE:=fun σ H Q=>t σ H fun vs H1=>sp (vs++bx) H1 Q E
inductive Lb (H:Hp) (a C:Addr) (m:Str) (Q:Prop):Prop
 | mk (dx:Addr) (fs:List (Str×V)) (h:H a=some (.ins C dx fs)) (l:fs.lookup m=none) (q:Q)
def QR (C:Addr) (m:Str) (sp:Sp) (bx:List V) (E:XK) (ta:TE) (t:TA):TE:=fun σ H Q=>ta σ H fun x H1=>kR x fun a=>Lb H1 a C m (t σ H1 fun vs H2=>sp (.ref a::(vs++bx)) H2 Q E)
def QS (C:Addr) (sp:Sp) (bx:List V) (E:XK) (t:TA):TE:=fun σ H Q=>t σ H fun vs H1=>∀ x dx,H1 x=none->H1 dx=none->dx≠x ->
 sp (.ref x::(vs++bx)) (upd (upd H1 dx (.own x)) x (.ins C dx [])) (fun v H2=>v = .non/\Q (.ref x) H2) E
def Xf (K:Λ) (fd:bt) (ps:List Str) (ds:List Α):Prop :=
 ∀ (s:Δ) (us:List Α),K.In s.heap->(us++ds).length=ps.length->BindsTo s fd ⟨us,[]⟩ (ps.zip (us++ds))
theorem Xf.all {K:Λ} {fd:bt} {ps:List Str} (h:∀ us:List Α,us.length=ps.length->iq fd ⟨us,[]⟩=pure (ps.zip us)):Xf K fd ps []:=fun s us _ hl=>by
 rw [db] at hl ⊢
 exact .of_eq (h us hl)
def XX (CX:dO) (X:Cx) (E:XK):Prop:=∀ (pins:List (Addr×Obj)) (σ:St) (H:Hp) (s:Δ) (e:Α) (s':Δ),Inv X pins σ H s->CX X.stack H s E e s'->X.xe e s'
section
variable {X:Cx} {CX:dO} {k:Nat} {f C:Addr} {fd:bt} {ps:List Str} {sp:Sp} {bx:List V} {ds:List Α} {E:XK} {x m:Str} {p pos apos:Pos} {e o:Expr} {es:List Expr} {ta:TE} {t:TA}
theorem vW {pins:List (Addr×Obj)} {σ:St} {H:Hp} {s:Δ} {Q:VK} {us:List Α} {vs:List V} (F:bw X.prog X.w X.K X.mg X.base CX k f fd ps sp) (hr:aL k X.A) (hb:Xf X.K fd ps ds) (hd:Ym bx ds) (hx:XX CX X E)
  (I:Inv X pins σ H s) (r:Ym vs us) (h:sp (vs++bx) H Q E):Κ (Ο X.prog X.w) X.A (call (.ref f) us) (EP X pins σ Q) X.xe s:=by
 have r2:Ym (vs++bx) (us++ds):=r.append hd;have hl:(us++ds).length=ps.length:=by rw [<- r2.length];exact F.len _ _ _ _ h
 refine gS (fm (F.run X.A X.stack s H ⟨us,[]⟩ (us++ds) (vs++bx) Q E hr I.env0 (hb s us I.aX hl) r2 h) fun r s' hq=>?_)
 cases r with
 | error e=>exact hx pins σ H s e s' I hq
 | ok fl =>
  cases fl with
  | ret u=>exact I.after hq
  | next=>exact am hq
  | brk=>exact am hq
  | cont=>exact am hq
theorem Df (F:bw X.prog X.w X.K X.mg X.base CX k f fd ps sp) (hr:aL k X.A) (hg:Gl X x) (hm:X.mg x=some (.ref f)) (hk:ee X.K (.ref f)=true) (hb:Xf X.K fd ps ds) (hd:Ym bx ds) (hx:XX CX X E)
  (ha:PA X (e::es) t) (hdb:(x==("__debug__":Str))=false:=by decide) (he:Χ (e::es) X.env=(false,eval e X.env)::Χ es X.env:=by rfl) (hpl:(bz pos (Χ es X.env)).any (·.1)=false:=by rfl) :
  PE X (.Call (.Name x p) (e::es) [] pos) (Um sp bx E t):=by
 intro pins s σ H Q I h;refine cS (XQ I hg hm ?_ hdb);refine eM (h₀:=X.base) I.ok.mod.fY hk (aD (ha pos pins s σ H _ I h) fun us s1 ⟨vs,H1,I1,r,q⟩=>⟨I1.aX,?_⟩) he hpl;exact vW F hr hb hd hx I1 r q
theorem Ld {pl:Sem Bool} (he:PE X o ta) (c:Cls X.K C) (hm:Meth X.K C m f) (F:bw X.prog X.w X.K X.mg X.base CX k f fd ps sp) (hr:aL k X.A) (hb:Xf X.K fd ps ds) (hd:Ym bx ds) (hx:XX CX X E) (ha:PA X (e::es) t)
  (hst:Χ (e::es) X.env=(false,eval e X.env)::Χ es X.env:=by rfl) (hpl:(bz pos (Χ es X.env)).any (·.1)=false:=by rfl)
  (ht:eval (.Call (.Attribute o m apos) (e::es) [] pos) X.env=(do
   let ov <- eval o X.env
   standAt apos.atName
   let (f,first) <- holding [ov] (getMethod ov m pl)
   callWith pos f first (bz pos (Χ (e::es) X.env)) (backToKw pos (kQ [] X.env))):=by rfl) :
  PE X (.Call (.Attribute o m apos) (e::es) [] pos) (QR C m sp bx E ta t):=by
 intro pins s σ H Q I h;refine PySem.W.methodCall_KW (pl:=pl) (aD (he pins s σ H _ I h) fun u s1 ⟨x,H1,I1,rx,q⟩=>?_) ht
 replace q:=W1.mp q
 obtain ⟨a,ex,dx,fs,ea,l,q⟩:=q;subst ex;obtain rfl:u=Ω a:=rx;refine K6 I1 ea c hm l ?_;refine eM (first:=[.ref a]) (h₀:=X.base) I.ok.mod.fY hm.kp (aD (ha pos pins s1 σ H1 _ I1 q) fun us s2 ⟨vs,H2,I2,r,q2⟩=>⟨I2.aX,?_⟩) hst hpl;exact vW (us := .ref a::us) (vs := .ref a::vs) F hr hb hd hx I2 (.cons rfl r) q2
structure Mk (K:Λ) (C f:Addr):Prop where
 makes:W.makesIn K C=true
 init:c6 K (.ref C) "__init__"=some (some (.ref f))
 fn:W.isFn K (.ref f)=true
 kp:ee K (.ref C)=true
theorem Le {pins:List (Addr×Obj)} {σ:St} {H:Hp} {s:Δ} {Q:VK} {us:List Α} {vs:List V} (M:Mk X.K C f) (F:bw X.prog X.w X.K X.mg X.base CX k f fd ps sp) (hr:aL (k+1) X.A) (hb:Xf X.K fd ps ds) (hd:Ym bx ds)
  (hx:XX CX X E) (I:Inv X pins σ H s) (r:Ym vs us)
  (h:∀ x dx,H x=none->H dx=none->dx≠x->sp (.ref x::(vs++bx)) (upd (upd H dx (.own x)) x (.ins C dx [])) (fun v H2=>v = .non/\Q (.ref x) H2) E) :
  Κ (Ο X.prog X.w) X.A (call (.ref C) us) (EP X pins σ Q) X.xe s:=by
 have hq:=h (s.heap.objs.size+1) s.heap.objs.size (I.hok.fresh (ly _)) (I.hok.fresh (Φ _)) (ν (ka _));have I2:=Inv.made (C:=C) I;have r2:Ym (V.ref (s.heap.objs.size+1)::(vs++bx)) (Ω (s.heap.objs.size+1)::(us++ds)) := .cons rfl (r.append hd);have hl:(Ω (s.heap.objs.size+1)::us++ds).length=ps.length:=by
  have e:=r2.length;rw [F.len _ _ _ _ hq] at e
  exact e.symm
 refine gS (K4 (f:=f) I.aX M.makes M.init (beq_iff_eq.mp M.fn) (fm (F.run _ X.stack _ _ ⟨Ω (s.heap.objs.size+1)::us,[]⟩ (Ω (s.heap.objs.size+1)::(us++ds)) _ _ E (hr.make C us [])
  (I2.env0.make C us []) (hb _ (Ω (s.heap.objs.size+1)::us) I2.aX hl) r2 hq) fun r s' hq'=>?_))
 cases r with
 | error e=>exact hx pins σ _ _ e s' I2 hq'
 | ok fl =>
  cases fl with
  | ret u =>
   obtain ⟨v,H',I3,rv,ev,q3⟩:=I2.after hq';subst ev;exact ⟨rv,⟨V.ref (s.heap.objs.size+1),H',I3,rfl,q3⟩⟩
  | next=>exact am hq'
  | brk=>exact am hq'
  | cont=>exact am hq'
theorem Lf (M:Mk X.K C f) (F:bw X.prog X.w X.K X.mg X.base CX k f fd ps sp) (hr:aL (k+1) X.A) (hg:Gl X x) (hm:X.mg x=some (.ref C)) (hb:Xf X.K fd ps ds) (hd:Ym bx ds) (hx:XX CX X E)
  (ha:PA X (e::es) t) (hdb:(x==("__debug__":Str))=false:=by decide) (he:Χ (e::es) X.env=(false,eval e X.env)::Χ es X.env:=by rfl) (hpl:(bz pos (Χ es X.env)).any (·.1)=false:=by rfl) :
  PE X (.Call (.Name x p) (e::es) [] pos) (QS C sp bx E t):=by
 intro pins s σ H Q I h;refine cS (XQ I hg hm ?_ hdb);refine eM (h₀:=X.base) I.ok.mod.fY M.kp (aD (ha pos pins s σ H _ I h) fun us s1 ⟨vs,H1,I1,r,q⟩=>⟨I1.aX,?_⟩) he hpl;exact Le M F hr hb hd hx I1 r q
end
structure aB (N P:List Str) (sc:dL):Prop where
 kind:sc.kind = .function
 co:sc.isCoroutine=false
 gen:sc.isGenerator=false
 nd:N.Nodup
 pre:N.take P.length=P
 par:∀ x∈P,sc.names.lookup x=some .local\/sc.names.lookup x=some .cell
 vX:∀ y∈sc.names,y.2 ≠ .free
theorem Qf {kindOf:Str->Option iE} {x:Str}:∀ {binds:List (Str×Α)} {m:Str->Option Α},(∀ v,(x,v)∉binds)->bindL kindOf binds m x=m x
 | [],_,_=>rfl
 | (n,v)::r,m,h=>by
  unfold bindL;rw [Qf fun w hw=>h w (bS _ hw)]
  split
  ·have:x≠n:=by rintro rfl;exact h v eP
   simp [this]
  ·rfl
theorem Qg {kindOf:Str->Option iE} {x:Str}:∀ {binds:List (Str×Α)} {m:Str->Option Α},(∀ v,(x,v)∉binds)->bindC kindOf binds m x=m x
 | [],_,_=>rfl
 | (n,v)::r,m,h=>by
  unfold bindC;rw [Qg fun w hw=>h w (bS _ hw)]
  split
  ·rfl
  ·have:x≠n:=by rintro rfl;exact h v eP
   simp [this]
theorem Qh {kindOf:Str->Option iE} {x:Str} {v:Α}:∀ {P:List Str} {vs:List Α} {i:Nat} {m:Str->Option Α},P.Nodup->P[i]?=some x->vs[i]?=some v->kindOf x=some .local ->
  bindL kindOf (P.zip vs) m x=some v
 | [],_,_,_,_,h,_,_=>by simp at h
 | _::_,[],_,_,_,_,h,_=>by simp at h
 | p::P,w::vs,0,m,nd,h1,h2,hk=>by
  simp at h1 h2;subst h1;subst h2
  show bindL kindOf ((p,w)::P.zip vs) m p=_
  unfold bindL;rw [Qf fun v hv=>(a9.mp nd).1 (eh hv).1,if_pos hk];simp
 | p::P,w::vs,i+1,m,nd,h1,h2,hk=>by
  show bindL kindOf ((p,w)::P.zip vs) m x=_
  unfold bindL;exact Qh (i:=i) (a9.mp nd).2 (by simpa using h1) (by simpa using h2) hk
theorem Qi {kindOf:Str->Option iE} {x:Str} {v:Α}:∀ {P:List Str} {vs:List Α} {i:Nat} {m:Str->Option Α},P.Nodup->P[i]?=some x->vs[i]?=some v->kindOf x≠some .local ->
  bindC kindOf (P.zip vs) m x=some v
 | [],_,_,_,_,h,_,_=>by simp at h
 | _::_,[],_,_,_,_,h,_=>by simp at h
 | p::P,w::vs,0,m,nd,h1,h2,hk=>by
  simp at h1 h2;subst h1;subst h2
  show bindC kindOf ((p,w)::P.zip vs) m p=_
  unfold bindC;rw [Qg fun v hv=>(a9.mp nd).1 (eh hv).1,if_neg hk];simp
 | p::P,w::vs,i+1,m,nd,h1,h2,hk=>by
  show bindC kindOf ((p,w)::P.zip vs) m x=_
  unfold bindC;exact Qi (i:=i) (a9.mp nd).2 (by simpa using h1) (by simpa using h2) hk
def Xq (N:List Str) (vs:List V):St:=vs.map some++List.replicate (N.length - vs.length) none
def Wh (CX:dO) (P:Ψ) (w:θ) (K:Λ) (mg:Str->Option Α) (base:Heap) (N:List Str) (qual:Str) (scope:dL) (f:Addr) (cd:Α) (A:ζ) (outer:List Env) (s:Δ) (H:Hp) (E:XK):Cx where
 prog:=P
 w:=w
 K:=K
 mg:=mg
 base:=base
 A:=A.deeper (km qual scope s.heap.objs.size f cd)
 N:=N
 s₀:=s
 H₀:=H
 env:=km qual scope s.heap.objs.size f cd
 outer:=outer
 stack:=km qual scope s.heap.objs.size f cd::outer
 ex:=[]
 calm:=true
 fn:=fun _=>true
 pn:=[]
 xe:=fun e s'=>Κ (Ο P w) (A.deeper (km qual scope s.heap.objs.size f cd)) (leaving (km qual scope s.heap.objs.size f cd) e) (fun _ s''=>CX outer H s E e s'') (fun e' s''=>CX outer H s E e' s'') s'
theorem Dg {sc:dL} {n:Nat} {x:Str} (h:sc.names.lookup x=some .cell):∃ c,(cellsFrom n sc.names []).lookup x=some c:=by
 have q:=W.cellsFrom_some sc.names n [] (.inl h);exact Option.isSome_iff_exists.mp q
theorem Qj {CX:dO} {P:Ψ} {w:θ} {K:Λ} {mg:Str->Option Α} {base:Heap} {N ps:List Str} {qual:Str} {scope:dL} {f:Addr} {cd:Α} {A:ζ} {outer:List Env} {s s1:Δ} {H:Hp} {E:XK} {us:List Α} {vs:List V}
  (S:aB N ps scope) (hd:A.handled=none) (e0:dg P w K mg base A outer s H) (hl:vs.length=ps.length) (r:Ym vs us)
  (x:InCallC s s.heap.objs.size (bindL (km qual scope s.heap.objs.size f cd).kindOf (ps.zip us) fun _=>none) (cellsFrom (s.heap.objs.size+1) scope.names []) (bindC (km qual scope s.heap.objs.size f cd).kindOf (ps.zip us) fun _=>none) s1) :
  Inv (Wh CX P w K mg base N qual scope f cd A outer s H E) [] (Xq N vs) H s1:=by
 have hpl:ps.length<=N.length:=by have:=congrArg List.length S.pre;rw [ba] at this;omega
 obtain ⟨h1,tk,rfl,hk⟩:=x.done;have iY:∀ b:Addr,b∉(Wh CX P w K mg base N qual scope f cd A outer s H E).ex:=fun b z=>absurd (show b∈([]:List Addr) from z) (by simp)
 refine ⟨⟨e0.mod,S.kind,rfl,rfl,Φ _,fun y z c h1 h2=>?_,fun y hy=>?_,fun y c _ h=>?_,fun _=>hd,Around.frames_deeper e0.frames,.inr ⟨rfl,rfl⟩,fun b z=>absurd z (iY b),e0.bs,e0.dG,fun b _ _=>iY b,fun b z=>absurd z (iY b),e0.cu,e0.eE⟩,
  rfl,e0.bare,Un.kept hk,⟨_,x.toInCall.ns,fun i y v h1 h2 h3=>?_⟩,fun y c h=>⟨_,x.cell y c h⟩,e0.hok.fresh (Φ _),fun y c h=>?_,fun p hp=>absurd (show p∈([]:List (Addr×Obj)) from hp) (by simp),e0.hok.kept hk,?_⟩
 ·exact name_of_addr x.apart (c9 h1) (c9 h2)
 ·have hy:scope.names.lookup y=some .cell\/scope.names.lookup y=some .free:=hy
  rcases hy with hy | hy
  ·exact Dg hy
  ·exact absurd rfl (S.vX _ (c9 hy))
 ·exact gy (x.above y c (c9 h))
 ·have hi:i<vs.length:=by
   unfold Xq at h2;by_cases hi:i<vs.length
   ·exact hi
   ·rw [aE (by simpa using hi)] at h2
    rw [List.getElem?_replicate] at h2
    split at h2<;>cases h2
  have ha:vs[i]?=some v:=by
   unfold Xq at h2;rw [ar (by simpa using hi),Ξ] at h2
   cases e:vs[i]? with
   | none=>rw [e] at h2;cases h2
   | some a=>rw [e] at h2;cases h2;rfl
  obtain ⟨u,hu,rv⟩:=r.get ha;have hp:ps[i]?=some y:=by
   rw [<- S.pre,List.getElem?_take_of_lt (by omega)];exact h1
  have tE:ps.Nodup:=by rw [<- S.pre];exact S.nd.sublist (List.take_sublist _ _)
  refine ⟨u,rv,?_⟩;rcases S.par y (Τ hp) with k | k
  ·exact .inl ⟨k,Qh tE hp hu k⟩
  ·obtain ⟨c,e⟩:=Dg (n:=s.heap.objs.size+1) k
   refine .inr ⟨.inl k,c,e,?_⟩;have q:=x.cell y c e;rw [Qi tE hp hu (by show scope.names.lookup y≠_;rw [k];decide)] at q
   exact q
 ·exact e0.hok.fresh (gy (x.above y c (c9 h)))
 ·unfold Xq
  show _=N.length
  rw [Ρ,Ζ,eW];omega
theorem vY {CX:dO} {P:Ψ} {w:θ} {K:Λ} {mg:Str->Option Α} {base:Heap} {k:Nat} {f:Addr} {name qual:Str} {params:ki} {body:List Stmt} {scope:dL} {dV kV doc pm cdv ct oc:Α} {an od:Option Addr}
  {osl:Array (Option Α)} {N ps:List Str} {sp:Sp} (lk:K.lookup f=some ⟨oc,od,.func (dQ name qual params body scope dV kV doc pm an cdv ct),osl⟩) (hcd:i6 K cdv qual=true) (S:aB N ps scope)
  (len:∀ vs H Q E,sp vs H Q E->vs.length=ps.length)
  (hbody:∀ (A:ζ) (outer:List Env) (s:Δ) (H:Hp) (vs:List V) (Q:VK) (E:XK),aL k (A.deeper (km qual scope s.heap.objs.size f cdv))->sp vs H Q E ->
   ∃ t,cR (Wh CX P w K mg base N qual scope f cdv A outer s H E) body t/\t { nx:=fun _ H'=>Q .non H',rt:=Q } (Xq N vs) H) :
  bw P w K mg base CX (k+1) f (dQ name qual params body scope dV kV doc pm an cdv ct) ps sp:=by
 refine ⟨len,fun A outer s H args us vs Q E hr e0 hb r hsp=>?_⟩;have hl:=len _ _ _ _ hsp;have KX:K.In s.heap:=e0.mod.fY.keeps fun b o e=>(e0.bs b o e).1
 have lim:s.heap.NoLimit:=e0.mod.nolimit.keeps fun b o e=>(e0.bs b o e).1
 have hkind:∀ y∈ps.zip us,scope.names.lookup y.1=some .local\/(scope.names.lookup y.1=some .cell/\((cellsFrom (s.heap.objs.size+1) scope.names []).lookup y.1).isSome=true):=fun ⟨n,v⟩ hy=>by
  rcases S.par n (eh hy).1 with q | q
  ·exact .inl q
  ·exact .inr ⟨q,W.cellsFrom_some _ _ _ (.inl q)⟩
 refine gN hr.depth (KX _ _ lk) rfl S.co S.gen rfl (W.codeRec_of KX hcd) (hb _ _ _ _ ?_);refine wpAny_newFunctionEnv_cells S.kind hkind fun env he s1 x=>?_
 subst he;refine ⟨lim.keeps x.toInCall.keep,lm ?_⟩;obtain ⟨t,ht,hq⟩:=hbody A outer s H vs Q E (hr.deeper _) hsp;have I:Inv (Wh CX P w K mg base N qual scope f cdv A outer s H E) [] (Xq N vs) H s1:=Qj S hr.hd e0 hl r x;refine ω (ht [] s1 (Xq N vs) H _ I hq) (fun fl s' hs=>?_) fun e s' hs=>hs
 have fin:∀ {σ':St} {H':Hp} {v:V} {u:Α},Inv (Wh CX P w K mg base N qual scope f cdv A outer s H E) [] σ' H' s'->Yx v u->Q v H'->CE outer P w H s Q u s' :=
  fun {σ' H' v u} J rv q=>⟨v,H',J.os,J.bare,J.base,J.hok,rv,q⟩
 cases fl with
 | ret u =>
  obtain ⟨v,σ',H',J,rv,q⟩:=hs;exact fin J rv q
 | next =>
  obtain ⟨σ',H',J,q⟩:=hs;exact fin (v:=V.non) (u:=cq) J rfl q
 | brk =>
  obtain ⟨_,_,_,q⟩:=hs;exact am q
 | cont =>
  obtain ⟨_,_,_,q⟩:=hs;exact am q
section
variable {X:Cx} {x:Str} {p pos:Pos} {e:Expr} {es:List Expr} {t:TA} {id T:String} {r:List V->Hp->VK->Prop}
def mG (r:List V->Hp->VK->Prop) (t:TA):TE:=fun σ H Q=>t σ H fun vs H1=>r vs H1 Q
theorem Lg (hc:XM X (.builtin id) r) (hg:Gl X x) (hm:X.mg x=none) (hv:eL x=some (.builtin id)) (ha:PA X (e::es) t) (hn:x≠"__name__":=by decide) (hdb:(x==("__debug__":Str))=false:=by decide)
  (he:Χ (e::es) X.env=(false,eval e X.env)::Χ es X.env:=by rfl) (hpl:(bz pos (Χ es X.env)).any (·.1)=false:=by rfl):PE X (.Call (.Name x p) (e::es) [] pos) (mG r t):=by
 intro pins s σ H Q I h;refine cS (X8 I hg hm hv ?_ hn hdb);exact PyProof.Rows.callWith_builtin1 (aD (ha pos pins s σ H _ I h) fun us s1 ⟨vs,H1,I1,r1,q1⟩=>hc pins s1 σ H1 vs us Q I1 r1 q1) he hpl
theorem Lh (hc:XM X (.type T) r) (hg:Gl X x) (hm:X.mg x=none) (hv:eL x=some (.type T)) (ha:PA X (e::es) t) (hn:x≠"__name__":=by decide) (hdb:(x==("__debug__":Str))=false:=by decide)
  (he:Χ (e::es) X.env=(false,eval e X.env)::Χ es X.env:=by rfl) (hpl:(bz pos (Χ es X.env)).any (·.1)=false:=by rfl):PE X (.Call (.Name x p) (e::es) [] pos) (mG r t):=by
 intro pins s σ H Q I h;refine cS (X8 I hg hm hv ?_ hn hdb);exact cw (aD (ha pos pins s σ H _ I h) fun us s1 ⟨vs,H1,I1,r1,q1⟩=>hc pins s1 σ H1 vs us Q I1 r1 q1) he hpl
end
end L2
namespace HT
open PySem PyProof.Rows
theorem qW (A:ζ) (s:Δ) (a:Int) (t:Tok) (c:Int) (u:Tok) (prog:Ψ) (w:θ) (E:Α->Δ->Prop) (Q:Α->Δ->Prop) (h:Q (.bool (decide (a<c))) s) :
  Κ (Ο prog w) A (richCompare .Lt (.int a t) (.int c u)) Q E s :=
 (PyProof.Rows.lt_int h:Κ (Ο prog w) A (bu .Lt (.int a t) (.int c u)) Q E s)
section
variable {prog:Ψ} {w:θ} {A:ζ} {E:Α->Δ->Prop} {s:Δ}
def aG (n d:Nat):Option Int->Nat
 | none=>d
 | some v=>if v<0 then (v+(n:Int)).toNat else min v.toNat n
theorem fD (n d:Nat):aG n d none=d:=rfl
theorem gP (n d k:Nat):aG n d (some (k:Int))=min k n:=by
 show (if (k:Int)<0 then ((k:Int)+(n:Int)).toNat else min (k:Int).toNat n)=min k n
 rw [if_neg (by omega),et]
theorem kj (n d:Nat) (hd:d<=n) (o:Option Int):aG n d o<=n:=by
 cases o with
 | none=>exact hd
 | some v =>
  show (if v<0 then (v+(n:Int)).toNat else min v.toNat n)<=n
  by_cases hv:v<0
  ·rw [if_pos hv];omega
  ·rw [if_neg hv];exact Nat.min_le_right _ _
theorem Dh (v:Int) (n d:Nat):(if v<0 then max (v+(n:Int)) 0 else min v (n:Int))=((aG n d (some v):Nat):Int):=by
 show (if v<0 then max (v+(n:Int)) 0 else min v (n:Int))=(((if v<0 then (v+(n:Int)).toNat else min v.toNat n):Nat):Int)
 by_cases hv:v<0
 ·simp only [if_pos hv];omega
 ·simp only [if_neg hv];omega
theorem Li (lo hi:Option Int) (n:Nat):Builtin.Slice.sliceAdjust lo hi 1 (n:Int)=(((aG n 0 lo:Nat):Int),((aG n n hi:Nat):Int)):=by
 have h1:¬ ((1:Int)<0):=by omega
 unfold Builtin.Slice.sliceAdjust;simp only [h1,if_false];refine Prod.ext ?_ ?_
 ·cases lo with
  | none=>rfl
  | some v=>exact Dh v n 0
 ·cases hi with
  | none=>rfl
  | some v=>exact Dh v n n
theorem Lj (i j:Nat):fg (i:Int) (j:Int) 1=j - i:=by
 unfold fg;have h1:(1:Int)>0:=by omega
 simp only [h1,if_true,Int.ediv_one]
 split<;>omega
theorem Uo {v:Α} {o:Option Int} {Q:Option Int->Δ->Prop} (p:IsPart v o) (h:Q o s):Κ (Ο prog w) A (Builtin.Slice.slicePartIndex v) Q E s:=by
 cases p with
 | none=>exact slicePart_none h
 | int i t=>exact slicePart_int h
theorem V6 {sl:Addr} {vl vu:Α} {lo hi:Option Int} {n:Nat} {Q:Int×Int×Nat->Δ->Prop} (hs:s.heap.IsSliceOf sl vl vu .none) (pl:IsPart vl lo) (pu:IsPart vu hi)
  (h:Q (((aG n 0 lo:Nat):Int),1,aG n n hi - aG n 0 lo) s):Κ (Ο prog w) A (Builtin.Slice.sliceApplied (.ref sl) (pure (n:Int))) Q E s:=by
 obtain ⟨os,hos,hcs,hds⟩:=id hs;unfold Builtin.Slice.sliceApplied Builtin.Slice.sliceFields;refine Β (Β (av hos hds (x:=vl) rfl (Β (av hos hds (x:=vu) rfl (Β (av hos hds (x := .none) rfl (Μ ?_)))))));refine Β (slicePart_none ?_)
 show Κ _ _ (if ((1:Int)==0)=true then _ else _) _ _ s
 rw [if_neg (by decide)];refine Β (Uo pl (Β (Uo pu (Β (Μ ?_)))))
 show Κ _ _ (match Builtin.Slice.sliceAdjust lo hi 1 (n:Int) with | (lo,hi)=>pure (lo,(1:Int),fg lo hi 1)) _ _ s
 rw [Li lo hi n]
 show Κ _ _ (pure (((aG n 0 lo:Nat):Int),(1:Int),fg ((aG n 0 lo:Nat):Int) ((aG n n hi:Nat):Int) 1)) _ _ s
 rw [Lj];exact Μ h
theorem Lk (xs:Array Α) (i k:Nat):((bj k).filterMap fun (m:Nat)=>xs[((i:Int)+(m:Int)*1).toNat]?).toArray=((xs.toList.drop i).take k).toArray:=by
 have e:(fun (m:Nat)=>xs[((i:Int)+(m:Int)*1).toNat]?)=fun m=>xs[i+m]?:=by
  funext m
  have:((i:Int)+(m:Int)*1).toNat=i+m:=by omega
  rw [this]
 rw [e];have:=pick_run xs i k;rw [List.filterMap_map] at this
 have e2:((fun x=>xs[x]?) ∘ fun x=>i+x)=fun m=>xs[i+m]?:=rfl
 rw [e2] at this
 rw [this]
theorem iu {t sl:Addr} {items:Array Α} {vl vu:Α} {lo hi:Option Int} {Q:Α->Δ->Prop} (ht:IsTup s.heap t items) (hs:s.heap.IsSliceOf sl vl vu .none) (pl:IsPart vl lo) (pu:IsPart vu hi)
  (hw:¬ (aG items.size 0 lo=0/\aG items.size items.size hi=items.size))
  (h:Q (.ref s.heap.objs.size) { s with heap:=s.heap.push { cls := .type "tuple",data := .seq ((items.toList.drop (aG items.size 0 lo)).take (aG items.size items.size hi - aG items.size 0 lo)).toArray } })
  (hsz:items.size<=sizeLine):Κ (Ο prog w) A (getItem (.ref t) (.ref sl)) Q E s:=by
 have jY:sizeOk (.seq ((items.toList.drop (aG items.size 0 lo)).take (aG items.size items.size hi - aG items.size 0 lo)).toArray):=by
  show ((items.toList.drop (aG items.size 0 lo)).take (aG items.size items.size hi - aG items.size 0 lo)).toArray.size<=sizeLine
  rw [ξ,ba,bb,ie];omega
 have hj:aG items.size items.size hi<=items.size:=kj _ _ (Φ _) hi;obtain ⟨os,hos,hcs,hds⟩:=id hs;have hTs:s.TypeIs (.ref sl) "slice":=⟨os,hos,hcs⟩;unfold getItem
 try with_reducible refine dy ?_
 first | refine Β (Μ ?_) | skip
 refine Β (wpAny_sequenceKey ht.typeIs (by decide) ?_);refine Β (bv (name:=χ "__getitem__") ht.typeIs PyProof.Rows.slot_tuple_getitem
  (ck PyProof.Rows.slot_tuple_getitem ht.typeIs entry_tuple_getitem ?_ (args_tuple_getitem _ _)))
 show Κ _ _ (Builtin.Tuple.tupleItemsOf (.ref t) >>= _) _ _ s
 refine Β (tupleItemsOf_ ht ?_);refine Β (wpAny_typeOf hTs ?_);rw [if_pos (by decide)];refine Β (V6 hs pl pu ?_);have hno:¬ ((((aG items.size 0 lo:Nat):Int)==0&&(1:Int)==1&&(aG items.size items.size hi - aG items.size 0 lo)==items.size)=true):=by
  intro q;rw [de,de] at q
  have q1:((aG items.size 0 lo:Nat):Int)=0:=eq_of_beq q.1.1;have q2:aG items.size items.size hi - aG items.size 0 lo=items.size:=eq_of_beq q.2;exact hw ⟨by omega,by omega⟩
 show Κ _ _ (if (((aG items.size 0 lo:Nat):Int)==0&&(1:Int)==1&&(aG items.size items.size hi - aG items.size 0 lo)==items.size)=true then _ else _) _ _ s
 rw [if_neg hno,Lk]
 first
  | exact Β (m:=ft _) (dk (Μ ⟨_,rfl,Μ h⟩) jY)
  | exact Β (m:=ft _) (dk (Β (Μ (Μ ⟨_,rfl,Μ h⟩))) jY)
  | exact Β (Β (m:=ft _) (dk (Μ (Μ ⟨_,rfl,Μ h⟩)) jY))
  | exact Β (Β (m:=ft _) (dk (Μ ⟨_,rfl,Μ h⟩) jY))
end
end HT
namespace L2
open PySem PySem.Spec PyProof.Rows
abbrev TO:=St->Hp->(Option Int->Hp->Prop)->Prop
def PO (X:Cx) (e:Option Expr) (t:TO):Prop :=
 ∀ (pins:List (Addr×Obj)) (s:Δ) (σ:St) (H:Hp) (Q:Option Int->Hp->Prop),Inv X pins σ H s->t σ H Q ->
  Κ (Ο X.prog X.w) X.A (evalPart e X.env) (fun u s'=>∃ o H',Inv X pins σ H' s'/\IsPart u o/\Q o H') X.xe s
def UM:TO:=fun _ H Q=>Q none H
def vZ (t:TE):TO:=fun σ H Q=>t σ H fun x H1=>kI x fun i=>Q (some i) H1
theorem Ln {ns:List Int}:∀ {us:List Α},Ym (ns.map V.int) us->IntsAre us ns:=by
 induction ns with
 | nil=>intro us r;rw [dS] at r;cases r;exact .nil
 | cons n ns ih =>
  intro us r;rw [ae] at r
  cases r with
  | cons r1 r2 =>
   obtain ⟨t,e⟩:=r1;subst e;exact .cons n t (ih r2)
section
variable {X:Cx} {e:Expr} {te:TE} {lo hi:Option Expr} {tl th:TO} {pos p2:Pos}
theorem XR:PO X none UM:=by
 intro pins s σ H Q I h;rw [evalPart_none];exact Μ ⟨none,H,I,.none,h⟩
theorem XS (h:PE X e te):PO X (some e) (vZ te):=by
 intro pins s σ H Q I hw;rw [evalPart_some];refine aD (h pins s σ H _ I hw) fun u s1 ⟨x,H1,I1,r1,q1⟩=>?_
 obtain ⟨i,rfl,q⟩:=UJ.mp q1;obtain ⟨t,rfl⟩:=r1;exact ⟨some i,H1,I1,.int i t,q⟩
def oK (X:Cx) (r:V->Option Int->Option Int->Hp->VK->Prop):Prop :=
 ∀ (pins:List (Addr×Obj)) (s:Δ) (σ:St) (H:Hp) (x:V) (v vl vu:Α) (lo hi:Option Int) (sl:Addr) (Q:VK),Inv X pins σ H s->Yx x v->s.heap.IsSliceOf sl vl vu .none->IsPart vl lo->IsPart vu hi->r x lo hi H Q ->
  ∃ T id,typeLookup (.type T) "__getitem__"=pure (some (.builtin id))/\s.TypeIs v T/\Κ (Ο X.prog X.w) X.A (getItem v (.ref sl)) (EP X pins σ Q) X.xe s
def v7 (r:V->Option Int->Option Int->Hp->VK->Prop) (te:TE) (tl th:TO):TE:=fun σ H Q=>te σ H fun x H1=>tl σ H1 fun l H2=>th σ H2 fun u H3=>r x l u H3 Q
theorem XB {r:V->Option Int->Option Int->Hp->VK->Prop} (hr:oK X r) (he:PE X e te) (hl:PO X lo tl) (hu:PO X hi th):PE X (.Subscript e (.Slice lo hi none p2) pos) (v7 r te tl th):=by
 intro pins s σ H Q I h;refine Subscript_ (aD (he pins s σ H _ I h) fun v s1 ⟨x,H1,I1,r1,q1⟩=>?_);refine wpAny_Slice (aD (hl pins s1 σ H1 _ I1 q1) fun vl s2 ⟨l,H2,I2,pl,q2⟩=>aD (hu pins s2 σ H2 _ I2 q2) fun vu s3 ⟨u,H3,I3,pu,q3⟩=>?_);rw [evalPart_none];refine Μ ?_;have I4:Inv X pins σ H3 { s3 with heap:=s3.heap.push { cls := .type "slice",data := .fields #[vl,vu,.none] } }:=I3.kept (t':=s3.toks) fun b ob q=>Ε _ q
 obtain ⟨T,id,hT,ht,hg⟩:=hr pins { s3 with heap:=s3.heap.push { cls := .type "slice",data := .fields #[vl,vu,.none] } } σ H3 x v vl vu l u s3.heap.objs.size Q I4 r1 (Heap.IsSliceOf.new ..) pl pu q3
 show Κ (Ο X.prog X.w) X.A (subscriptTail e (.Slice lo hi none p2) v (.ref s3.heap.objs.size)) (EP X pins σ Q) X.xe { s3 with heap:=s3.heap.push { cls := .type "slice",data := .fields #[vl,vu,.none] } }
 exact tail_any (ops:=[.ref s3.heap.objs.size,v]) ht hT hg (by with_unfolding_all rfl)
def W3 (xs:List V) (lo hi:Option Int):List V:=(xs.drop (HT.aG xs.length 0 lo)).take (HT.aG xs.length xs.length hi - HT.aG xs.length 0 lo)
theorem V0 (xs:List V) (lo hi:Option Int):(W3 xs lo hi).length<=xs.length:=by
 unfold W3;rw [ba,bb];omega
def Jr (K:Λ):V->Option Int->Option Int->Hp->VK->Prop:=fun x lo hi H Q=>∃ a xs,x = .ref a/\aA K H a xs /\
 ¬ (HT.aG xs.length 0 lo=0/\HT.aG xs.length xs.length hi=xs.length)/\∀ p,H p=none->Q (.ref p) (upd H p (.tup (W3 xs lo hi)))
theorem Lp:oK X (Jr X.K):=by
 intro pins s σ H x v vl vu lo hi sl Q I rx hs pl pu h;obtain ⟨a,xs,rfl,hx,hw,q⟩:=h
 cases rx
 obtain ⟨its,r,ht,hz⟩:=I.tuple hx;have hlen:its.toArray.size=xs.length:=by rw [ξ];exact r.length.symm
 refine ⟨"tuple",_,PyProof.Rows.slot_tuple_getitem.lookup,ht.typeIs,?_⟩;refine HT.iu ht hs pl pu (by rw [hlen];exact hw) ?_ (by rw [hlen];exact hz);rw [hlen];refine ⟨.ref s.heap.objs.size,_,I.laid (t':=s.toks) (o := .tup (W3 xs lo hi)) (fun b ob q=>Ε _ q) (Φ _) ?_,rfl,q _ (I.hok.fresh (Φ _))⟩;exact ⟨az (V0 xs lo hi) hz,_,(r.drop (HT.aG xs.length 0 lo)).take (HT.aG xs.length xs.length hi - HT.aG xs.length 0 lo),IsTup.new _ _⟩
end
def iZ (n:Nat) (i:Int):Option Nat:=if 0<=i then (if i<n then some i.toNat else none) else if -(n:Int)<=i then some (i+n).toNat else none
def iz {α:Type} (xs:List α) (i:Int):Option α:=(iZ xs.length i).bind fun j=>xs[j]?
theorem Di {n:Nat} {i:Int} {j:Nat} (h:iZ n i=some j):seqIndex? i n=some j/\j<n /\ -(n:Int)<=i/\i<n:=by
 unfold iZ at h;by_cases h0:0<=i
 ·rw [if_pos h0] at h
  by_cases h1:i<n
  ·rw [if_pos h1] at h
   have e:i.toNat=j:=Θ h;exact ⟨by rw [seqIndex_of h0 h1,e],by omega,by omega,h1⟩
  ·rw [if_neg h1] at h;cases h
 ·rw [if_neg h0] at h
  by_cases h1 : -(n:Int)<=i
  ·rw [if_pos h1] at h
   have e:(i+n).toNat=j:=Θ h;exact ⟨by rw [seqIndex_neg (by omega) h1,e],by omega,h1,by omega⟩
  ·rw [if_neg h1] at h;cases h
theorem UN {α:Type} {xs:List α} {i:Int} {v:α} (h:iz xs i=some v):∃ j,seqIndex? i xs.length=some j/\xs[j]?=some v/\j<xs.length /\ -(xs.length:Int)<=i/\i<xs.length:=by
 unfold iz at h
 cases e:iZ xs.length i with
 | none=>rw [e] at h;cases h
 | some j =>
  rw [e] at h
  obtain ⟨h1,h2,h3,h4⟩:=Di e;exact ⟨j,h1,h,h2,h3,h4⟩
theorem Yj {α:Type} {xs:List α} {j:Nat} {v:α} (h:xs[j]?=some v):iz xs (j:Int)=some v:=by
 have hj:j<xs.length:=(Ι.mp h).1;have e:iZ xs.length (j:Int)=some j:=by
  unfold iZ;rw [if_pos (by omega),if_pos (by omega)];simp
 unfold iz;rw [e];exact h
def Lq (b:Expr):Prop:=∀ o i,subscripted b false o i=operate [o,i] (getItem o i)
def oM (X:Cx) (r:R2):Prop :=
 ∀ (value slice:Expr) (pins:List (Addr×Obj)) (s:Δ) (σ:St) (H:Hp) (x y:V) (v u:Α) (Q:VK),Inv X pins σ H s->Yx x v->Yx y u->r x y H Q ->
  subscripted slice false v u=operate [v,u] (getItem v u)->Κ (Ο X.prog X.w) X.A (subscriptTail value slice v u) (EP X pins σ Q) X.xe s
def kE (X:Cx) (id:String) (r:V->List V->Hp->VK->Prop):Prop :=
 ∀ (pins:List (Addr×Obj)) (s:Δ) (σ:St) (H:Hp) (x:V) (xs:List V) (v:Α) (us:List Α) (Q:VK),Inv X pins σ H s->Yx x v->Ym xs us->r x xs H Q ->
  Κ (Ο X.prog X.w) X.A (call (.builtin id) (v::us)) (EP X pins σ Q) X.xe s
section
variable {X:Cx} {a b:Expr} {ta tb:TE} {pos:Pos}
theorem YD {r:R2} (hr:oM X r) (ha:PE X a ta) (hb:PE X b tb) (hs:Lq b):PE X (.Subscript a b pos) (iy r ta tb):=by
 intro pins s σ H Q I h;exact Subscript_ (qO ha hb I h fun v u s2 x y H2 I2 rx ry q=>hr a b pins s2 σ H2 x y v u Q I2 rx ry q (hs _ _))
inductive mH (S:List V->Prop) (i:Int) (Q:V->Prop):Prop
 | mk (xs:List V) (h:S xs) (v:V) (e:iz xs i=some v) (q:Q v)
def qX (K:Λ):R2:=fun x y H Q=>kR x fun p=>kI y fun i=>mH (ao K H p) i fun v=>Q v H
theorem mH.e {S:Addr->List V->Prop} {x y:V} {Q:V->Prop} (h:kR x fun p=>kI y fun i=>mH (S p) i Q):∃ p xs i v,x = .ref p/\y = .int i/\S p xs/\iz xs i=some v/\Q v:=by
 obtain ⟨p,e1,h⟩:=W1.mp h;obtain ⟨i,e2,xs,h1,v,h2,h3⟩:=UJ.mp h;exact ⟨p,xs,i,v,e1,e2,h1,h2,h3⟩
def oN (K:Λ):R2:=fun x y H Q=>kR x fun p=>kI y fun i=>mH (aA K H p) i fun v=>Q v H
def Js:R2:=fun x y H Q=>∃ z i c,x = .str z/\y = .int i/\z.length<=sizeLine/\iz z.cps.toList i=some c/\Q (.str ⟨#[c]⟩) H
theorem XH:oM X (qX X.K):=by
 intro value slice pins s σ H x y v u Q I rx ry h hs
 replace h:=mH.e h
 obtain ⟨p,xs,i,z,rfl,rfl,hq,he,q⟩:=h
 cases rx
 obtain ⟨t,rfl⟩:=ry;obtain ⟨its,r,pl,hz⟩:=I.list hq;obtain ⟨j,h1,h2,h3,h4,h5⟩:=UN he;obtain ⟨w,ew,dR⟩:=r.get h2;have hl:=r.length;have hn:=W9;have fin:EP X pins σ Q w s:=⟨z,H,I,dR,q⟩;by_cases h0:0<=i
 ·have hj:i.toNat=j:=by
   rw [seqIndex_of h0 h5] at h1
   exact Θ h1
  exact item_listR pl.isList h0 (by omega) (by rw [hj];simpa using ew) fin hs
 ·have hj:(i+(its.toArray.size:Int)).toNat=j:=by
   rw [seqIndex_neg (by omega) h4] at h1
   rw [ξ,<- hl];exact Θ h1
  exact subscriptTail_builtinR (x:=w) pl.isList.typeIs slot_list_getitem.lookup
   (wpAny_getItem_list_neg (Q:=fun r s'=>r=w/\EP X pins σ Q r s') pl.isList (by omega) (by rw [ξ]<;>omega) (by omega) (by rw [hj];simpa using ew) ⟨rfl,fin⟩) hs
theorem YM:oM X (oN X.K):=by
 intro value slice pins s σ H x y v u Q I rx ry h hs
 replace h:=mH.e h
 obtain ⟨p,xs,i,z,rfl,rfl,hq,he,q⟩:=h
 cases rx
 obtain ⟨t,rfl⟩:=ry;obtain ⟨its,r,pl,hz⟩:=I.tuple hq;obtain ⟨j,h1,h2,h3,h4,h5⟩:=UN he;obtain ⟨w,ew,dR⟩:=r.get h2;have hl:=r.length;have hn:=W9;have fin:EP X pins σ Q w s:=⟨z,H,I,dR,q⟩;exact subscriptTail_builtinR (x:=w) pl.typeIs slot_tuple_getitem.lookup
  (getItem_tuple (j:=j) (Q:=fun r s'=>r=w/\EP X pins σ Q r s') pl (by omega) (by omega) (by rw [ξ,<- hl];exact h1) (by simpa using ew) ⟨rfl,fin⟩) hs
theorem Dj:oM X Js:=by
 intro value slice pins s σ H x y v u Q I rx ry h hs;obtain ⟨z,i,c,rfl,rfl,hz,he,q⟩:=h;obtain ⟨t,rfl⟩:=rx;obtain ⟨t',rfl⟩:=ry;obtain ⟨j,h1,h2,h3,h4,h5⟩:=UN he;have hl:z.cps.toList.length=z.length:=by simp [Str.length]
 rw [hl] at h1 h4 h5
 have hn:=W9;exact tail_any (typeIs_str s z t) slot_str_getitem.lookup (getItem_str (c:=c) (by
  have e1:decide (i < -(2^63:Int))=false:=decide_eq_false (by omega);have e2:decide (i>=2^63)=false:=decide_eq_false (by omega);rw [e1,e2,Bool.or_false]) (by rw [h1];simpa using h2) ⟨.str ⟨#[c]⟩,H,I.tok _,⟨_,rfl⟩,q⟩) hs
theorem Lr (its:List Α) (n j:Nat) (u:Α):d4 (·.setIfInBounds j u) { cls := .type "list",data := .seq its.toArray n }={ cls := .type "list",data := .seq (its.set j u).toArray n }:=by
 simp [d4]
theorem Inv.lst {pins:List (Addr×Obj)} {σ:St} {H:Hp} {s:Δ} {p:Addr} {xs:List V} (I:Inv X pins σ H s) (h:H p=some (.lst xs)) :
  ∃ (its:List Α) (n:Nat),Ym xs its/\s.heap.get? p=some { cls := .type "list",data := .seq its.toArray n }/\xs.length<=sizeLine:=by
 obtain ⟨z,its,n,r,e⟩:=I.hok p _ h;exact ⟨its,n,r,e,z⟩
theorem Inv.v8 {pins:List (Addr×Obj)} {σ:St} {H:Hp} {s:Δ} {p:Addr} {xs ys:List V} {its its':List Α} {n n':Nat} {f:Obj->Obj} (I:Inv X pins σ H s) (h:H p=some (.lst xs))
  (ho:s.heap.get? p=some { cls := .type "list",data := .seq its.toArray n }) (hf:f { cls := .type "list",data := .seq its.toArray n }={ cls := .type "list",data := .seq its'.toArray n' }) (r:Ym ys its') (hz:ys.length<=sizeLine) (t:Nat) :
  Inv X pins σ (upd H p (.lst ys)) { s with heap:=s.heap.update p f,toks:=t }:=by
 have e:(s.heap.update p f).get? p=some { cls := .type "list",data := .seq its'.toArray n' }:=by
  rw [br f ho (by rw [hf]<;>rfl),hf]
 refine I.write (x:=p) (e:=p) (by rw [h];trivial) (.inl rfl) (fun b u hb q=>(c8 _ _ (ah hb)).trans q) ⟨_,e⟩ ?_;exact ⟨hz,its',n',r,e⟩
def v9:V->V->V->Hp->(Hp->Prop)->Prop:=fun o i v H Q=>∃ p xs k j,o = .ref p/\i = .int k/\H p=some (.lst xs)/\iZ xs.length k=some j/\Q (upd H p (.lst (xs.set j v)))
theorem Ls:vI X v9:=by
 intro pins s σ H o i v ov iv u Q I ro ri rv h;obtain ⟨p,xs,k,j,rfl,rfl,hp,hj,q⟩:=h
 cases ro
 obtain ⟨t,rfl⟩:=ri;obtain ⟨its,n,r,ho,hz⟩:=I.lst hp;obtain ⟨h1,h2,h3,h4⟩:=Di hj;have hl:=r.length;have hn:=W9;have I':Inv X pins σ (upd H p (.lst (xs.set j v))) { s with heap:=s.heap.update p (d4 (·.setIfInBounds j u)) } :=
  I.v8 hp ho (Lr its n j u) (r.set rv j) (by rw [List.length_set];exact hz) s.toks
 by_cases h0:0<=k
 ·have hk:k.toNat=j:=by
   rw [seqIndex_of h0 h4] at h1
   exact Θ h1
  exact W.ki_setAt ho h0 (by omega) (by rw [ξ,<- hl];exact h4) (by rw [hk];exact ⟨_,I',q⟩)
 ·have hk:(k+(its.toArray.size:Int)).toNat=j:=by
   rw [seqIndex_neg (by omega) h3] at h1
   rw [ξ,<- hl];exact Θ h1
  exact W.ki_setBack ho (by omega) (by rw [ξ,<- hl];exact h3) (by omega) (by rw [hk];exact ⟨_,I',q⟩)
theorem Lw (lo hi:Option Int) (n:Nat):(fh lo hi none n).1=((HT.aG n 0 lo:Nat):Int)/\(fh lo hi none n).2.1=((HT.aG n n hi:Nat):Int)/\(fh lo hi none n).2.2=1:=by
 refine ⟨?_,?_,rfl⟩
 ·cases lo with
  | none=>simp [fh,HT.aG]
  | some i =>
   simp only [fh,HT.aG,Option.getD_none,show (1:Int)>0 by decide,if_true];by_cases h:i<0
   ·simp only [h,if_true]<;>omega
   ·simp only [h,if_false]<;>omega
 ·cases hi with
  | none=>simp [fh,HT.aG]
  | some i =>
   simp only [fh,HT.aG,Option.getD_none,show (1:Int)>0 by decide,if_true];by_cases h:i<0
   ·simp only [h,if_true]<;>omega
   ·simp only [h,if_false]<;>omega
theorem Qz (its:List Α) (lo hi:Option Int):slicePick its.toArray lo hi none=((its.drop (HT.aG its.length 0 lo)).take (HT.aG its.length its.length hi - HT.aG its.length 0 lo)).toArray:=by
 obtain ⟨h1,h2,h3⟩:=Lw lo hi its.toArray.size;unfold slicePick;rw [h1,h2,h3];simp only [sliceRange_one,pick_run,ξ]<;>rfl
inductive Lx (K:Λ) (H:Hp) (a:Addr) (Q:List V->Prop):Prop
 | mk (xs:List V) (h:ao K H a xs) (q:Q xs)
def tG (K:Λ):V->Option Int->Option Int->Hp->VK->Prop:=fun x lo hi H Q=>kR x fun a=>Lx K H a fun xs=>∀ p,H p=none->Q (.ref p) (upd H p (.lst (W3 xs lo hi)))
theorem UO:oK X (tG X.K):=by
 intro pins s σ H x v vl vu lo hi sl Q I rx hs pl pu h;obtain ⟨a,rfl,xs,hx,q⟩:=W1.mp h
 cases rx
 obtain ⟨its,r,ht,hz⟩:=I.list hx;have hlen:=r.length;refine ⟨"list",_,slot_list_getitem.lookup,ht.isList.typeIs,?_⟩;refine wpAny_getItem_list_slice ht.isList hs pl pu .none (by simp) ?_ (by rw [ξ]<;>omega);rw [Qz,<- hlen];refine ⟨.ref s.heap.objs.size,_,I.laid (t':=s.toks) (o := .lst (W3 xs lo hi)) (fun b ob q=>Ε _ q) (Φ _) ?_,rfl,q _ (I.hok.fresh (Φ _))⟩;exact ⟨az (V0 xs lo hi) hz,_,0,(r.drop (HT.aG xs.length 0 lo)).take (HT.aG xs.length xs.length hi - HT.aG xs.length 0 lo),δ _ rfl⟩
def WW:V->Bool
 | .non=>true
 | .bl _=>true
 | .int _=>true
 | .str _=>true
 | _=>false
def jJ:V->V->Bool
 | .non,.non=>true
 | .bl a,.bl b=>a==b
 | .bl a,.int b=>(if a then 1 else 0)==b
 | .int a,.bl b=>a==(if b then 1 else 0)
 | .int a,.int b=>a==b
 | .str a,.str b=>a==b
 | _,_=>false
theorem Ly {A:ζ} {s:Δ} {y x:V} {u v:Α} (ry:Yx y u) (rx:Yx x v) (fy:WW y=true) (fx:WW x=true):lL A s u v (jJ y x):=by
 cases y with
 | non =>
  cases ry
  cases x with
  | non=>cases rx;exact SeqAt.EqAt.same _
  | bl b=>cases rx;exact SeqAt.EqAt.none_bool b
  | int b=>obtain ⟨t,rfl⟩:=rx;exact SeqAt.EqAt.none_int b t
  | str b=>obtain ⟨t,rfl⟩:=rx;exact SeqAt.EqAt.none_str b t
  | _=>exact absurd (show false=true from fx) η
 | bl a =>
  cases ry
  cases x with
  | non=>cases rx;exact SeqAt.EqAt.bool_none a
  | bl b=>cases rx;exact SeqAt.EqAt.bool_bool a b
  | int b=>obtain ⟨t,rfl⟩:=rx;exact SeqAt.EqAt.bool_int a b t
  | str b=>obtain ⟨t,rfl⟩:=rx;exact SeqAt.EqAt.bool_str a b t
  | _=>exact absurd (show false=true from fx) η
 | int a =>
  obtain ⟨t',rfl⟩:=ry
  cases x with
  | non=>cases rx;exact SeqAt.EqAt.int_none a t'
  | bl b=>cases rx;exact SeqAt.EqAt.int_bool a t' b
  | int b=>obtain ⟨t,rfl⟩:=rx;exact SeqAt.EqAt.int_int a t' b t
  | str b=>obtain ⟨t,rfl⟩:=rx;exact SeqAt.EqAt.int_str a t' b t
  | _=>exact absurd (show false=true from fx) η
 | str a =>
  obtain ⟨t',rfl⟩:=ry
  cases x with
  | non=>cases rx;exact SeqAt.EqAt.str_none a t'
  | bl b=>cases rx;exact SeqAt.EqAt.str_bool a t' b
  | int b=>obtain ⟨t,rfl⟩:=rx;exact SeqAt.EqAt.str_int a t' b t
  | str b=>obtain ⟨t,rfl⟩:=rx;exact SeqAt.EqAt.str_str a t' b t
  | _=>exact absurd (show false=true from fx) η
 | _=>exact absurd (show false=true from fy) η
def jc (x:V) (u:Α):Bool:=match u with
 | .none=>jJ .non x
 | .bool b=>jJ (.bl b) x
 | .int i _=>jJ (.int i) x
 | .str z _=>jJ (.str z) x
 | _=>false
theorem Dk {x y:V} {u:Α} (r:Yx y u) (f:WW y=true):jc x u=jJ y x:=by
 cases y with
 | non=>cases r;rfl
 | bl b=>cases r;rfl
 | int i=>obtain ⟨t,rfl⟩:=r;rfl
 | str z=>obtain ⟨t,rfl⟩:=r;rfl
 | _=>exact absurd (show false=true from f) η
theorem UP {x:V}:∀ {xs:List V} {us:List Α},Ym xs us->xs.all WW=true->us.any (jc x)=xs.any fun y=>jJ y x
 | _,_,.nil,_=>rfl
 | y::xs,u::us,.cons r t,f=>by
  rw [List.all_cons,de] at f
  rw [List.any_cons,List.any_cons,Dk r f.1,UP t f.2]
theorem V7 {A:ζ} {s:Δ} {x:V} {v:Α} (rx:Yx x v) (fx:WW x=true):∀ {xs:List V} {us:List Α},Ym xs us->xs.all WW=true->∀ u∈us,lL A s u v (jc x u)
 | _,_,.nil,_=>fun u hu=>by cases hu
 | y::xs,u::us,.cons r t,f=>fun u' hu=>by
  rw [List.all_cons,de] at f
  rcases Υ.mp hu with rfl | hu
  ·rw [Dk r f.1];exact Ly r rx f.1 fx
  ·exact V7 rx fx t f.2 u' hu
def inV (x:V) (xs:List V):Bool:=xs.any fun y=>jJ y x
def wg (K:Λ) (neg:Bool):R2:=fun x y H Q=>∃ p xs,y = .ref p/\(ao K H p xs\/aA K H p xs)/\WW x=true/\xs.all WW=true/\Q (.bl (if neg then !inV x xs else inV x xs)) H
theorem Qk:bT X (bu .In) (wg X.K false):=by
 intro pins s σ H x y v u Q I rx ry h;obtain ⟨p,xs,rfl,hq,fx,fs,q⟩:=h
 cases ry
 rcases hq with hq | hq
 ·obtain ⟨its,r,pl,hz⟩:=I.list hq
  refine SeqAt.in_listAt (jc x) pl.isList (fun w hw=>V7 rx fx r fs w (by simpa using hw)) ⟨.bl _,H,I,rfl,?_⟩;rw [show its.toArray.any (jc x)=its.any (jc x) by simp,UP r fs];exact q
 ·obtain ⟨its,r,pl,hz⟩:=I.tuple hq
  refine SeqAt.in_tupleAt (jc x) pl (fun w hw=>V7 rx fx r fs w (by simpa using hw)) ⟨.bl _,H,I,rfl,?_⟩;rw [show its.toArray.any (jc x)=its.any (jc x) by simp,UP r fs];exact q
inductive Jt (K:Λ) (H:Hp) (p:Addr) (Q:Int->Prop):Prop
 | mk (ys:List V) (h:ao K H p ys\/aA K H p ys) (q:Q ys.length)
def qY (K:Λ):List V->Hp->VK->Prop:=fun xs H Q=>k1 xs fun x=>kR x fun p=>Jt K H p fun n=>Q (.int n) H
theorem Y6:XM X (.builtin "len") (qY X.K):=by
 intro pins s σ H xs us Q I r h;obtain ⟨x,rfl,h1⟩:=vq h;obtain ⟨p,rfl,ys,hq,q⟩:=W1.mp h1;obtain ⟨u,rfl,rx⟩:=WC r
 cases rx
 have hn:=W9;rcases hq with hq | hq
 ·obtain ⟨its,r',pl,hz⟩:=I.list hq
  have hlen:=r'.length;exact Calls.call_len_list pl.isList (by simp only [ξ]<;>omega) ⟨.int ys.length,H,I.tok _,⟨s.toks+1,by rw [ξ,hlen]⟩,q⟩
 ·obtain ⟨its,r',pl,hz⟩:=I.tuple hq
  have hlen:=r'.length;exact len_tuple pl (by simp only [ξ]<;>omega) ⟨.int ys.length,H,I.tok _,⟨s.toks+1,by rw [ξ,hlen]⟩,q⟩
theorem VA:XM X (.builtin "len") (fun xs H Q=>∃ z,xs=[.str z]/\z.length<=sizeLine/\Q (.int z.length) H):=by
 intro pins s σ H xs us Q I r h;obtain ⟨z,rfl,hz,q⟩:=h;obtain ⟨u,rfl,t,rfl⟩:=WC r;have hn:=W9;exact len_str (by omega) ⟨.int z.length,H,I.tok _,⟨_,rfl⟩,q⟩
theorem Lz:XM X (.type "list") (fun xs H Q=>∃ p ys,xs=[.ref p]/\(ao X.K H p ys\/aA X.K H p ys)/\∀ l,H l=none->Q (.ref l) (upd H l (.lst ys))):=by
 intro pins s σ H xs us Q I r h;obtain ⟨p,ys,rfl,hq,q⟩:=h;obtain ⟨u,rfl,rx⟩:=WC r
 cases rx
 have fin:∀ (its:List Α),Ym ys its->ys.length<=sizeLine->∀ (h':Heap) (c':Nat),(∀ b o',s.heap.get? b=some o'->h'.get? b=some o') ->
   h'.get? s.heap.objs.size=some { cls := .type "list",dict:=none,data := .seq its.toArray c',slots:=#[] }->EP X pins σ Q (.ref s.heap.objs.size) { s with heap:=h' }:=fun its r' hz h' c' kp e =>
  ⟨.ref s.heap.objs.size,_,I.laid (t':=s.toks) kp (Φ _) (show YK X.prog X.w _ h' _ (.lst ys) from ⟨hz,its,c',r',e⟩),rfl,q _ (I.hok.fresh (Φ _))⟩
 rcases hq with hq | hq
 ·obtain ⟨its,r',pl,hz⟩:=I.list hq
  have hlen:=r'.length;obtain ⟨o,ho,hc,n,hd⟩:=pl.isList;exact call_list_seq p (.inl rfl) ho hc hd (fun h' c' kp e=>fin its r' hz h' c' kp e) (by simp only [ξ]<;>omega)
 ·obtain ⟨its,r',pl,hz⟩:=I.tuple hq
  have hlen:=r'.length;obtain ⟨o,ho,hc,n,hd⟩:=pl;exact call_list_seq p (.inr rfl) ho hc hd (fun h' c' kp e=>fin its r' hz h' c' kp e) (by simp only [ξ]<;>omega)
theorem Xs:XM X (.type "tuple") (fun xs H Q=>∃ p ys,xs=[.ref p]/\((ao X.K H p ys/\∀ l,H l=none->Q (.ref l) (upd H l (.tup ys)))\/(aA X.K H p ys/\Q (.ref p) H))):=by
 intro pins s σ H xs us Q I r h;obtain ⟨p,ys,rfl,h⟩:=h;obtain ⟨u,rfl,rx⟩:=WC r
 cases rx
 rcases h with ⟨hq,q⟩ | ⟨hq,q⟩
 ·obtain ⟨its,r',pl,hz⟩:=I.list hq
  have hlen:=r'.length;refine call_tuple_list pl.isList (fun h' kp=>?_) (by simp only [ξ]<;>omega);have I1:Inv X pins σ H { s with heap:=h' }:=I.kept (t':=s.toks) kp;have I2:Inv X pins σ (upd H h'.objs.size (.tup ys)) { s with heap:=h'.push { cls := .type "tuple",data := .seq its.toArray } } :=
   I1.laid (t':=s.toks) (fun b o e=>Ε _ e) (Φ _) (show YK X.prog X.w _ _ _ (.tup ys) from ⟨hz,its,r',IsTup.new _ _⟩)
  exact ⟨.ref h'.objs.size,_,I2,rfl,q _ (I1.hok.fresh (Φ _))⟩
 ·obtain ⟨its,r',pl,hz⟩:=I.tuple hq
  exact call_tuple_same pl ⟨.ref p,H,I,rfl,q⟩
def tH (K:Λ) (T:String) (x:V) (H:Hp):Prop:=match x with
 | .str _=>T="str"
 | .int _=>T="int"
 | .ref p=>(T="list"/\∃ xs,ao K H p xs)\/(T="tuple"/\∃ o,K.lookup p=some o/\o.cls = .type "tuple"/\o.dict=none) \/
   (T="dict"/\((∃ kvs,H p=some (.dK kvs))\/∃ kvs,H p=some (.dT kvs)))\/(T="set"/\∃ S n,H p=some (.set S n))
 | _=>False
theorem Dl {pins:List (Addr×Obj)} {σ:St} {H:Hp} {s:Δ} {T:String} {x:V} {v:Α} (I:Inv X pins σ H s) (r:Yx x v) (ty:tH X.K T x H) :
  s.TypeIs v T/\∀ a,v = .ref a->∃ ob,s.heap.get? a=some ob/\ob.dict=none:=by
 cases x with
 | str z =>
  obtain ⟨t,rfl⟩:=r
  cases (show T="str" from ty)
  exact ⟨typeIs_str s z t,fun _ e=>nomatch e⟩
 | int i =>
  obtain ⟨t,rfl⟩:=r
  cases (show T="int" from ty)
  exact ⟨typeIs_int s i t,fun _ e=>nomatch e⟩
 | ref p =>
  cases r
  rcases ty with ⟨rfl,xs,hq⟩ | ⟨rfl,o,hk,hc,hd⟩ | ⟨rfl,hk⟩ | ⟨rfl,S,n,hk⟩
  ·obtain ⟨its,_,pl,_⟩:=I.list hq
   refine ⟨pl.isList.typeIs,fun a e=>?_⟩
   cases e
   obtain ⟨o,n,e,c,hd,_⟩:=pl;exact ⟨o,e,hd⟩
  ·refine ⟨⟨o,I.aX p o hk,hc⟩,fun a e=>?_⟩
   cases e
   exact ⟨o,I.aX _ o hk,hd⟩
  ·have z:∃ o,s.heap.get? p=some o/\o.ExactDict:=by
    rcases hk with ⟨kvs,hk⟩ | ⟨kvs,hk⟩
    ·obtain ⟨_,_,_,_,o,_,_,e,ex,_⟩:=I.hok p _ hk
     exact ⟨o,e,ex⟩
    ·obtain ⟨_,_,_,_,o,_,_,e,ex,_⟩:=I.hok p _ hk
     exact ⟨o,e,ex⟩
   obtain ⟨o,e,ex⟩:=z;refine ⟨⟨o,e,ex.1⟩,fun a e2=>?_⟩
   cases e2
   exact ⟨o,e,ex.2.1⟩
  ·obtain ⟨o,_,_,_,e,ex,_⟩:=I.hok p _ hk
   refine ⟨⟨o,e,ex.1⟩,fun a e2=>?_⟩
   cases e2
   exact ⟨o,e,ex.2.1⟩
 | _=>exact am ty
def qZ (K:Λ) (T:String) (r:V->List V->Hp->VK->Prop) (to:TE):TE:=fun σ H Q=>to σ H fun x H1=>tH K T x H1/\r x [] H1 Q
def tK (K:Λ) (T:String) (r:V->List V->Hp->VK->Prop) (to:TE) (t:TA):TE:=fun σ H Q=>to σ H fun x H1=>tH K T x H1/\t σ H1 fun xs H2=>r x xs H2 Q
variable {o e:Expr} {es:List Expr} {to:TE} {t:TA} {name:Str} {apos cpos:Pos} {T id:String} {r:V->List V->Hp->VK->Prop}
theorem LK (pa:PlainAttrs T) (slot:Slot T name id) (hty:typeOf (.builtin id)=pure (.type "method_descriptor")) (hm:kE X id r) (ho:PE X o to)
  (hbase:fA o name X.env (eval o X.env)=eval o X.env) (hline:(apos.endLine==cpos.line)=true):PE X (.Call (.Attribute o name apos) [] [] cpos) (qZ X.K T r to):=by
 intro pins s σ H Q I h;refine wpAny_Call_method0_late hbase hline (aD (ho pins s σ H _ I h) fun v s1 ⟨x,H1,I1,r1,ty,q1⟩=>?_);obtain ⟨h1,h2⟩:=Dl I1 r1 ty;exact ⟨T,id,pa,slot,hty,h1,h2,Calls.callWith_builtin rfl (PySem.evalArgs_none (hm pins s1 σ H1 x [] v [] Q I1 r1 .nil q1))⟩
theorem Xu (pa:PlainAttrs T) (slot:Slot T name id) (hty:typeOf (.builtin id)=pure (.type "method_descriptor")) (hm:kE X id r) (ho:PE X o to) (ha:PA X (e::es) t)
  (hbase:fA o name X.env (eval o X.env)=eval o X.env:=by rfl)
  (hfew:((bz cpos (Χ (e::es) X.env)).all (fun x => !x.1)&&(backToKw cpos (kQ [] X.env)).all (fun x=>x.1.isSome)
   && decide ((e::es).length+([]:List Keyword).length+(if ([]:List Keyword).isEmpty then 0 else 1)<30))=true:=by rfl)
  (hline:(apos.endLine==cpos.line)=true:=by rfl) (hs:Χ (e::es) X.env=(false,eval e X.env)::Χ es X.env:=by rfl) (hplain:(bz cpos (Χ es X.env)).any (·.1)=false:=by rfl) :
  PE X (.Call (.Attribute o name apos) (e::es) [] cpos) (tK X.K T r to t):=by
 intro pins s σ H Q I h;refine wpAny_Call_method_late hbase hfew hline rfl (aD (ho pins s σ H _ I h) fun v s1 ⟨x,H1,I1,r1,ty,q1⟩=>?_);obtain ⟨h1,h2⟩:=Dl I1 r1 ty;refine ⟨T,id,pa,slot,hty,h1,h2,?_⟩;have hA:=ha cpos pins s1 σ H1 _ I1 q1;rw [hs] at hA ⊢
 refine Calls.callWith_builtin (by show (false||(bz cpos (Χ es X.env)).any (·.1))=false;rw [hplain]<;>rfl) (Calls.evalArgs_plain ?_);exact aD hA fun us s2 ⟨vs,H2,I2,r2,q2⟩=>hm pins s2 σ H2 x vs v us Q I2 r1 r2 q2
/- xs.append(e),list.index on a module's tuple .. are kE facts of 06m -/
end
def Dm (X:Cx) (id:String) (r:V->List V->Hp->VK->Prop):Prop :=
 ∀ (pins:List (Addr×Obj)) (s:Δ) (σ:St) (H:Hp) (x:V) (xs:List V) (v:Α) (us:List Α) (Q:VK),Inv X pins σ H s->Yx x v->Ym xs us->r x xs H Q ->
  Κ (Ο X.prog X.w) X.A (call (.builtin id) (v::us)) (EP X pins σ Q) X.xe s
theorem Ym.one:∀ {x:V} {us:List Α},Ym [x] us->∃ u,us=[u]/\Yx x u
 | _,_,.cons r .nil=>⟨_,rfl,r⟩
theorem Ym.two:∀ {x y:V} {us:List Α},Ym [x,y] us->∃ u v,us=[u,v]/\Yx x u/\Yx y v
 | _,_,_,.cons r (.cons q .nil)=>⟨_,_,rfl,r,q⟩
theorem Ym.zero:∀ {us:List Α},Ym [] us->us=[]
 | _,.nil=>rfl
theorem Ym.reverse {xs:List V} {us:List Α} (h:Ym xs us):Ym xs.reverse us.reverse:=by
 induction h with
 | nil=>exact .nil
 | cons r t ih=>rw [List.reverse_cons,List.reverse_cons];exact Ym.append ih (.cons r .nil)
section
variable {X:Cx} {pins:List (Addr×Obj)} {σ:St} {H:Hp} {s:Δ} {l b:Addr} {xs ys zs:List V}
theorem Inv.wj {its its':List Α} {n:Nat} {f:Array Α->Array Α} {t':Nat} (I:Inv X pins σ H s) (hH:H l=some (.lst xs))
  (e:s.heap.get? l=some { cls := .type "list",data := .seq its.toArray n }) (hf:f its.toArray=its'.toArray) (hv:Ym ys its') (hz:ys.length<=sizeLine) :
  Inv X pins σ (upd H l (.lst ys)) { s with heap:=s.heap.update l (d4 f),toks:=t' }:=by
 have q:=PySem.IsL.update e f;rw [hf] at q
 refine I.write (x:=l) (e:=l) (by rw [hH];exact trivial) (.inl rfl) (fun b' u hb hu=>(c8 s.heap (d4 f) (ah hb)).trans hu) ⟨_,q⟩ ?_;exact ⟨hz,its',_,hv,q⟩
theorem Inv.wk {its:List Α} {t':Nat} (I:Inv X pins σ H s) (hv:Ym ys its) (hz:ys.length<=sizeLine) :
  Inv X pins σ (upd H s.heap.objs.size (.lst ys)) { s with heap:=s.heap.push { cls := .type "list",data := .seq its.toArray },toks:=t' } :=
 I.laid (fun _ _ q=>Ε _ q) (Φ _) ⟨hz,its,0,hv,δ _ rfl⟩
theorem Inv.fresh (I:Inv X pins σ H s):H s.heap.objs.size=none:=I.hok.fresh (Φ _)
theorem Inv.kJ (I:Inv X pins σ H s) (hH:H l=some (.lst xs)):xs.length<=sizeLine/\∃ (its:List Α) (n:Nat),Ym xs its/\xs.length=its.length/\s.heap.get? l=some { cls := .type "list",data := .seq its.toArray n }:=by
 obtain ⟨z,its,n,r,e⟩:=I.hok l _ hH;exact ⟨z,its,n,r,r.length,e⟩
theorem LQ {n:Nat} (h:n<=sizeLine):Builtin.List.listTooLong n=false:=by
 unfold Builtin.List.listTooLong;exact decide_eq_false (by omega)
end
section
variable {X:Cx}
inductive wu (H:Hp) (l:Addr) (Q:List V->Prop):Prop
 | mk (xs:List V) (h:H l=some (.lst xs)) (hz:xs.length<sizeLine) (q:Q xs)
def UQ:V->List V->Hp->VK->Prop:=fun x vs H Q=>kR x fun l=>k1 vs fun y=>wu H l fun xs=>Q .non (upd H l (.lst (xs++[y])))
theorem Y9:Dm X "list.append" UQ:=by
 intro pins s σ H x vs v us Q I rx rv h;obtain ⟨l,rfl,h1⟩:=W1.mp h;obtain ⟨y,rfl,xs,hH,hz,q⟩:=vq h1
 cases rx
 obtain ⟨u,rfl,ru⟩:=rv.one;obtain ⟨z,its,n,r,hl,e⟩:=I.kJ hH;refine call_meets be ⟨_,e,rfl⟩ F.entry_list_append (F.args_list_append_2 _ _) (PySem.list_append l its.toArray n u (by rw [ξ];omega)) ⟨e,?_⟩;refine ⟨.non,_,I.wj (its':=its++[u]) hH e (by simp) (r.append (.cons ru .nil)) ?_,rfl,q⟩;rw [Ρ,aa];omega
def LR:V->List V->Hp->VK->Prop:=fun x vs H Q=>∃ l b xs zs,x = .ref l/\vs=[.ref b]/\H l=some (.lst xs)/\H b=some (.lst zs)/\xs.length+zs.length<=sizeLine/\Q .non (upd H l (.lst (xs++zs)))
theorem VB:Dm X "list.extend" LR:=by
 intro pins s σ H x vs v us Q I rx rv h;obtain ⟨l,b,xs,zs,rfl,rfl,hH,hB,hz,q⟩:=h
 cases rx
 obtain ⟨u,rfl,ru⟩:=rv.one
 cases ru
 obtain ⟨z,its,n,r,hl,e⟩:=I.kJ hH;obtain ⟨z2,its2,n2,r2,hl2,e2⟩:=I.kJ hB;have hsz:its.toArray.size+its2.toArray.size<=sizeLine:=by rw [ξ,ξ];omega
 have Ay:¬ (!its.toArray.isEmpty&&Builtin.List.listTooLong (its.toArray.size+its2.toArray.size))=true:=by
  rw [LQ hsz,Bool.and_false];exact η
 refine call_meets F.slot_list_extend ⟨_,e,rfl⟩ F.entry_list_extend (F.args_list_extend_2 _ _)
  (AutoSeq1.list_extend_list_list_0 l its.toArray n b its2.toArray n2 Ay (by rw [ξ];omega) (by omega)) ⟨e,e2,?_⟩
 refine ⟨.non,_,I.wj (its':=its++its2) hH e (by simp) (r.append r2) ?_,rfl,q⟩;rw [Ρ];omega
def Dn:V->List V->Hp->VK->Prop:=fun x vs H Q=>∃ l xs,x = .ref l/\vs=[]/\H l=some (.lst xs)/\Q .non (upd H l (.lst xs.reverse))
inductive Ju (H:Hp) (l b:Addr) (Q:List V->List V->Prop):Prop
 | mk (xs:List V) (h:H l=some (.lst xs)) (zs:List V) (h':H b=some (.lst zs)) (hz:xs.length+zs.length<=sizeLine) (q:Q xs zs)
def rm:R2:=fun x y H Q=>kR x fun l=>kR y fun b=>Ju H l b fun xs zs=>∀ p,H p=none->Q (.ref p) (upd H p (.lst (xs++zs)))
theorem Wt:bT X (ir .Add) rm:=by
 intro pins s σ H x y v u Q I rx ry h;obtain ⟨l,rfl,h1⟩:=W1.mp h;obtain ⟨b,rfl,xs,hH,zs,hB,hz,q⟩:=W1.mp h1
 cases rx
 cases ry
 obtain ⟨z,its,n,r,hl,e⟩:=I.kJ hH;obtain ⟨z2,its2,n2,r2,hl2,e2⟩:=I.kJ hB;refine PySem.P.add_list e e2 ?_ (by rw [ξ,ξ];omega);have ea:its.toArray++its2.toArray=(its++its2).toArray:=by simp
 rw [ea];exact ⟨.ref _,_,I.wk (t':=s.toks) (r.append r2) (by rw [Ρ];omega),rfl,q _ I.fresh⟩
end
end L2
namespace Dp
open PySem PySem.W PySem.Calls PyProof.Rows
theorem Up {P:Params} {h:Heap}:∀ (ns:List Int) (vs:List Α),WellAll P h vs (ns.map WData.int)->IntsAre vs ns:=by
 intro ns
 induction ns with
 | nil =>
  intro vs w;rw [dS] at w
  cases w
  exact .nil
 | cons n ns ih =>
  intro vs w;rw [ae] at w
  cases w with
  | cons a b =>
   cases a
   exact .cons _ _ (ih _ b)
theorem Mf {l:OpenLaw} {n:Nat} (hn:l.most=some n) {P:Params} {h:Heap} {args:List WData} {vals:List Α}
  (hpre:l.row.toRowW.claim.pre args=true) (hwl:WellAll P h vals args) :
  ∃ a vs ns,vals=[Ω a]/\args=[WData.list (ns.map WData.int)]/\h.get? a=some { cls := .type "list",data := .seq vs.toArray }/\IntsAre vs ns/\ns.length<=n:=by
 have hsh:WShape.hasAll [] args [.list .int]=true:=(pre_splitW hpre).1;have hc:l.pre.holds [] { args:=args }=true:=(pre_splitW hpre).2;obtain ⟨d,r,rfl,h1,h2⟩:=hasAllW_cons hsh;obtain rfl:=hasAllW_nil h2;obtain ⟨xs,rfl,h3⟩:=hasW_list h1;obtain ⟨ns,rfl⟩:=items_int h3;have hlen:ns.length<=n:=by
  unfold OpenLaw.pre at hc;have h4:(WTm.not (.lt (.lit (.int (n:Int))) (.len (.arg 0)))).holds [] { args:=[.list (ns.map .int)] }=true:=by
   have h4:=(holds_andW hc).1;rw [hn] at h4
   exact h4
  have h5:=condW_of h4 (w_not (w_lt w_lit (w_len_list (w_arg rfl))));rw [Ζ] at h5
  refine Nat.le_of_not_lt fun q=>?_
  have q':(n:Int)<((ns.length:Nat):Int):=by omega
  first
   | (rw [decide_eq_true q'] at h5;exact absurd h5 (by decide))
   | (simp at h5;omega)
 cases hwl with
 | cons w1 w2 =>
  cases w2
  cases w1 with
  | list ho hall=>exact ⟨_,_,ns,rfl,rfl,ho,Up ns _ hall,hlen⟩
theorem Mg (l:OpenLaw) (args:List WData):l.row.toRowW.claim.post args (.bool true) args=true :=
 postW_of (r:=l.row.toRowW) (X:=(true==true))
  (show WShape.has [] (.bool true) .bool=true by first | rfl | decide | simp [WShape.has,WShape.arms,WShape.armsAll])
  (show (WTm.eq .res (.lit (.bool true))).value [] { args:=args,res:=some (.bool true),after:=args }=some (.bool (true==true)) from w_eq_bool (w_res rfl) w_lit) rfl
theorem lW {l:OpenLaw} {n:Nat} {q:Ψ} {loose:List Str} {XP:(Str->Option Α)->Heap->Prop} {YP:θ->Heap->Prop} {d:DefRec}
  (hn:l.most=some n) (hdf:d.params.defaults=[])
  (call:∀ (w:θ) (s₀ s₁:Δ) (mg mb:Str->Option Α) (fa:Addr) (o:Obj) (pm cd doc:Α) (a:Addr) (vs:List Α) (ns:List Int),
   Ground q loose [] XP w s₀ mg mb s₁.heap->YP w s₁.heap ->
   s₁.heap.get? fa=some o->o.data = .func (docDef d.name d.params d.body d.scope pm cd doc)->s₁.heap.CodeRec cd d.name->mg d.name=some (.ref fa) ->
   s₁.heap.get? a=some { cls := .type "list",data := .seq vs.toArray }->IntsAre vs ns->ns.length<=n->s₁.gens=#[] ->
   d6 (Ο l.prog w) callerA (.call (.ref fa) ⟨[.ref a],[]⟩) (fun r s'=>r = .ok (.ret (.bool true))/\OldK s₁.heap s'.heap/\s'.os=s₁.os/\hU s'.gens) s₁) :
  WalkO q loose XP YP l.row.toRowW d [] (fun f vs=>PySem.call f vs):=by
 intro w s₀ s₁ mg mb G Y fa o pm cd doc dV kV ho hd hcd hD hmg hg args vals as hpre hlay hrd hwl hlo;obtain rfl:dV = .none:=Dflts.none hD hdf;obtain rfl:kV = .none:=Dflts.noKw hD;obtain ⟨a,vs,ns,rfl,rfl,hobj,hints,hlen⟩:=Mf hn hpre hwl;refine enter_call (fm (call w s₀ s₁ mg mb fa o pm cd doc a vs ns G Y ho (fd_plain hd) hcd hmg hobj hints hlen hg) fun r s' hq=>?_);obtain ⟨rfl,h2,h3,h4⟩:=hq;exact ⟨.inl ⟨.bool true,.bool true,[],rfl,fun _=>rfl,.bool true,Mg l _,fun _=>⟨List.Pairwise.nil,fun _ hm=>(nomatch hm)⟩⟩,h2,h3,h4⟩
section
variable {prog:Ψ} {w:θ} {A:ζ} {E:Α->Δ->Prop} {s:Δ} {K:Frag}
def ledger (h:Heap) (L d:Addr):List (Addr×Obj):=(bj h.objs.size).filterMap fun a=>if a=L\/a=d then none else (h.get? a).map fun o=>(a,o)
end
end Dp
namespace L2
open PySem PySem.Spec PyProof.Rows
theorem Ql:∀ {vs:List Α} {ns:List Int},IntsAre vs ns->Ym (ns.map V.int) vs
 | _,_,.nil => .nil
 | _,_,.cons n t h => .cons ⟨t,rfl⟩ (Ql h)
def WG (s:Stmt) (j:Nat):Stmt:=match s with
 | .ClassDef _ _ _ body _ _ _ _ _ _ _=>body.getD j (.Pass ⟨0,0,0,0⟩)
 | _ => .Pass ⟨0,0,0,0⟩
def Y3 (s:Stmt):Arguments:=match s with
 | .FunctionDef _ a _ _ _ _ _ _ _ _=>a
 | _=>{ posonlyargs:=[],args:=[],vararg:=none,kwonlyargs:=[],kw_defaults:=[],kwarg:=none,defaults:=[] }
def YO (s:Stmt):List Stmt:=match s with
 | .FunctionDef _ _ b _ _ _ _ _ _ _=>b
 | _=>[]
def Yh (s:Stmt):Scope:=match s with
 | .FunctionDef _ _ _ _ _ _ sc _ _ _=>sc
 | _=>{ kind := .function,names:=[],isGenerator:=false,isCoroutine:=false }
abbrev cG:dO:=fun _ _ _ _ _ _=>False
abbrev E0:XK:=fun _ _ _=>False
theorem Uq {X:Cx}:XX cG X E0:=fun _ _ _ _ _ _ _ h=>h.elim
structure eV (K:Λ) (x qual:Str) (st:Stmt) (f:Addr) (fd:bt):Prop where
 ex:∃ (oc:Α) (od:Option Addr) (kV doc pm:Α) (an:Option Addr) (cdv ct:Α) (osl:Array (Option Α)),
  fd=dQ x qual (Y3 st) (YO st) (Yh st) .none kV doc pm an cdv ct/\K.lookup f=some ⟨oc,od,.func fd,osl⟩/\i6 K cdv qual=true
 kp:ee K (.ref f)=true
section
variable {P:Ψ} {w:θ} {K:Λ} {mg:Str->Option Α} {base:Heap}
theorem eV.ok {x qual:Str} {st:Stmt} {f:Addr} {fd:bt} {N ps:List Str} {k:Nat} {sp:Sp} (F:eV K x qual st f fd) (S:aB N ps (Yh st)) (len:∀ vs H Q E,sp vs H Q E->vs.length=ps.length)
  (hbody:∀ (cdv:Α) (A:ζ) (outer:List Env) (s:Δ) (H:Hp) (vs:List V) (Q:VK) (E:XK),aL k (A.deeper (km qual (Yh st) s.heap.objs.size f cdv))->sp vs H Q E ->
   ∃ t,cR (Wh cG P w K mg base N qual (Yh st) f cdv A outer s H E).cB (YO st) t/\t { nx:=fun _ H'=>Q .non H',rt:=Q } (Xq N vs) H):bw P w K mg base cG (k+1) f fd ps sp:=by
 obtain ⟨oc,od,kV,doc,pm,an,cdv,ct,osl,rfl,lk,hcd⟩:=F.ex;refine vY lk hcd S len fun A outer s H vs Q E hr hsp=>?_
 obtain ⟨t,h,q⟩:=hbody cdv A outer s H vs Q E hr hsp;exact ⟨t,h.cB,q⟩
theorem eV.binds {x qual:Str} {st:Stmt} {f:Addr} {fd:bt} {ps:List Str} (F:eV K x qual st f fd)
  (h:∀ (kV doc pm:Α) (an:Option Addr) (cdv ct:Α) (us:List Α),us.length=ps.length->iq (dQ x qual (Y3 st) (YO st) (Yh st) .none kV doc pm an cdv ct) ⟨us,[]⟩=pure (ps.zip us)):Xf K fd ps []:=by
 obtain ⟨oc,od,kV,doc,pm,an,cdv,ct,osl,rfl,lk,hcd⟩:=F.ex;exact .all (h kV doc pm an cdv ct)
theorem Va {x qual:Str} {st:Stmt} {f:Addr} {oc:Α} {od an:Option Addr} {osl:Array (Option Α)} {kV doc pm cdv ct:Α} (l:K.lookup f=some ⟨oc,od,.func (dQ x qual (Y3 st) (YO st) (Yh st) .none kV doc pm an cdv ct),osl⟩)
  (c:i6 K cdv qual=true) (k:ee K (.ref f)=true):eV K x qual st f (dQ x qual (Y3 st) (YO st) (Yh st) .none kV doc pm an cdv ct):=⟨⟨oc,od,kV,doc,pm,an,cdv,ct,osl,rfl,l,c⟩,k⟩
end
section
variable {X:Cx}
theorem pv (i:Nat) {x:Str} {pos:Pos} (hN:X.N[i]?=some x:=by rfl) (hv:sy X.env.scope x:=by first | exact .inl rfl | exact .inr (.inl rfl) | exact .inr (.inr rfl)) (hd:(x==("__debug__":Str))=false:=by decide)
  (hcd:(x==("__classdict__":Str))=false:=by decide):PE X (.Name x pos) (Wy i):=Cd hN hv hd hcd
end
theorem Jv {A B:Prop} (h:B):if false=true then A else B:=by
 rw [if_neg η];exact h
theorem rz {A B:Prop} (h:A):if true=true then A else B:=by
 rw [if_pos rfl];exact h
theorem V8 {c A B:Prop} [Decidable c] (h1:c->A) (h2:¬ c->B):if c then A else B:=by
 by_cases h:c
 ·rw [if_pos h]
  exact h1 h
 ·rw [if_neg h]
  exact h2 h
def Yd (H H':Hp):Prop:=∀ b o,H b=some o->H' b=some o
theorem Yd.refl (H:Hp):Yd H H:=fun _ _ h=>h
theorem Yd.trans {H H1 H2:Hp} (a:Yd H H1) (b:Yd H1 H2):Yd H H2:=fun c o h=>b c o (a c o h)
theorem Yd.free {H H':Hp} (e:Yd H H') {l:Addr} (h:H' l=Option.none):H l=Option.none:=by
 cases q:H l with
 | none=>rfl
 | some o =>
  rw [e l o q] at h
  cases h
theorem Yd.seq {K:Λ} {H H':Hp} {a:Addr} {xs:List V} (e:Yd H H') (h:ao K H a xs):ao K H' a xs:=by
 rcases h with (h | ⟨o,h⟩) | h
 ·exact .inl (.inl (e _ _ h))
 ·exact .inl (.inr ⟨o,e _ _ h⟩)
 ·exact .inr h
section
variable {κ:Type} [DecidableEq κ]
def wz (kvs:List (κ×V)) (k:κ):Option V:=(kvs.find? fun kv=>decide (kv.1=k)).map (·.2)
def putK (kvs:List (κ×V)) (k:κ) (v:V):List (κ×V) :=
 if (kvs.any fun kv=>decide (kv.1=k))=true then kvs.map (fun kv=>if kv.1=k then (kv.1,v) else kv) else kvs++[(k,v)]
end
theorem Dq {P:Ψ} {w:θ} {k:Key} {u:Α} (r:Yx (kV k) u):(XG P w).is k u=true:=by
 cases k with
 | inl i=>obtain ⟨t,e⟩:=(show ∃ t,u=lx i t from r);subst e;exact Kd P w i t
 | inr x=>obtain ⟨t,e⟩:=(show ∃ t,u=kU x t from r);subst e;exact Ke P w x t
def rA (H:Hp) (a:Addr) (y:V) (r:Option V):Prop :=
 (∃ kvs k,Rd H a (.dK kvs)/\y=kV k/\r=wz kvs k)\/∃ kvs k b,Rd H a (.dT kvs)/\y = .ref b/\H b=some (.tup (k.map kV))/\r=wz kvs k
def Jw (H:Hp) (a:Addr) (y v:V) (H':Hp):Prop :=
 (∃ kvs k,H a=some (.dK kvs)/\y=kV k/\kvs.length<sizeLine/\H'=upd H a (.dK (putK kvs k v))) \/
 ∃ kvs k b,H a=some (.dT kvs)/\y = .ref b/\H b=some (.tup (k.map kV))/\kvs.length<sizeLine/\H'=upd H a (.dT (putK kvs k v))
section
variable {X:Cx} {pins:List (Addr×Obj)} {σ:St} {H:Hp} {s:Δ} {a:Addr} {y v:V} {u r:Α} {o:Option V} {A:ζ} {E:Α->Δ->Prop}
theorem Inv.big (I:Inv X pins σ H s):i4<s.heap.objs.size:=by
 have h:aI<s.heap.objs.size:=(I.mod.glob.keeps I.bk).lt;exact Nat.lt_trans (by decide) h
end
def Dr (td ty:TE):TE:=fun σ H Q=>td σ H fun x H1=>ty σ H1 fun y H2=>∃ a v,x = .ref a/\rA H2 a y (some v)/\Q v H2
def Ds (td ty tv:TE):TS:=fun D σ H=>tv σ H fun v H1=>td σ H1 fun x H2=>ty σ H2 fun y H3=>∃ a H4,x = .ref a/\Jw H3 a y v H4/\D.nx σ H4
theorem Mh {P:Ψ} {w:θ} {H:Hp} (h:Heap) (hb:i4<h.objs.size):YK P w H (h.push { cls := .type "dict",data := .dict #[] }) h.objs.size (.dK []) :=
 ⟨ay _,beq_eq_false_iff_ne.mpr (ah (ν hb)),[],.nil,Heap.DictOf.new h⟩
def Dt:TE:=fun _ H Q=>∀ p,H p=none->Q (.ref p) (upd H p (.dK []))
def Du:TE:=fun _ H Q=>∀ p,H p=none->Q (.ref p) (upd H p (.dT []))
section
variable {X:Cx} {pos:Pos}
theorem Mi:PE X (.Dict [] [] pos) Dt:=fun pins s σ H Q I h =>
 wpAny_Dict_empty ⟨.ref s.heap.objs.size,_,I.laid (a:=s.heap.objs.size) (o := .dK []) (t':=s.toks) (fun _ _ q=>Ε _ q) (Φ _) (Mh s.heap I.big),rfl,h _ (I.hok.fresh (Φ _))⟩
end
theorem WK (env:Env):∀ (names:List (Str×iE)) (cs:List (Str×Addr)),(∀ x,(x,ai)∈names->∃ c,env.cells.lookup x=some c) ->
  ∃ cl,(forIn names cs fun (p:Str×iE) (cs:List (Str×Addr))=>(if (p.2==ai)=true then (do let c <- cellOf env p.1;pure (fT ((p.1,c)::cs))) else pure (fT cs):Sem (ForInStep (List (Str×Addr)))))=pure cl /\
   (∀ x c,cl.lookup x=some c->env.cells.lookup x=some c\/cs.lookup x=some c)/\(∀ x,(x,ai)∈names->∃ c,cl.lookup x=some c)/\(∀ x c,cs.lookup x=some c->∃ d,cl.lookup x=some d)
 | [],cs,_=>⟨cs,by simp,fun _ _ h => .inr h,(fun _ h=>nomatch h),fun x c h=>⟨c,h⟩⟩
 | (n,k)::r,cs,h=>by
  by_cases hk:k=ai
  ·subst hk
   obtain ⟨c,hc⟩:=h n (eP ..);obtain ⟨cl,e,a,b,d⟩:=WK env r ((n,c)::cs) (fun x hx=>h x (bS _ hx));have hcell:cellOf env n=pure c:=by unfold cellOf;rw [hc]
   refine ⟨cl,?_,fun x c' hx=>?_,fun x hx=>?_,fun x c' hx=>?_⟩
   ·rw [fR]
    simp only [beq_self_eq_true,if_true,hcell,pure_bind];exact e
   ·rcases a x c' hx with q | q
    ·exact .inl q
    ·rw [bg] at q
     by_cases hxn:(x==n)=true
     ·rw [hxn] at q
      have hx':x=n:=by simpa using hxn
      subst hx';have:c=c':=by simpa using q
      subst this;exact .inl hc
     ·rw [jb.mpr hxn] at q
      exact .inr q
   ·rcases Υ.mp hx with q | q
    ·have hx':x=n:=congrArg Prod.fst q
     subst hx';exact d x c (by rw [bg];simp)
    ·exact b x q
   ·have:∃ d',((n,c)::cs).lookup x=some d':=by
     rw [bg];by_cases hxn:(x==n)=true
     ·rw [hxn];exact ⟨c,rfl⟩
     ·rw [jb.mpr hxn];exact ⟨c',hx⟩
    obtain ⟨d',hd'⟩:=this;exact d x d' hd'
  ·obtain ⟨cl,e,a,b,d⟩:=WK env r cs (fun x hx=>h x (bS _ hx))
   have hkf:(k==ai)=false:=by simpa using hk
   refine ⟨cl,?_,a,fun x hx=>?_,d⟩
   ·rw [fR]
    simp only [hkf,c5,if_false,pure_bind];exact e
   ·rcases Υ.mp hx with q | q
    ·exact absurd (congrArg Prod.snd q).symm hk
    ·exact b x q
theorem Mj (env:Env) (scope:dL) (h:∀ x,(x,ai)∈scope.names->∃ c,env.cells.lookup x=some c) :
  ∃ cl,kr scope env=pure cl/\(∀ x c,cl.lookup x=some c->env.cells.lookup x=some c)/\(∀ x,(x,ai)∈scope.names->∃ c,cl.lookup x=some c):=by
 obtain ⟨cl,e,a,b,_⟩:=WK env scope.names [] h;refine ⟨cl,?_,fun x c hx=>(a x c hx).elim id (fun z=>by simp at z),b⟩;unfold kr;simp only [bind_pure];exact e
def cU (X:Cx) (scope:dL) (N':List Str) (cl:List (Str×Addr)) (C:Addr) (s₀:Δ) (H₀:Hp) (fp:List Addr) (pn:List (Addr×Obj)):Cx :=
 { X with N:=N',s₀:=s₀,H₀:=H₀,env:=jI scope cl C X.env,outer:=X.stack,ex:=fp,fn:=fun _=>false,pn:=pn,xe:=fun _ _=>False }
inductive fQ (X:Cx) (scope:dL):List (Option Nat)->List Str->Prop
 | nil:fQ X scope [] []
 | own {x src N'}:fQ X scope src N'->fQ X scope (none::src) (x::N')
 | cap {x i src N'}:X.N[i]?=some x->scope.names.lookup x=some ai->(X.env.scope.names.lookup x=some g0\/X.env.scope.names.lookup x=some ai)->fQ X scope src N'->fQ X scope (some i::src) (x::N')
def YG (src:List (Option Nat)) (σ:St):St:=src.map fun o=>match o with | none=>none | some i=>σ.getD i none
theorem fQ.length {X:Cx} {scope:dL}:∀ {src:List (Option Nat)} {N':List Str},fQ X scope src N'->src.length=N'.length
 | _,_,.nil=>rfl
 | _,_,.own h=>congrArg (·+1) h.length
 | _,_,.cap _ _ _ h=>congrArg (·+1) h.length
theorem fQ.get {X:Cx} {scope:dL} {σ:St}:∀ {src:List (Option Nat)} {N':List Str},fQ X scope src N'->∀ (j:Nat) (x:Str) (v:V),N'[j]?=some x->(YG src σ)[j]?=some (some v) ->
  ∃ i:Nat,X.N[i]?=some x/\σ[i]?=some (some v)/\scope.names.lookup x=some ai/\(X.env.scope.names.lookup x=some g0\/X.env.scope.names.lookup x=some ai)
 | _,_,.nil,j,x,v,h,_=>by simp at h
 | _,_,.own h,0,x,v,_,e=>by simp [YG] at e
 | _,_,.own h,j+1,x,v,e1,e2=>h.get j x v (by simpa using e1) (by simpa [YG] using e2)
 | _,_,.cap (x:=y) (i:=i) hN hf hk h,0,x,v,e1,e2=>by
  have ex:y=x:=by simpa using e1
  subst ex;refine ⟨i,hN,?_,hf,hk⟩;simp only [YG,ae,eA,gi] at e2;rw [cK] at e2
  cases q:σ[i]? with
  | none=>rw [q] at e2;simp at e2
  | some o=>rw [q] at e2;simp at e2;rw [e2]
 | _,_,.cap hN hf hk h,j+1,x,v,e1,e2=>h.get j x v (by simpa using e1) (by simpa [YG] using e2)
theorem Vb (env:Env) (x:Str):∀ {names:List (Str×iE)},
  (names.map fun (n,k)=>if (k==ai&&env.scope.kind == .function&&env.kindOf n==some .cell) then (n,g0) else (n,k)).lookup x =
   (names.lookup x).map fun k=>if (k==ai&&env.scope.kind == .function&&env.kindOf x==some .cell) then g0 else k
 | []=>rfl
 | (n,k)::r=>by
  have ih:=@Vb env x r;rw [ae];dsimp only;by_cases hx:(x==n)=true
  ·have e:x=n:=by simpa using hx
   subst e;by_cases hc:(k==ai&&env.scope.kind == .function&&env.kindOf x==some .cell)=true
   ·rw [if_pos hc,bg,bg,hx]
    simp only [kC];rw [if_pos hc]
   ·rw [if_neg hc,bg,bg,hx]
    simp only [kC];rw [if_neg hc]
  ·have hx':=jb.mpr hx
   by_cases hc:(k==ai&&env.scope.kind == .function&&env.kindOf n==some .cell)=true
   ·rw [if_pos hc];simp only [bg,hx'];exact ih
   ·rw [if_neg hc];simp only [bg,hx'];exact ih
theorem WX {names:List (Str×iE)} {x:Str} (h:names.lookup x=some ai):(x,ai)∈names:=c9 h
section
variable {X:Cx}
theorem Ml {scope:dL} {N':List Str} {src:List (Option Nat)} {cl:List (Str×Addr)} {pins:List (Addr×Obj)} {σ:St} {H:Hp} {s s':Δ} {h':Heap} {tk:Nat} {fp:List Addr} {m:Str->Option Α}
  (hk:scope.kind = .function) (hcell:∀ y∈scope.names,y.2 ≠ .cell) (hcap:fQ X scope src N')
  (a:∀ x c,cl.lookup x=some c->X.env.cells.lookup x=some c) (b:∀ x,(x,ai)∈scope.names->∃ c,cl.lookup x=some c)
  (I:Inv X pins σ H s) (hf:∀ b∈fp,Wb X pins H b) (hfl:∀ b∈fp,b<s.heap.objs.size) (es':s'={ s with heap:=h',toks:=tk })
  (keep:∀ b o,s.heap.get? b=some o->h'.get? b=some o) (hn:h'.Ns s.heap.objs.size m) :
  Inv (cU X scope N' cl s.heap.objs.size s H fp (X.pn++pins)) [] (YG src σ) H s':=by
 subst es';have kindOf:∀ x,(jI scope cl s.heap.objs.size X.env).kindOf x=(scope.names.lookup x).map fun k=>if (k==ai&&X.env.scope.kind == .function&&X.env.kindOf x==some .cell) then g0 else k:=fun x=>Vb X.env x
 have freeOf:∀ x,((jI scope cl s.heap.objs.size X.env).kindOf x=some .cell\/(jI scope cl s.heap.objs.size X.env).kindOf x=some .free)->scope.names.lookup x=some .free:=fun x h=>by
  rw [kindOf] at h
  cases q:scope.names.lookup x with
  | none=>rw [q] at h;simp at h
  | some k =>
   rw [q] at h
   by_cases hkf:k=ai
   ·rw [hkf]
   ·have Jx:(k==ai)=false:=by simpa using hkf
    simp only [kC,Jx,Bool.false_and,c5,if_false] at h;rcases h with h | h
    ·exact absurd (Θ h) (hcell _ (c9 q))
    ·exact absurd (Θ h) hkf
 refine ⟨⟨I.ok.mod,hk,I.ok.glob,I.ok.blt,Φ _,fun x y c h1 h2=>I.ok.inj x y c (a x c h1) (a y c h2),fun x hx=>b x (WX (freeOf x hx)),(fun x c z _=>nomatch z),I.ok.hd,I.ok.frames,.inl rfl,fun b' hb=>?_,I.bs,az I.ok.dG I.sz,fun b' o e hb=>?_,fun b' hb z=>?_,I.stack,I.dN⟩,
  rfl,I.bare,Un.kept keep,⟨m,hn,fun j x v h1 h2 h3=>?_⟩,fun x c h=>?_,I.hok.fresh (Φ _),fun x c h=>I.aV x c (a x c h),fun p hp=>?_,I.hok.kept keep,?_⟩
 ·obtain ⟨f0,f1,f2,f3,f4,f5⟩:=hf b' hb
  exact ⟨ν (hfl b' hb),fun x c h=>f4 x c (a x c h)⟩
 ·obtain ⟨f0,f1,f2,f3,f4,f5⟩:=hf b' hb
  rcases f3 with z | z
  ·exact I.ok.iG b' o e z
  ·exact absurd (τ (Ν e) (az I.ok.dG z)) (aS _)
 ·obtain ⟨f0,f1,f2,f3,f4,f5⟩:=hf b' hb
  rcases Υ.mp (I.fZ b' z) with e | e
  ·exact f1 e
  ·exact f2 e
 ·obtain ⟨i,e1,e2,e3,e4⟩:=hcap.get j x v h1 h2
  obtain ⟨m0,hn0,hl⟩:=I.loc;obtain ⟨u,r,l⟩:=hl i x v e1 e2 (by rcases e4 with e4 | e4;exact .inr (.inl e4);exact .inr (.inr e4));refine ⟨u,r,?_⟩;rcases l with ⟨l,_⟩ | ⟨k,c,e,z⟩
  ·have l':X.env.scope.names.lookup x=some iE.local:=l
   rcases e4 with e4 | e4<;>(rw [e4] at l';cases l')
  ·refine .inr ⟨?_,?_⟩
   ·show (jI scope cl s.heap.objs.size X.env).kindOf x=some .cell\/(jI scope cl s.heap.objs.size X.env).kindOf x=some .free
    rw [kindOf,e3];simp only [kC]
    split
    ·exact .inl rfl
    ·exact .inr rfl
   ·obtain ⟨c',hc'⟩:=b x (WX e3)
    have:=a x c' hc';rw [e] at this
    cases this
    obtain ⟨o,ho,hd⟩:=z;exact ⟨c,hc',o,keep _ _ ho,hd⟩
 ·obtain ⟨v,o,ho,hd⟩:=I.cell x c (a x c h)
  exact ⟨v,o,keep _ _ ho,hd⟩
 ·have hp':p∈X.pn++pins:=by simpa [cU] using hp
  obtain ⟨e,n,ne,nf,d⟩:=I.pin p hp';refine ⟨keep _ _ e,n,ν (Ν e),fun z=>?_,d⟩;rcases Υ.mp (I.fZ p.1 z) with q | q
  ·exact ne q
  ·exact nf q
 ·show (YG src σ).length=N'.length
  rw [<- hcap.length];simp [YG]
end
section
variable {prog:Ψ} {w:θ} {A:ζ} {R:jp->Δ->Prop} {s:Δ}
theorem Mp {elt tg iter:Expr} {ifs:List Expr} {scope:dL} {pos:Pos} {it acc:Α} {env:Env} (J:Nat->Δ->Prop)
  (turn:∀ n s,J n s->Κ (Ο prog w) A (gu it) (fun r s₁=>match r with
    | none=>R (.ok .next) s₁
    | some v=>Κ (Ο prog w) A (ik tg it v) (fun _ z₁=>Κ (Ο prog w) A (assign tg env v) (fun _ s₂ =>
      Κ (Ο prog w) A (forIn ifs true fun c r=>if r=true then do let ok <- isTrue c env (eval c env);pure (fT ok) else pure (fT r))
       (fun ok s₃=>if ok=true then Κ (Ο prog w) A (eval elt env) (fun x s₄=>Κ (Ο prog w) A (call (.builtin "list.append") [acc,x]) (fun _ s₅=>∃ m,m<n/\J m s₅) (fun _ _=>False) s₄) (notedBy (Ο prog w) A env fun e s'=>R (.error e) s') s₃
        else ∃ m,m<n/\J m s₃) (fun _ _=>False) s₂) (fun _ _=>False) z₁) (fun _ _=>False) s₁) (fun _ _=>False) s)
  (n:Nat) (h:J n s):d6 (Ο prog w) A (.compLoop (.ListComp elt [⟨tg,iter,ifs,0⟩] scope pos) 0 it acc env) R s:=by
 refine codeAny_loop rfl J (fun n s hJ=>?_) n h
 show Κ _ A (Sem.onRaise (compTurn (.ListComp elt [⟨tg,iter,ifs,0⟩] scope pos) 0 it acc env) (fun x=>do noteFrame x env;theTreesLotGoes x)) _ _ s
 refine wpAny_noted ?_;rw [compTurn_list];have no:∀ {E:Α->Δ->Prop},∀ (e:Α) (s':Δ),False->E e s':=fun _ _ f=>f.elim
 refine Β (fz (Β (ω (turn n s hJ) (fun r s₁ h₁=>?_) no)))
 cases r with
 | none=>exact Μ h₁
 | some v =>
  refine Β (ω h₁ (fun _ z₁ hz=>?_) no);refine Β (ω hz (fun _ s₂ h₂=>Β (ω h₂ (fun ok s₃ h₃=>?_) no)) no)
  cases ok with
  | false=>exact Μ ⟨rfl,h₃⟩
  | true =>
   exact Β (Β (ω h₃ (fun x s₄ h₄=>Β (ω h₄ (fun _ s₅ h₅=>Μ (Μ ⟨rfl,h₅⟩)) no)) fun _ _ z=>z))
end
def tL (X:Cx) (ifs:List Expr) (t:TT):Prop :=
 ∀ (pins:List (Addr×Obj)) (s:Δ) (σ:St) (H:Hp) (Q:Bool->Hp->Prop),Inv X pins σ H s->t σ H Q ->
  Κ (Ο X.prog X.w) X.A (forIn ifs true fun c r=>if r=true then do let ok <- isTrue c X.env (eval c X.env);pure (fT ok) else pure (fT r)) (TP X pins σ Q) X.xe s
def Xy:TT:=fun _ H Q=>Q true H
theorem Xj {X:Cx}:tL X [] Xy:=fun _ _ _ H _ I h=>wpAny_tests_nil ⟨H,I,h⟩
theorem Mq {X:Cx} {c:Expr} {t:TT} (h:PT X c t):tL X [c] t:=fun pins s σ H Q I q=>wpAny_tests_one (h pins s σ H Q I q)
def LC (src:List (Option Nat)) (J:It) (g:TG) (tt:TT) (te:TE) (σ:St) (H1:Hp) (Q:VK) (D:Addr):Prop:=∃ W:Nat->Nat->List V->St->Hp->Prop,(∃ m,W 0 m [] (YG src σ) (upd H1 D (.lst []))) /\
 ∀ i m ys σ' H2,W i m ys σ' H2->H2 D=some (.lst ys)/\((J.stop i H2/\Q (.ref D) H2)\/(J.go i H2/\∃ N:List V->St->Hp->Prop,(∀ ys' σ3 H3,N ys' σ3 H3->∃ m',m'<m/\W (i+1) m' ys' σ3 H3)/\∀ x H3,J.gb i H2 x H3->g x σ' H3 fun σ2 H4=>tt σ2 H4 fun b H5 =>
  if b=true then te σ2 H5 fun y H6=>H6 D=some (.lst ys)/\ys.length<sizeLine/\N (ys++[y]) σ2 (upd H6 D (.lst (ys++[y])))
  else N ys σ2 H5))
def eX (src:List (Option Nat)) (wi:TI) (g:TG) (tt:TT) (te:TE):TE:=fun σ H Q=>wi σ H fun J H1=>∀ D,H1 D=none->LC src J g tt te σ H1 Q D
section
variable {X:Cx}
theorem Mr {elt tg iter:Expr} {ifs:List Expr} {scope:dL} {pos:Pos} {src:List (Option Nat)} {N':List Str} {g:TG} {tt:TT} {te:TE} {cl:List (Str×Addr)} {pins:List (Addr×Obj)} {σ:St} {Q:VK} {itv:Α} {s2:Δ} {Po:Α->Addr->jp->Δ->Prop} {Z:Addr->Δ->Hp->List Addr->List (Addr×Obj)->Α->Δ->Prop}
  (hcap:fQ X scope src N') (hc:X.calm=true) (hg:∀ C s₀ H₀ fp pn,PG (cU X scope N' cl C s₀ H₀ fp pn) tg g) (ht:∀ C s₀ H₀ fp pn,tL (cU X scope N' cl C s₀ H₀ fp pn) ifs tt)
  (he:∀ C s₀ H₀ fp pn,PE ((cU X scope N' cl C s₀ H₀ fp pn).wish (Z C s₀ H₀ fp pn)) elt te) (hk:scope.kind = .function) (hcell:∀ y∈scope.names,y.2 ≠ .cell) (a:∀ x c,cl.lookup x=some c->X.env.cells.lookup x=some c) (b:∀ x,(x,ai)∈scope.names->∃ c,cl.lookup x=some c)
  (h2:PIE X pins σ tg (fun J H1=>∀ D,H1 D=none->LC src J g tt te σ H1 Q D) itv s2)
  (done:∀ (D C:Addr) (s6:Δ) (H5:Hp),(∀ h',ci C s6.heap h'->Inv X pins σ H5 { s6 with heap:=h' })->(∃ m,s6.heap.Ns C m)->H5 C=none->(∀ {H':Hp},H' C=none->Wb X pins H' C)->Q (.ref D) H5->Po (.ref D) C (.ok .next) s6)
  (gone:∀ (D:Addr) (s3:Δ) (H3:Hp) (fp:List Addr),Inv X pins σ H3 s3->(∀ {H':Hp} {s':Δ} {σ':St} {fu:List (Addr×Obj)},Inv (cU X scope N' cl s3.heap.objs.size s3 H3 fp (X.pn++pins)) fu σ' H' s'->∀ h',ci s3.heap.objs.size s'.heap h'->Inv X pins σ H' { s' with heap:=h' }) ->
   ∀ e s',Z s3.heap.objs.size s3 H3 fp (X.pn++pins) e s'->notedBy (Ο X.prog X.w) X.A (jI scope cl s3.heap.objs.size X.env) (fun e s'=>Po (.ref D) s3.heap.objs.size (.error e) s') e s') :
  Κ (Ο X.prog X.w) X.A (newList []) (fun acc s₃=>Κ (Ο X.prog X.w) X.A (newFunctionEnv scope X.env.globals cl [] X.env.qual none cq (some X.env)) (fun cenv s₄ =>
   d6 (Ο X.prog X.w) X.A (.compStart (.ListComp elt [⟨tg,iter,ifs,0⟩] scope pos) 0 itv acc { cenv with scope:=relabel scope X.env }) (Po acc cenv.locals) s₄) X.xe s₃) X.xe s2:=by
 obtain ⟨it,fp,tn,J,H2,e,I2,T,st2,f2,q⟩:=h2;subst e;have hD:H2 s2.heap.objs.size=none:=I2.hok.fresh (Φ _);obtain ⟨W,⟨m0,w0⟩,turn⟩:=q s2.heap.objs.size hD;have I3:=I2.wk (t':=s2.toks) (ys:=[]) (its:=[]) .nil (ay _);have Ms:∀ b∈fp,b<s2.heap.objs.size:=fun b hb=>by
  obtain ⟨o,e,_⟩:=T.obj _ _ st2 b hb;exact Ν e
 refine dk ?_;generalize Dw:({ s2 with heap:=s2.heap.push { cls := .type "list",dict:=none,data := .seq ([]:List Α).toArray } }:Δ)=s3;have oO:Inv X pins σ (upd H2 s2.heap.objs.size (.lst [])) s3:=Dw▸I3
 have Az:∀ b o,s2.heap.get? b=some o->s3.heap.get? b=some o:=fun b o e=>by rw [<- Dw];exact Ε _ e
 have st3:tn 0 s3.heap:=T.keep _ _ _ st2 fun b _ o e=>Az b o e
 have Dy:∀ b∈fp,b<s3.heap.objs.size:=fun b hb=>by
  obtain ⟨o,e,_⟩:=T.obj _ _ st3 b hb;exact Ν e
 have f3:∀ b∈fp,Wb X pins (upd H2 s2.heap.objs.size (.lst [])) b:=fun b hb=>⟨by rw [Ye (ν (Ms b hb))];exact (f2 b hb).1,(f2 b hb).2⟩
 generalize eD:s2.heap.objs.size=D at *;generalize eH3:upd H2 D (.lst [])=H3 at *;refine gV hcell (by intro y hy;simp at hy) (fun h₁ hns₁ hsb₁=>?_) hk;have m9:∀ b o,s3.heap.get? b=some o->h₁.get? b=some o:=fun b o e=>hsb₁.extBut b o (ν (Ν e)) (Ε _ e)
 have I4:=Ml (N':=N') (src:=src) (tk:=s3.toks+([]:List (Str×Α)).length) hk hcell hcap a b oO f3 Dy rfl m9 hns₁;have stat:∀ {H':Hp},(∀ b∈fp,H' b=none)->∀ b∈fp,Wb (cU X scope N' cl s3.heap.objs.size s3 H3 fp (X.pn++pins)) [] H' b:=fun hn b' hb=>by
  obtain ⟨f0,f1,fs,fe,f4,f5⟩:=f3 b' hb;refine ⟨hn b' hb,ν (Dy b' hb),fun z=>?_,.inl hb,fun x c h=>f4 x c (a x c h),fun p hp=>f5 p (by simpa [cU] using hp)⟩;rcases Υ.mp (oO.fZ b' z) with e | e
  ·exact f1 e
  ·exact fs e
 have fin:∀ {H':Hp} {s':Δ} {σ':St} {fu:List (Addr×Obj)},Inv (cU X scope N' cl s3.heap.objs.size s3 H3 fp (X.pn++pins)) fu σ' H' s'->∀ h',ci s3.heap.objs.size s'.heap h'->Inv X pins σ H' { s' with heap:=h' }:=fun {H' s' σ' fu} J' h' sb=>by
  have same:∀ b o,b≠s3.heap.objs.size->s'.heap.get? b=some o->h'.get? b=some o:=fun b o hb e=>sb.extBut b o hb e
  have u:Un (frs X.stack) fp H3 H' s3.heap s'.heap:=J'.base;refine oO.call' (s':={ s' with heap:=h' }) (ch:=fp) J'.os ⟨fun b o e n hb hx=>?_,fun b o e n hb hx=>?_,u.free,fun b o e hx=>?_,u.tups,u.bB,u.bW⟩ (fun b o e=>?_) J'.bare fun b hb=>?_
  ·exact same b o (ν (Ν e)) (u.keep b o e n hb hx)
  ·obtain ⟨sl,z⟩:=u.slot b o e n hb hx
   exact ⟨sl,same b _ (ν (Ν e)) z⟩
  ·obtain ⟨o',z⟩:=u.there b o e hx
   exact ⟨o',same b o' (ν (Ν e)) z⟩
  ·have nC:∀ c v,H' c=some v->c≠s3.heap.objs.size:=fun c v z q=>by
    have:=J'.free;rw [show (cU X scope N' cl s3.heap.objs.size s3 H3 fp (X.pn++pins)).env.locals=s3.heap.objs.size from rfl,<- q,z] at this
    cases this
   refine (J'.hok b o e).stay (fun c v hc q=>same c v ?_ q) (fun _ q=>q) fun _ _ q=>q
   rcases hc with z | z
   ·rw [z];exact nC b o e
   ·exact nC c _ z
  ·obtain ⟨f0,f1,fs,fe,f4,f5⟩:=f3 b hb
   exact ⟨fe,f1,f4,f5⟩
 have loop:d6 (Ο X.prog X.w) X.A (.compLoop (.ListComp elt [⟨tg,iter,ifs,0⟩] scope pos) 0 (.ref it) (.ref D) (jI scope cl s3.heap.objs.size X.env))
   (Po (.ref D) s3.heap.objs.size) { s3 with heap:=h₁,toks:=s3.toks+([]:List (Str×Α)).length }:=by
  refine Mp (fun n s'=>∃ i ys σ' H',Inv (cU X scope N' cl s3.heap.objs.size s3 H3 fp (X.pn++pins)) [] σ' H' s'/\tn i s'.heap/\(∀ b∈fp,H' b=none)/\W i n ys σ' H') ?_ m0 ⟨0,[],YG src σ,H3,I4,T.keep _ _ _ st3 fun b _ o e=>m9 b o e,fun b hb=>(f3 b hb).1,w0⟩;rintro n s5 ⟨i,ys,tM,H5,I5,mF,sS,w5⟩;obtain ⟨hDs,stop | go⟩:=turn i n ys tM H5 w5
  ·obtain ⟨stop,qn⟩:=stop
   refine aD (T.done (cU X scope N' cl s3.heap.objs.size s3 H3 fp (X.pn++pins)) rfl rfl rfl hc i [] s5 tM H5 _ I5 (stat sS) mF stop) fun r s6 ⟨hr,I6⟩=>?_
   subst hr;obtain ⟨m,hn,_⟩:=id I6.loc;exact done D _ s6 H5 (fun h' sb=>fin I6 h' sb) ⟨m,hn⟩ I6.free (fun z=>oO.fB (Φ _) z) qn
  ·obtain ⟨go,N,hN,step⟩:=go
   refine aD (T.item (cU X scope N' cl s3.heap.objs.size s3 H3 fp (X.pn++pins)) rfl rfl rfl hc i [] s5 tM H5 _ I5 (stat sS) mF go) fun r s6 ⟨u,hr,h6⟩=>?_
   subst hr;refine aD h6 fun _ s7 ⟨x,H7,I7,r7,y7,wA,Mt⟩=>?_
   have Mu:=I7.pinned (stat Mt) (T.obj _ _ wA);have again:∀ {s8:Δ} {jK:St} {H8:Hp} {ys':List V},Inv (cU X scope N' cl s3.heap.objs.size s3 H3 fp (X.pn++pins)) ([]++Vy fp s7.heap) jK H8 s8->(∃ m',m'<n/\W (i+1) m' ys' jK H8) ->
     ∃ m,m<n/\∃ i ys σ' H',Inv (cU X scope N' cl s3.heap.objs.size s3 H3 fp (X.pn++pins)) [] σ' H' s8/\tn i s8.heap/\(∀ b∈fp,H' b=none)/\W i m ys σ' H':=fun {s8 jK H8 ys'} I8 ⟨m',hm,w8⟩=>by
    refine ⟨m',hm,i+1,ys',jK,H8,I8.fC,T.keep _ _ _ wA fun b hb o e=>(I8.pin (b,o) (bq _ (bq _ (WB hb e)))).1,fun b hb=>?_,w8⟩;obtain ⟨o,e,d⟩:=T.obj _ _ wA b hb;exact (I8.pin (b,o) (bq _ (bq _ (WB hb e)))).2.1
   refine aD (hg _ s3 H3 fp _ _ s7 tM H7 x u _ Mu r7 (step x H7 y7)) fun _ s8 ⟨jK,H8,I8,q8⟩=>?_
   refine aD (ht _ s3 H3 fp _ _ s8 jK H8 _ I8 q8) fun ok s9 ⟨H9,I9,q9⟩=>?_
   cases ok with
   | false=>exact again I9 (hN _ _ _ q9)
   | true =>
    rw [if_pos rfl];refine ω (he _ s3 H3 fp _ _ s9 jK H9 _ (I9.wish _) q9) (fun y dj ⟨yv,Dz,Jy,r10,Mv⟩=>?_) (gone D s3 H3 fp oO fin);have Mw:=Jy.cA;obtain ⟨Mx,hlen,w10⟩:=Mv;refine aD (Y9 (X:=cU X scope N' cl s3.heap.objs.size s3 H3 fp (X.pn++pins)) _ dj jK Dz (.ref D) [yv] (.ref D) [y] (fun _ H'=>H'=upd Dz D (.lst (ys++[yv]))) Mw rfl (.cons r10 .nil) ⟨ys,Mx,hlen,rfl⟩) fun _ dH ⟨_,H11,Mz,_,MF⟩=>?_
    subst MF;exact again Mz (hN _ _ _ w10)
 exact codeAny_compStart_list loop (T.self _ 0 _ _ _ (T.keep _ _ _ st3 fun b _ o e=>m9 b o e) loop)
theorem XC {elt tg iter:Expr} {ifs:List Expr} {scope:dL} {pos:Pos} {src:List (Option Nat)} {N':List Str} {wi:TI} {g:TG} {tt:TT} {te:TE} (hcap:fQ X scope src N') (hc:X.calm=true) (hi:PI X tg iter wi)
  (hg:∀ cl C s₀ H₀ fp pn,PG (cU X scope N' cl C s₀ H₀ fp pn) tg g) (ht:∀ cl C s₀ H₀ fp pn,tL (cU X scope N' cl C s₀ H₀ fp pn) ifs tt) (he:∀ cl C s₀ H₀ fp pn,PE (cU X scope N' cl C s₀ H₀ fp pn) elt te)
  (hfree:∀ x,(x,ai)∈scope.names->X.env.scope.names.lookup x=some g0\/X.env.scope.names.lookup x=some ai)
  (hk:scope.kind = .function) (hcell:∀ y∈scope.names,y.2 ≠ .cell) (hnames:∀ y∈scope.names,y.2 = .local->scope.names.lookup y.1=some .local)
  (hs:∀ x,foldedSetIterable iter X.env x=pure x):PE X (.ListComp elt [⟨tg,iter,ifs,0⟩] scope pos) (eX src wi g tt te):=by
 intro pins s σ H Q I h;obtain ⟨cl,hcl,a,b⟩:=Mj X.env scope fun x hx=>I.ok.has x (hfree x hx)
 rw [eval_ListComp];refine wpAny_comprehension_free (use:=none) rfl hs hcl hk hnames (aD (hi pins s σ H _ I h) fun v s1 h1=>aD h1 fun itv s2 h2=>?_);exact Mr (Po:=fun v C=>compPost (Ο X.prog X.w) X.A X.xe none (EP X pins σ Q) v C) (Z:=fun _ _ _ _ _ _ _=>False) hcap hc (hg cl) (ht cl) (he cl) hk hcell a b h2 (fun D C s6 H5 fi ⟨m,hn⟩ _ _ qn=>⟨m,hn,fun h' sb=>⟨.ref D,H5,fi h' sb,rfl,qn⟩⟩) fun _ _ _ _ _ _ _ _ z=>z.elim
end
def W4 (x:Str) (lo hi:Option Int):Str:=⟨((x.cps.toList.drop (HT.aG x.length 0 lo)).take (HT.aG x.length x.length hi - HT.aG x.length 0 lo)).toArray⟩
theorem Ur (lo hi:Option Int) (n:Nat):Builtin.Str.strSliceIndices lo hi 1 n=(bj (HT.aG n n hi - HT.aG n 0 lo)).map fun k=>HT.aG n 0 lo+k:=by
 have clip:∀ (v:Int) (d:Nat),max 0 (min (if v<0 then v+(n:Int) else v) (n:Int))=((HT.aG n d (some v):Nat):Int):=fun v d=>by
  show _=(((if v<0 then (v+(n:Int)).toNat else min v.toNat n):Nat):Int)
  by_cases hv:v<0
  ·simp only [if_pos hv];omega
  ·simp only [if_neg hv];omega
 have key:∀ (i j:Nat),sliceRange (i:Int) (j:Int) 1=(bj (j - i)).map fun k=>i+k:=fun i j=>by
  unfold sliceRange;have e:(if (1:Int)>0 then (if (i:Int)<(j:Int) then ((j:Int) - (i:Int)+1 - 1) / 1 else 0) else (if (i:Int)>(j:Int) then ((i:Int) - (j:Int) - 1 - 1) / (-1) else 0)).toNat=j - i:=by
   rw [if_pos (by decide)];by_cases h:(i:Int)<(j:Int)
   ·rw [if_pos h,Int.ediv_one];omega
   ·rw [if_neg h];omega
  dsimp only;rw [e];refine List.map_congr_left fun k _=>?_
  omega
 have lo':(match lo with | none=>(0:Int) | some v=>max 0 (min (if v<0 then v+(n:Int) else v) (n:Int)))=((HT.aG n 0 lo:Nat):Int):=by
  cases lo with
  | none=>rfl
  | some v=>exact clip v 0
 have hi':(match hi with | none=>(n:Int) | some v=>max 0 (min (if v<0 then v+(n:Int) else v) (n:Int)))=((HT.aG n n hi:Nat):Int):=by
  cases hi with
  | none=>rfl
  | some v=>exact clip v n
 rw [<- key,<- lo',<- hi'];unfold Builtin.Str.strSliceIndices
 cases lo<;>cases hi<;>simp
theorem DG (x:Str) (lo hi:Option Int):Txt.slice x lo hi=W4 x lo hi:=by
 have aci:=HT.kj x.length 0 (ay _) lo;have acj:=HT.kj x.length x.length (Φ _) hi;have core:((Builtin.Str.strSliceIndices lo hi 1 x.length).filterMap (x.cps[·]?))=(x.cps.toList.drop (HT.aG x.length 0 lo)).take (HT.aG x.length x.length hi - HT.aG x.length 0 lo):=by
  rw [Ur,List.filterMap_map];generalize HT.aG x.length 0 lo=i;generalize HT.aG x.length x.length hi - i=k;have gen:∀ (l:List Nat) (k:Nat),(bj k).filterMap (fun m=>l[m]?)=l.take k:=by
   intro l k
   induction k with
   | zero=>simp
   | succ k ih =>
    rw [eT,List.filterMap_append,ih];by_cases hk:k<l.length
    ·rw [List.take_succ_eq_append_getElem hk];simp [hk]
    ·have h1:l.take (k+1)=l:=a8 (by omega)
     have h2:l.take k=l:=a8 (by omega);rw [h1,h2];simp [hk]
  have e:((fun j=>x.cps[j]?) ∘ fun k=>i+k)=fun m=>(x.cps.toList.drop i)[m]?:=by
   funext m
   simp [iS]
  rw [e,gen]
 unfold Txt.slice W4;rw [core]
 split
 ·rename_i h
  simp only [beq_self_eq_true,Bool.true_and,beq_iff_eq] at h;rw [Ur,Ζ,List.length_range] at h
  have h0:HT.aG x.length 0 lo=0\/x.length=0:=by omega
  have e:(x.cps.toList.drop (HT.aG x.length 0 lo)).take (HT.aG x.length x.length hi - HT.aG x.length 0 lo)=x.cps.toList:=by
   have hl:x.cps.toList.length=x.length:=by simp [Str.length]
   rcases h0 with h0 | h0
   ·rw [h,h0,List.drop_zero,a8 (by omega)]
   ·have:x.cps.toList=[]:=List.eq_nil_of_length_eq_zero (by omega)
    rw [this];simp
  rw [e]
 ·rfl
theorem UR (x:Str) (lo hi:Option Int):(W4 x lo hi).length<=x.length:=by
 rw [<- DG];exact Txt.slice_le x lo hi
def Jz:V->Option Int->Option Int->Hp->VK->Prop:=fun x lo hi H Q=>∃ z,x = .str z/\z.length<=sizeLine/\Q (.str (W4 z lo hi)) H
section
variable {X:Cx}
theorem DK:oK X Jz:=by
 intro pins s σ H x v vl vu lo hi sl Q I rx hs pl pu h;obtain ⟨z,rfl,hz,q⟩:=h;obtain ⟨t,rfl⟩:=rx;refine ⟨"str",_,F.slot_str_getitem.lookup,typeIs_str _ _ _,?_⟩;have fin:∀ (l u:Option (Int×Tok)),l.map (·.1)=lo->u.map (·.1)=hi->s.heap.IsSlice sl l u none->Κ (Ο X.prog X.w) X.A (getItem (.str z t) (.ref sl)) (EP X pins σ Q) X.xe s:=fun l u el eu hsl=>by
  refine wpAny_getItem_str_slice (l:=l) (u:=u) (st:=none) hsl rfl ?_;have e:(if (((none:Option (Int×Tok)).map (·.1)).getD 1==1&&(slicePicked z l u none).length==z.length)=true then z else ⟨((slicePicked z l u none).filterMap (z.cps[·]?)).toArray⟩)=W4 z lo hi:=by
   rw [<- DG,<- el,<- eu];rfl
  refine post_val_or_str ⟨by rw [e];exact az (UR z lo hi) hz,fun t' k=>?_⟩;rw [e];exact ⟨.str (W4 z lo hi),H,I.tok k,⟨t',rfl⟩,q⟩
 obtain ⟨o,ho,hc,hd⟩:=hs
 cases pl with
 | none =>
  cases pu with
  | none=>exact fin none none rfl rfl ⟨o,ho,hc,hd⟩
  | int j tj=>exact fin none (some (j,tj)) rfl rfl ⟨o,ho,hc,hd⟩
 | int i ti =>
  cases pu with
  | none=>exact fin (some (i,ti)) none rfl rfl ⟨o,ho,hc,hd⟩
  | int j tj=>exact fin (some (i,ti)) (some (j,tj)) rfl rfl ⟨o,ho,hc,hd⟩
def Its (x:Str):It:=⟨fun i _=>i<x.length,fun i H v H'=>H'=H/\∃ c,x.cps.toList[i]?=some c/\v = .str ⟨#[c]⟩,fun i _=>x.length<=i⟩
theorem MJ {P:Ψ} {w:θ} {K:Λ} {tg:Expr} (x:Str) (t:Tok) (it:Addr):Turn P w K tg (Its x) [it] it (fun i h=>h.IsStrIter it "str_ascii_iterator" x t i\/h.IsStrIter it "str_iterator" x t i) where
 mem:=by simp
 obj:=fun i h st b hb=>by
  have e:b=it:=by simpa using hb
  subst e;rcases st with ⟨o,e,c,d⟩ | ⟨o,e,c,d⟩<;>exact ⟨o,e,fun v z=>by rw [d] at z;cases z⟩
 keep:=fun i h h' st k=>by
  rcases st with ⟨o,e,c⟩ | ⟨o,e,c⟩
  ·exact .inl ⟨o,k it (by simp) o e,c⟩
  ·exact .inr ⟨o,k it (by simp) o e,c⟩
 item:=by
  intro X hP hw hK hc i pins s σ H E I hf st hg;subst hP hw hK;have hi:i<x.cps.size:=hg;have hx:x.cps[i]?=some x.cps[i]:=by simp [hi]
  obtain ⟨f0,f1,f2,f3,f4,f5⟩:=hf it (by simp);have fin:∀ (ty:String) (h':Heap),["enumerate","zip","dict_itemiterator","dict_reverseitemiterator","odict_iterator","itertools.zip_longest","itertools.pairwise"].contains ty=false->h'.IsStrIter it ty x t (i+1)->ci it s.heap h' ->
    (h'.IsStrIter it ty x t (i+1)->(h'.IsStrIter it "str_ascii_iterator" x t (i+1)\/h'.IsStrIter it "str_iterator" x t (i+1))) ->
    ∃ u,some (kU ⟨#[x.cps[i]]⟩ s.toks)=some u/\Κ (Ο X.prog X.w) X.A (ik tg (.ref it) u) (fun _ s2=>∃ y H',Inv X pins σ H' s2/\Yx y u/\(Its x).gb i H y H' /\
     (s2.heap.IsStrIter it "str_ascii_iterator" x t (i+1)\/s2.heap.IsStrIter it "str_iterator" x t (i+1))/\∀ b∈[it],H' b=none) E { s with heap:=h',toks:=s.toks+1 }:=fun ty h' hn st' sb hor=>by
   have I1:Inv X pins σ H { s with heap:=h',toks:=s.toks+1 }:=I.turned (t':=s.toks+1) (fun b o hb e=>(sb.2 b hb).trans e) f0 f1 f3 f4 f5;obtain ⟨o,e,c,d⟩:=id st';exact ⟨_,rfl,QQ (s:={ s with heap:=h',toks:=s.toks+1 }) e c d hn ⟨.str ⟨#[x.cps[i]]⟩,H,I1,⟨_,rfl⟩,⟨rfl,x.cps[i],by simp [hi],rfl⟩,hor st',fun b hb=>(hf b hb).1⟩⟩
  rcases st with st | st
  ·exact wpAny_pyNext_ascii_item st hx fun h' st' sb=>fin _ h' (by decide) st' sb .inl
  ·exact wpAny_pyNext_wide_item st hx fun h' st' sb=>fin _ h' (by decide) st' sb .inr
 done:=by
  intro X hP hw hK hc i pins s σ H E I hf st hg;subst hP hw hK;have hi:x.cps.size<=i:=hg;have hx:x.cps[i]?=none:=by simp [hi]
  obtain ⟨f0,f1,f2,f3,f4,f5⟩:=hf it (by simp);rcases st with st | st
  ·exact wpAny_pyNext_ascii_end (I.ok.hd hc) st hx fun h' eb=>⟨rfl,I.turned (t':=s.toks) (fun b o hb e=>eb b o hb e) f0 f1 f3 f4 f5⟩
  ·exact wpAny_pyNext_wide_end (I.ok.hd hc) st hx fun h' eb=>⟨rfl,I.turned (t':=s.toks) (fun b o hb e=>eb b o hb e) f0 f1 f3 f4 f5⟩
 self:=fun A i s Q E st h=>by
  rcases st with st | st
  ·exact wpAny_pyIter_slot st.typeIs F.slot_str_ascii_iterator_iter (ck F.slot_str_ascii_iterator_iter st.typeIs F.entry_str_ascii_iterator_iter (Μ ⟨_,rfl,"str_ascii_iterator",_,st.typeIs,F.slot_str_ascii_iterator_next.lookup,h⟩) (F.args_str_ascii_iterator_iter_1 _))
  ·exact wpAny_pyIter_slot st.typeIs F.slot_str_iterator_iter (ck F.slot_str_iterator_iter st.typeIs F.entry_str_iterator_iter (Μ ⟨_,rfl,"str_iterator",_,st.typeIs,F.slot_str_iterator_next.lookup,h⟩) (F.args_str_iterator_iter_1 _))
end
section
variable {X:Cx} {tg:Expr}
def rB (tl:TE):TI:=fun σ H R=>tl σ H fun x H1=>∃ z,x = .str z/\R (Its z) H1
theorem DN {l:Expr} {tl:TE} (hl:PE X l tl):PI X tg l (rB tl):=by
 intro pins s σ H R I h;refine aD (hl pins s σ H _ I h) fun v s1 ⟨x,H1,I1,r1,q1⟩=>?_
 obtain ⟨z,e,q⟩:=q1;subst e;obtain ⟨t,rfl⟩:=r1;refine wpAny_pyIter_strU ?_;refine ⟨s1.heap.objs.size,[s1.heap.objs.size],_,_,H1,rfl,I1.kept (t':=s1.toks) fun b o e=>Ε _ e,MJ z t _,?_,fun b hb=>?_,q⟩
 ·unfold strIterType
  split
  ·exact .inl ⟨_,δ _ rfl,rfl,rfl⟩
  ·exact .inr ⟨_,δ _ rfl,rfl,rfl⟩
 ·have e:b=s1.heap.objs.size:=by simpa using hb
  subst e;exact I1.fB (Φ _) (I1.hok.fresh (Φ _))
def XZ (J:It) (P:Hp->Prop) (xs:List V):Prop:=∀ H,P H->∀ i,(∀ x,xs[i]?=some x->J.go i H/\∀ y H',J.gb i H y H'->H'=H/\y=x)/\(xs.length<=i->J.stop i H)
theorem MK (z:Str) (P:Hp->Prop):XZ (Its z) P (z.cps.toList.map fun c => .str ⟨#[c]⟩):=fun H _ i=>by
 refine ⟨fun x hx=>?_,fun hi=>?_⟩
 ·rw [Ξ] at hx
  cases e:z.cps.toList[i]? with
  | none=>rw [e] at hx;simp at hx
  | some c =>
   rw [e] at hx
   have hx':V.str ⟨#[c]⟩=x:=by simpa using hx
   subst hx';have hi:i<z.cps.toList.length:=(Ι.mp e).1;refine ⟨by show i<z.cps.size;simpa using hi,fun y H' ⟨e1,c',e2,e3⟩=>⟨e1,?_⟩⟩;rw [e] at e2
   cases e2
   exact e3
 ·show z.cps.size<=i
  simpa using hi
theorem MN {K:Λ} {a:Addr} {xs:List V}:XZ (mD K a) (fun H=>aA K H a xs) xs:=fun H hq i=>by
 refine ⟨fun x hx=>⟨⟨xs,x,hq,hx⟩,fun y H' ⟨e1,e2⟩=>⟨e1,?_⟩⟩,fun hi=>⟨xs,hq,hi⟩⟩;have:=e2 xs hq;rw [hx] at this
 exact (Θ this).symm
theorem XT {K:Λ} {a:Addr} {xs:List V}:XZ (mC K a) (fun H=>ao K H a xs) xs:=fun H hq i=>by
 refine ⟨fun x hx=>⟨⟨xs,x,hq,hx⟩,fun y H' ⟨e1,e2⟩=>⟨e1,?_⟩⟩,fun hi=>⟨xs,hq,hi⟩⟩;have:=e2 xs hq;rw [hx] at this
 exact (Θ this).symm
theorem MP {lo:Int} {n:Nat} {P:Hp->Prop}:XZ (j9 lo n) P ((bj n).map fun (i:Nat)=>V.int (lo+i)):=fun H hq i=>by
 refine ⟨fun x hx=>?_,fun hi=>by show n<=i;simpa using hi⟩;have hi:i<n:=by
  have:=(Ι.mp hx).1;simpa using this
 refine ⟨hi,fun y H' ⟨e1,e2⟩=>⟨e1,?_⟩⟩;rw [Ξ,List.getElem?_range hi] at hx
 rw [e2];simpa using hx
theorem XZ.imp {J:It} {P P':Hp->Prop} {xs:List V} (h:XZ J P xs) (hp:∀ H,P' H->P H):XZ J P' xs:=fun H q=>h H (hp H q)
theorem DP {J:It} {P:Hp->Prop} {xs:List V} (hJ:XZ J P xs) {src:List (Option Nat)} {g:TG} {tt:TT} {te:TE} {σ:St} {H1:Hp} {Q:VK} {D:Addr} (Pv:Nat->List V->St->Hp->Prop)
  (h0:Pv 0 [] (YG src σ) (upd H1 D (.lst []))) (hP:∀ i ys σ' H',Pv i ys σ' H'->P H'/\H' D=some (.lst ys))
  (step:∀ i ys σ' H' x,xs[i]?=some x->Pv i ys σ' H'->g x σ' H' fun σ2 H4=>tt σ2 H4 fun b H5=>if b=true then te σ2 H5 fun y H6=>H6 D=some (.lst ys)/\ys.length<sizeLine/\Pv (i+1) (ys++[y]) σ2 (upd H6 D (.lst (ys++[y]))) else Pv (i+1) ys σ2 H5)
  (fin:∀ ys σ' H',Pv xs.length ys σ' H'->Q (.ref D) H') :
  LC src J g tt te σ H1 Q D:=by
 refine ⟨fun i m ys σ' H'=>m=xs.length - i/\i<=xs.length/\Pv i ys σ' H',⟨xs.length,by simp,ay _,h0⟩,?_⟩;rintro i m ys σ' H2 ⟨rfl,hi,p⟩;obtain ⟨hp,hD⟩:=hP i ys σ' H2 p;refine ⟨hD,?_⟩;by_cases hlt:i<xs.length
 ·obtain ⟨go,yl⟩:=(hJ H2 hp i).1 xs[i] (by simp [hlt])
  refine .inr ⟨go,fun ys' σ3 H3=>Pv (i+1) ys' σ3 H3,fun ys' σ3 H3 p'=>⟨xs.length - (i+1),by omega,rfl,hlt,p'⟩,fun x H3 y=>?_⟩;obtain ⟨e1,e2⟩:=yl x H3 y;subst e1 e2;exact step i ys σ' _ _ (by simp [hlt]) p
 ·have e:i=xs.length:=by omega
  subst e;exact .inl ⟨(hJ H2 hp _).2 (Φ _),fin ys σ' H2 p⟩
theorem Yd.aj {H:Hp} {p:Addr} (h:H p=none) (o:HO):Yd H (upd H p o):=fun b u q=>by rw [Ye (Yk q h)];exact q
theorem Yd.bC {H H':Hp} {p:Addr} (h:H p=none) (e:Yd H H') (o:HO):Yd H (upd H' p o):=fun b u q=>by rw [Ye (Yk q h)];exact e b u q
theorem Yd.tup {K:Λ} {H H':Hp} {a:Addr} {xs:List V} (e:Yd H H') (h:aA K H a xs):aA K H' a xs:=by
 rcases h with (h | ⟨o,h⟩) | h
 ·exact .inl (.inl (e _ _ h))
 ·exact .inl (.inr ⟨o,e _ _ h⟩)
 ·exact .inr h
end
section
variable {X:Cx}
theorem DQ:∀ {bs:List Bool} {us:List Α},Ym (bs.map V.bl) us->LSm.BoolsAre us bs
 | [],_,h=>by rw [Ym.zero h];exact .nil
 | b::bs,us,h=>by
  have h':Ym (V.bl b::bs.map V.bl) us:=h
  cases h' with
  | cons r t=>cases (show _=bo b from r);exact .cons b (DQ t)
theorem Wj (hc:X.calm=true):XM X (.builtin "all") (fun xs H Q=>∃ (p:Addr) (bs:List Bool),xs=[.ref p]/\ao X.K H p (bs.map V.bl)/\Q (.bl (bs.all id)) H):=by
 intro pins s σ H xs us Q I r h;obtain ⟨p,bs,rfl,hq,q⟩:=h;obtain ⟨u,rfl,rx⟩:=WC r
 cases rx
 obtain ⟨its,r',pl,hz⟩:=I.list hq;have hb:=DQ r';have hl:=pl.isList;have hlt:p<s.heap.objs.size:=by obtain ⟨_,e,_⟩:=hl;exact Ν e
 refine call_all_walk (wpAny_pyIter_list hl ?_);refine ⟨s.heap.objs.size,[s.heap.objs.size,p],[s.heap.objs.size],its.toArray.size,_,_,fun i=>(bs[i]?).getD true,rfl,Walks.list (A:=X.A.in1) (I.ok.hd hc) _ p (ν hlt) its.toArray,
  ⟨⟨_,δ _ rfl,rfl,rfl⟩,hl.push _⟩,fun i v s' Q' E' hP hQ=>?_,fun h' tk hk=>?_⟩
 ·obtain ⟨b,e,rfl⟩:=hb.get i v (by simpa using hP)
  simp only [e,Option.getD_some] at hQ;exact e9 hQ
 ·have e:((bj its.toArray.size).all fun i=>(bs[i]?).getD true)=bs.all id:=by
   rw [ξ,hb.length];exact LSm.range_all bs
  rw [e];exact ⟨.bl _,H,I.kept (t':=tk) (LSm.kept_iter hk),rfl,q⟩
theorem DR:∀ {ys:List Str} {us:List Α},Ym (ys.map V.str) us->StrsAre us ys
 | [],_,h=>by rw [Ym.zero h];exact .nil
 | y::ys,us,h=>by
  have h':Ym (V.str y::ys.map V.str) us:=h
  cases h' with
  | cons r t=>obtain ⟨t',rfl⟩:=r;exact .cons y t' (DR t)
def rJoin (K:Λ):V->List V->Hp->VK->Prop:=fun x vs H Q=>∃ (z:Str) (p:Addr) (ys:List Str),x = .str z/\vs=[.ref p]/\ao K H p (ys.map V.str)/\(ys.map (·.length)).sum+ys.length*z.length<=16777216/\Q (.str (Txt.join z ys)) H
theorem M4:kE X "str.join" (rJoin X.K):=by
 intro pins s σ H x vs v us Q I rx rv h;obtain ⟨z,p,ys,rfl,rfl,hq,hl,q⟩:=h;obtain ⟨t,rfl⟩:=rx;obtain ⟨u,rfl,ru⟩:=rv.one
 cases ru
 obtain ⟨its,r,pl,hz⟩:=I.list hq;exact join_list pl.isList (by simpa using DR r) hl fun t' k=>⟨.str _,H,I.tok k,⟨t',rfl⟩,q⟩
def Vl:V->Option Α
 | .ty n=>some (.type n)
 | .ref a=>some (.ref a)
 | _=>none
inductive JB (K:Λ) (t cv:Α) (Q:Bool->Prop):Prop
 | mk (b:Bool) (h3:aw K t cv=some b) (q:Q b)
inductive M5 (K:Λ) (H:Hp) (x c:V) (Q:Bool->Prop):Prop
 | mk (cv:Α) (h1:Vl c=some cv) (t:Α) (h2:cT K H x t) (q:JB K t cv Q)
def wB (K:Λ):List V->Hp->VK->Prop:=fun xs H Q=>k2 xs fun x c=>M5 K H x c fun b=>Q (.bl b) H
theorem Y1:XM X (.builtin "isinstance") (wB X.K):=by
 intro pins s σ H xs us Q I r h;obtain ⟨x,c,rfl,cv,ec,t,ty,b,e,q⟩:=Jm h;obtain ⟨u,w',rfl,ru,dR⟩:=vU r;have ew:w'=cv:=by
  cases c with
  | ty n=>cases (show w'=fN n from dR);simpa [Vl] using ec
  | ref a=>cases (show w'=Ω a from dR);simpa [Vl] using ec
  | _=>simp [Vl] at ec
 subst ew;exact K8 I ru ty e fun tk=>⟨.bl b,H,I.tok tk,rfl,q⟩
end
structure Sub (P:Ψ) (w:θ) (i:Addr) (St:Nat->Heap->Prop) (Ready:Heap->(Nat->Option Α)->Prop):Prop where
 obj:∀ k h,St k h->∃ o,h.get? i=some o/\∀ v,o.data ≠ .cell v
 keep:∀ k h h',St k h->(∀ o,h.get? i=some o->h'.get? i=some o)->St k h'
 item:∀ (A:ζ) (k:Nat) (s:Δ) (get:Nat->Option Α) (x:Α) (Q:Α->Δ->Prop) (E:Α->Δ->Prop),St k s.heap->Ready s.heap get->get k=some x ->
  (∀ h' tk,St (k+1) h'->ci i s.heap h'->Q x { s with heap:=h',toks:=tk })->Κ (Ο P w) A (ς (.ref i)) Q E s
 fin:∀ (A:ζ) (k:Nat) (s:Δ) (get:Nat->Option Α) (Q:Α->Δ->Prop) (E:Α->Δ->Prop),A.handled=none->St k s.heap->Ready s.heap get->get k=none ->
  (∀ h' e,lz i s.heap h'->(∃ o,h'.get? e=some o/\o.cls = .type "StopIteration")->E (.ref e) { s with heap:=h' })->Κ (Ο P w) A (ς (.ref i)) Q E s
section
variable {prog:Ψ} {w:θ} {A:ζ} {E:Α->Δ->Prop} {s:Δ}
theorem VY {it t:Addr} {i:Nat} {items:Array Α} {x:Α} {Q:Α->Δ->Prop} (hit:s.heap.IsTupleIter it t i) (ht:s.heap.IsTuple t items) (hx:items[i]?=some x)
  (hQ:∀ h',h'.IsTupleIter it t (i+1)->ci it s.heap h'->Q x { s with heap:=h' }):Κ (Ο prog w) A (ς (.ref it)) Q E s:=by
 obtain ⟨o,ho,hc,hd⟩:=id hit;obtain ⟨ol,hol,_,nl,hdl⟩:=ht;unfold ς;refine Β (bv (name:=χ "__next__") hit.typeIs e8 (ck e8 hit.typeIs F.entry_tuple_iterator_next ?_ (F.args_tuple_iterator_next_1 _)))
 show Κ _ _ (fE (.ref it) 0 >>= _) _ _ s
 refine Β (av ho hd (x := .ref t) rfl ?_)
 show Κ _ _ (if (Ω t==cq)=true then _ else _) _ _ s
 rw [if_neg (show ¬ ((Ω t==cq)=true) from η)]
 show Κ _ _ (fE (.ref it) 1 >>= _) _ _ s
 refine Β (av ho hd (x := .int i 0) rfl ?_)
 show Κ _ _ (seqItems? (.ref t) >>= _) _ _ s
 refine Β (b8 hol hdl ?_);simp only [et,hx];refine Β (kG ho hd (by simp) (Μ ⟨x,rfl,Μ (hQ _ ?_ (ib ..))⟩));exact ⟨_,br _ ho (Obj.isFreed_of_fields (iO hd _)),(Obj.cls_mapFields ..).trans hc,by rw [iO hd];simp [cE]⟩
theorem V9 {it t:Addr} {i:Nat} {items:Array Α} {Q:Α->Δ->Prop} (hh:A.handled=none) (hit:s.heap.IsTupleIter it t i) (ht:s.heap.IsTuple t items) (hx:items[i]?=none)
  (hE:∀ h' e,lz it s.heap h'->(∃ o,h'.get? e=some o/\o.cls = .type "StopIteration")->E (.ref e) { s with heap:=h' }):Κ (Ο prog w) A (ς (.ref it)) Q E s:=by
 obtain ⟨o,ho,hc,hd⟩:=id hit;obtain ⟨ol,hol,_,nl,hdl⟩:=ht;unfold ς;refine Β (bv (name:=χ "__next__") hit.typeIs e8 (ck e8 hit.typeIs F.entry_tuple_iterator_next ?_ (F.args_tuple_iterator_next_1 _)))
 show Κ _ _ (fE (.ref it) 0 >>= _) _ _ s
 refine Β (av ho hd (x := .ref t) rfl ?_)
 show Κ _ _ (if (Ω t==cq)=true then _ else _) _ _ s
 rw [if_neg (show ¬ ((Ω t==cq)=true) from η)]
 show Κ _ _ (fE (.ref it) 1 >>= _) _ _ s
 refine Β (av ho hd (x := .int i 0) rfl ?_)
 show Κ _ _ (seqItems? (.ref t) >>= _) _ _ s
 refine Β (b8 hol hdl ?_);simp only [et,hx];refine Β (kq (Β (kG ho hd (by simp) ?_)))
 show Κ _ _ (newExc (.type "StopIteration") [] >>= _) _ _ _
 refine Β ?_;simp only [newExc,newTuple];refine Β (dk ?_ (by size_fits));refine Β (m:=kK _ _) (wpAny_of_eq (a:=cq) (by first | rfl | (simp only [kK];rfl)) ?_);refine dk ?_ (by size_fits);simp only [raiseNew];refine Β (wpAny_handled ?_)
 first | rw [show A.in1.handled=none from hh] | rw [hh]
 refine Β (Μ (wpAny_throw ?_));exact hE _ _ (((ib ..).extBut.push _).push _) ⟨_,δ _ rfl,rfl⟩
end
theorem Xz {P:Ψ} {w:θ} (i t:Addr):Sub P w i (fun k h=>h.IsTupleIter i t k) (fun h get=>∃ items:Array Α,h.IsTuple t items/\∀ k,get k=items[k]?) where
 obj:=fun k h ⟨o,e,c,d⟩=>⟨o,e,fun v z=>by rw [d] at z;cases z⟩
 keep:=fun k h h' st q=>st.at q
 item:=fun A k s get x Q E st ⟨items,ht,hg⟩ hx hQ=>VY st ht ((hg k).symm.trans hx) fun h' st' sb=>hQ h' s.toks st' sb
 fin:=fun A k s get Q E hh st ⟨items,ht,hg⟩ hx hE=>V9 hh st ht ((hg k).symm.trans hx) hE
theorem M6 {P:Ψ} {w:θ} (i t:Addr):Sub P w i (fun k h=>h.IsListIter i t k) (fun h get=>∃ items:Array Α,h.IsList t items/\∀ k,get k=items[k]?) where
 obj:=fun k h ⟨o,e,c,d⟩=>⟨o,e,fun v z=>by rw [d] at z;cases z⟩
 keep:=fun k h h' st q=>st.at q
 item:=fun A k s get x Q E st ⟨items,ht,hg⟩ hx hQ=>wpAny_nextOf_list_item st ht ((hg k).symm.trans hx) fun h' st' sb=>hQ h' s.toks st' sb
 fin:=fun A k s get Q E hh st ⟨items,ht,hg⟩ hx hE=>wpAny_nextOf_list_end hh st ht ((hg k).symm.trans hx) hE
structure cM (z TI TO i1 i2:Addr):Prop where
 a:TI≠z
 b:TO≠z
 c:i1≠z
 d:i2≠z
 e:TI≠TO
 f:TI≠i1
 g:TI≠i2
 h:TO≠i1
 i:TO≠i2
 j:i1≠i2
section
variable {prog:Ψ} {w:θ} {A:ζ} {E:Α->Δ->Prop} {s:Δ} {z TI TO i1 i2:Addr} {S1 S2:Nat->Heap->Prop} {R1 R2:Heap->(Nat->Option Α)->Prop} {g1 g2:Nat->Option Α} {k:Nat} {a b:Α}
theorem DW {x y:Α} {Q:Option Α->Δ->Prop} (D:cM z TI TO i1 i2) (U1:Sub prog w i1 S1 R1) (U2:Sub prog w i2 S2 R2)
  (k1:∀ h h' g,R1 h g->(∀ c o,c≠z->c≠TO->c≠i1->c≠i2->h.get? c=some o->h'.get? c=some o)->R1 h' g) (k2:∀ h h' g,R2 h g->(∀ c o,c≠z->c≠TO->c≠i1->c≠i2->h.get? c=some o->h'.get? c=some o)->R2 h' g)
  (hz:gh s.heap z TI TO .none) (hTI:b9 s.heap TI (.ref i1) (.ref i2)) (hTO:b9 s.heap TO a b) (h1:S1 k s.heap) (h2:S2 k s.heap) (r1:R1 s.heap g1) (r2:R2 s.heap g2) (hx:g1 k=some x) (hy:g2 k=some y)
  (hQ:∀ h' tk,gh h' z TI TO (cE s.heap.objs.size)->b9 h' TO x y->S1 (k+1) h'->S2 (k+1) h'->b9 h' s.heap.objs.size x y->h'.objs.size=s.heap.objs.size+1 ->
   (∀ c o,c≠z->c≠TO->c≠i1->c≠i2->s.heap.get? c=some o->h'.get? c=some o)->Q (some (.ref s.heap.objs.size)) { s with heap:=h',toks:=tk }) :
  Κ (Ο prog w) A (gu (.ref z)) Q E s:=by
 have hT:s.TypeIs (.ref z) "zip":=⟨_,hz,rfl⟩;unfold gu;refine Β (js (bv (name:=χ "__next__") hT ei (ck ei hT ke ?_ (ja _))))
 show Κ _ _ (fE (.ref z) 2 >>= _) _ _ _
 refine Β (av hz rfl (x := .bool false) rfl ?_)
 show Κ _ _ (fE (.ref z) 3 >>= _) _ _ _
 refine Β (av hz rfl (x := .ref TI) rfl ?_);refine Β (b8 hTI rfl ?_)
 show Κ _ _ (ax (.ref z) >>= _) _ _ _
 refine Β ?_;unfold ax;refine Β (av hz rfl (x := .none) rfl (Μ ?_));simp only [if_true];refine Β (kq ?_);refine Β (av hz rfl (x := .ref TO) rfl ?_);refine Β (dv hz (by simp) fun h₁ hz₁ hs₁=>?_)
 replace hz₁:gh h₁ z TI TO .ellipsis:=hz₁
 refine Β ?_;simp only [List.zipIdx_cons,List.zipIdx_nil,fR,kM];refine Β (Β (kX ?_))
 show Κ _ _ (ς (.ref i1) >>= _) _ _ _
 have jZ:S1 k h₁:=U1.keep _ _ _ h1 fun o e=>hs₁.extBut _ _ D.c e
 have j4:R1 h₁ g1:=k1 _ _ _ r1 fun c o c1 _ _ _ e=>hs₁.extBut _ _ c1 e
 refine Β (U1.item _ k { s with heap:=h₁ } g1 x _ _ jZ j4 hx fun h₂ tk₂ j5 hs₂=>Μ ?_);have hTO₂:b9 h₂ TO a b:=hs₂.extBut _ _ D.h (hs₁.extBut _ _ D.b hTO);refine Β (b8 hTO₂ rfl ?_);refine Β (wpAny_updateSeq_pair hTO₂ fun h₃ hTO₃ hs₃=>?_)
 replace hTO₃:b9 h₃ TO x b:=hTO₃
 refine Β (wpAny_letGo (Μ ?_));refine Β (Β (kX ?_))
 show Κ _ _ (ς (.ref i2) >>= _) _ _ _
 have jd:∀ c o,c≠z->c≠TO->c≠i1->c≠i2->s.heap.get? c=some o->h₃.get? c=some o:=fun c o c1 c2 c3 c4 e=>hs₃.extBut _ _ c2 (hs₂.extBut _ _ c3 (hs₁.extBut _ _ c1 e))
 have ni:S2 k h₃:=U2.keep _ _ _ h2 fun o e=>hs₃.extBut _ _ D.i.symm (hs₂.extBut _ _ D.j.symm (hs₁.extBut _ _ D.d e))
 refine Β (U2.item _ k { s with heap:=h₃,toks:=tk₂ } g2 y _ _ ni (k2 _ _ _ r2 jd) hy fun h₄ tk₄ nj hs₄=>Μ ?_);have hTO₄:b9 h₄ TO x b:=hs₄.extBut _ _ D.i hTO₃;refine Β (b8 hTO₄ rfl ?_);refine Β (wpAny_updateSeq_pair hTO₄ fun h₅ hTO₅ hs₅=>?_)
 replace hTO₅:b9 h₅ TO x y:=hTO₅
 refine Β (wpAny_letGo (Μ (Μ ?_)));refine Β (b8 hTO₅ rfl ?_);refine Β (wpAny_newTuple ?_);have hsz:h₅.objs.size=s.heap.objs.size:=by rw [hs₅.1,hs₄.1,hs₃.1,hs₂.1,hs₁.1]
 have hz₅:gh h₅ z TI TO .ellipsis:=hs₅.extBut _ _ D.b.symm (hs₄.extBut _ _ D.d.symm (hs₃.extBut _ _ D.b.symm (hs₂.extBut _ _ D.c.symm hz₁)));have hk₅:∀ c o,c≠z->c≠TO->c≠i1->c≠i2->s.heap.get? c=some o->h₅.get? c=some o:=fun c o c1 c2 c3 c4 e=>hs₅.extBut _ _ c2 (hs₄.extBut _ _ c4 (jd c o c1 c2 c3 c4 e))
 have Ba:S1 (k+1) h₅:=U1.keep _ _ _ j5 fun o e=>hs₅.extBut _ _ D.h.symm (hs₄.extBut _ _ D.j (hs₃.extBut _ _ D.h.symm e))
 have Bb:S2 (k+1) h₅:=U2.keep _ _ _ nj fun o e=>hs₅.extBut _ _ D.i.symm e
 have hzlt:z<h₅.objs.size:=Ν hz₅
 show Κ _ _ (Builtin.SmallTypes.ownedTupleHandOut (.ref z) (.ref h₅.objs.size) >>= _) _ _ _
 refine Β ?_;unfold Builtin.SmallTypes.ownedTupleHandOut;have hz₆:gh (h₅.push { cls := .type "tuple",data := .seq #[x,y] }) z TI TO .ellipsis:=Ε _ hz₅;refine Β (dv hz₆ (by simp) fun h₇ hz₇ hs₇=>?_)
 replace hz₇:gh h₇ z TI TO (cE h₅.objs.size):=hz₇
 refine dv hz₇ (by simp) fun h₈ hz₈ hs₈=>?_
 replace hz₈:gh h₈ z TI TO (cE h₅.objs.size):=hz₈
 have up:∀ c o,c≠z->h₅.get? c=some o->h₈.get? c=some o:=fun c o c1 e=>hs₈.extBut _ _ c1 (hs₇.extBut _ _ c1 (Ε _ e))
 have hT₈:b9 h₈ h₅.objs.size x y:=hs₈.extBut _ _ (du hzlt) (hs₇.extBut _ _ (du hzlt) (δ _ rfl));have hz8:h₈.objs.size=h₅.objs.size+1:=by rw [hs₈.1,hs₇.1,dC]
 rw [hsz] at hz₈ hT₈ hz8
 refine Μ ⟨_,rfl,Μ ?_⟩
 show Q (some (.ref h₅.objs.size)) _
 rw [hsz];exact hQ h₈ tk₄ hz₈ (up _ _ D.b hTO₅) (U1.keep _ _ _ Ba fun o e=>up _ o D.c e) (U2.keep _ _ _ Bb fun o e=>up _ o D.d e) hT₈ hz8 fun c o c1 c2 c3 c4 e=>up c o c1 (hk₅ c o c1 c2 c3 c4 e)
theorem DX {Q:Option Α->Δ->Prop} (hh:A.handled=none) (D:cM z TI TO i1 i2) (U1:Sub prog w i1 S1 R1) (U2:Sub prog w i2 S2 R2)
  (k1:∀ h h' g,R1 h g->(∀ c o,c≠z->c≠TO->c≠i1->c≠i2->h.get? c=some o->h'.get? c=some o)->R1 h' g) (k2:∀ h h' g,R2 h g->(∀ c o,c≠z->c≠TO->c≠i1->c≠i2->h.get? c=some o->h'.get? c=some o)->R2 h' g)
  (hz:gh s.heap z TI TO .none) (hTI:b9 s.heap TI (.ref i1) (.ref i2)) (hTO:b9 s.heap TO a b) (h1:S1 k s.heap) (h2:S2 k s.heap) (r1:R1 s.heap g1) (r2:R2 s.heap g2) (hend:g1 k=none\/g2 k=none)
  (hQ:∀ h' tk,(∀ c o,c≠z->c≠TO->c≠i1->c≠i2->s.heap.get? c=some o->h'.get? c=some o)->Q none { s with heap:=h',toks:=tk }):Κ (Ο prog w) A (gu (.ref z)) Q E s:=by
 have hT:s.TypeIs (.ref z) "zip":=⟨_,hz,rfl⟩;unfold gu;refine Β (js (bv (name:=χ "__next__") hT ei (ck ei hT ke ?_ (ja _))))
 show Κ _ _ (fE (.ref z) 2 >>= _) _ _ _
 refine Β (av hz rfl (x := .bool false) rfl ?_)
 show Κ _ _ (fE (.ref z) 3 >>= _) _ _ _
 refine Β (av hz rfl (x := .ref TI) rfl ?_);refine Β (b8 hTI rfl ?_)
 show Κ _ _ (ax (.ref z) >>= _) _ _ _
 refine Β ?_;unfold ax;refine Β (av hz rfl (x := .none) rfl (Μ ?_));simp only [if_true];refine Β (kq ?_);refine Β (av hz rfl (x := .ref TO) rfl ?_);refine Β (dv hz (by simp) fun h₁ hz₁ hs₁=>?_)
 replace hz₁:gh h₁ z TI TO .ellipsis:=hz₁
 refine Β ?_;simp only [List.zipIdx_cons,List.zipIdx_nil,fR,kM];refine Β (Β (kX ?_))
 show Κ _ _ (ς (.ref i1) >>= _) _ _ _
 have jZ:S1 k h₁:=U1.keep _ _ _ h1 fun o e=>hs₁.extBut _ _ D.c e
 have j4:R1 h₁ g1:=k1 _ _ _ r1 fun c o c1 _ _ _ e=>hs₁.extBut _ _ c1 e
 cases hx:g1 k with
 | none =>
  refine Β (U1.fin _ k { s with heap:=h₁ } g1 _ _ hh jZ j4 hx fun h₂ e hs₂ he=>?_);obtain ⟨oe,hoe,hce⟩:=he;have hz₂:gh h₂ z TI TO .ellipsis:=hs₂ _ _ D.c.symm hz₁;have hez:e≠z:=fun x=>by subst x;rw [hz₂] at hoe;cases hoe;simp at hce
  refine dv hz₂ (by simp) fun h₃ _ hs₃=>?_
  refine Β (j0 (T:="StopIteration") (b:=true) ⟨oe,hs₃.extBut _ _ hez hoe,hce⟩ isSubtype_stop ?_);exact Μ (hQ h₃ s.toks fun c o c1 _ c3 _ x=>hs₃.extBut _ _ c1 (hs₂ _ _ c3 (hs₁.extBut _ _ c1 x)))
 | some x =>
  have hy:g2 k=none:=by rcases hend with h | h;rw [hx] at h;cases h;exact h
  refine Β (U1.item _ k { s with heap:=h₁ } g1 x _ _ jZ j4 hx fun h₂ tk₂ j5 hs₂=>Μ ?_);have hTO₂:b9 h₂ TO a b:=hs₂.extBut _ _ D.h (hs₁.extBut _ _ D.b hTO);refine Β (b8 hTO₂ rfl ?_);refine Β (wpAny_updateSeq_pair hTO₂ fun h₃ hTO₃ hs₃=>?_);refine Β (wpAny_letGo (Μ ?_));refine Β (Β (kX ?_))
  show Κ _ _ (ς (.ref i2) >>= _) _ _ _
  have jd:∀ c o,c≠z->c≠TO->c≠i1->c≠i2->s.heap.get? c=some o->h₃.get? c=some o:=fun c o c1 c2 c3 c4 e=>hs₃.extBut _ _ c2 (hs₂.extBut _ _ c3 (hs₁.extBut _ _ c1 e))
  have ni:S2 k h₃:=U2.keep _ _ _ h2 fun o e=>hs₃.extBut _ _ D.i.symm (hs₂.extBut _ _ D.j.symm (hs₁.extBut _ _ D.d e))
  refine Β (U2.fin _ k { s with heap:=h₃,toks:=tk₂ } g2 _ _ hh ni (k2 _ _ _ r2 jd) hy fun h₄ e hs₄ he=>?_);obtain ⟨oe,hoe,hce⟩:=he;have hz₄:gh h₄ z TI TO .ellipsis:=hs₄ _ _ D.d.symm (hs₃.extBut _ _ D.b.symm (hs₂.extBut _ _ D.c.symm hz₁));have hez:e≠z:=fun x=>by subst x;rw [hz₄] at hoe;cases hoe;simp at hce
  refine dv hz₄ (by simp) fun h₅ _ hs₅=>?_
  refine Β (j0 (T:="StopIteration") (b:=true) ⟨oe,hs₅.extBut _ _ hez hoe,hce⟩ isSubtype_stop ?_);exact Μ (hQ h₅ tk₂ fun c o c1 c2 c3 c4 x=>hs₅.extBut _ _ c1 (hs₄ _ _ c4 (jd c o c1 c2 c3 c4 x)))
end
abbrev tO (h:Heap) (o1 o2:Obj):Heap:=((h.push o1).push o2)
abbrev tQ (h:Heap) (o1 o2:Obj):Heap:=(tO h o1 o2).push { cls := .type "tuple",data := .seq #[.ref h.objs.size,.ref (h.push o1).objs.size] }
abbrev tU (h:Heap) (o1 o2:Obj):Heap:=(tQ h o1 o2).push { cls := .type "tuple",data := .seq #[.none,.none] }
abbrev kO (h:Heap) (o1 o2:Obj):Heap:=(tU h o1 o2).push { cls := .type "zip",data := .fields #[.none,.bool false,.bool false,.ref (tO h o1 o2).objs.size,.ref (tQ h o1 o2).objs.size] }
def X5 (h:Heap) (v:Α) (o:Obj):Prop:=∀ (prog:Ψ) (w:θ) (A:ζ) (E:Α->Δ->Prop) (s:Δ) (Q:Α->Δ->Prop),(∀ b ob,h.get? b=some ob->s.heap.get? b=some ob) ->
 Q (.ref s.heap.objs.size) { s with heap:=s.heap.push o }->Κ (Ο prog w) A (pyIter v) Q E s
theorem Vs {h:Heap} {t:Addr} {items:Array Α} (ht:h.IsTuple t items):X5 h (.ref t) { cls := .type "tuple_iterator",data := .fields #[.ref t,.int 0 0] }:=fun prog w A E s Q k q=>by
 obtain ⟨o,e,r⟩:=ht;exact wpAny_pyIter_tuple (items:=items) ⟨o,k _ _ e,r⟩ q
theorem VC {h:Heap} {t:Addr} {items:Array Α} (ht:h.IsList t items):X5 h (.ref t) { cls := .type "list_iterator",data := .fields #[.ref t,.int 0 0] }:=fun prog w A E s Q k q=>by
 obtain ⟨o,e,r⟩:=ht;exact wpAny_pyIter_list (items:=items) ⟨o,k _ _ e,r⟩ q
theorem M7 (v1 v2:Α) (o1 o2:Obj) :
  Meets (Builtin.«zip.__new__» ⟨[.type "zip",v1,v2],[]⟩) (fun _ R s=>X5 s.heap v1 o1/\X5 s.heap v2 o2/\R (.ok (.ret (.ref (tU s.heap o1 o2).objs.size))) { s with heap:=kO s.heap o1 o2 }) :=
 .of_wp fun prog w A R s h=>by
  obtain ⟨hp,g,d,tk,os⟩:=s;obtain ⟨h1,h2,h⟩:=h;have hsub:=sub_zip;have p1:∀ {A':ζ} {E:Α->Δ->Prop} {Q:Α->Δ->Prop},Q (.ref hp.objs.size) ⟨hp.push o1,g,d,tk,os⟩->Κ (Ο prog w) A' (pyIter v1) Q E ⟨hp,g,d,tk,os⟩:=fun q=>h1 prog w _ _ ⟨hp,g,d,tk,os⟩ _ (fun _ _ e=>e) q
  have p2:∀ {A':ζ} {E:Α->Δ->Prop} {Q:Α->Δ->Prop},Q (.ref (hp.push o1).objs.size) ⟨(hp.push o1).push o2,g,d,tk,os⟩->Κ (Ο prog w) A' (pyIter v2) Q E ⟨hp.push o1,g,d,tk,os⟩:=fun q=>h2 prog w _ _ ⟨hp.push o1,g,d,tk,os⟩ _ (fun _ _ e=>Ε _ e) q
  wp_walk using p1,p2
  exact ⟨_,rfl,h⟩
section
variable {prog:Ψ} {w:θ} {A:ζ} {E:Α->Δ->Prop} {s:Δ}
theorem Qm {v1 v2:Α} {o1 o2:Obj} {Q:Α->Δ->Prop} (p1:X5 s.heap v1 o1) (p2:X5 s.heap v2 o2) (f1:o1.isFreed=false) (f2:o2.isFreed=false)
  (h:∀ h',gh h' (s.heap.objs.size+4) (s.heap.objs.size+2) (s.heap.objs.size+3) .none->b9 h' (s.heap.objs.size+2) (.ref s.heap.objs.size) (.ref (s.heap.objs.size+1))->b9 h' (s.heap.objs.size+3) .none .none ->
   h'.get? s.heap.objs.size=some o1->h'.get? (s.heap.objs.size+1)=some o2->h'.objs.size=s.heap.objs.size+5->(∀ c o,s.heap.get? c=some o->h'.get? c=some o)->Q (.ref (s.heap.objs.size+4)) { s with heap:=h' }) :
  Κ (Ο prog w) A (call (.type "zip") [v1,v2]) Q E s:=by
 refine callType_new F.called_zip (by decide) (F.typeCall_zip_2 _ _) (F.newCall_zip_2 _ _) (fun obj=>F.args_object_init_3 obj _ _) F.entry_zip_new (M7 v1 v2 o1 o2) ⟨p1,p2,?_⟩;have z1:(s.heap.push o1).objs.size=s.heap.objs.size+1:=dC ..;have z2:(tO s.heap o1 o2).objs.size=s.heap.objs.size+2:=by rw [dC,z1]
 have z3:(tQ s.heap o1 o2).objs.size=s.heap.objs.size+3:=by rw [dC,z2]
 have z4:(tU s.heap o1 o2).objs.size=s.heap.objs.size+4:=by rw [dC,z3]
 have z5:(kO s.heap o1 o2).objs.size=s.heap.objs.size+5:=by rw [dC,z4]
 have g5:(kO s.heap o1 o2).get? (tU s.heap o1 o2).objs.size=some _:=δ _ rfl;have g4:(kO s.heap o1 o2).get? (tQ s.heap o1 o2).objs.size=some _:=Ε _ (δ _ rfl);have g3:(kO s.heap o1 o2).get? (tO s.heap o1 o2).objs.size=some _:=Ε _ (Ε _ (δ _ rfl));have g2:(kO s.heap o1 o2).get? (s.heap.push o1).objs.size=some o2:=Ε _ (Ε _ (Ε _ (δ _ f2)));have g1:(kO s.heap o1 o2).get? s.heap.objs.size=some o1:=Ε _ (Ε _ (Ε _ (Ε _ (δ _ f1))))
 show _/\_
 rw [z2,z3,z4] at g5
 rw [z1,z2] at g3
 rw [z3] at g4
 rw [z1] at g2
 rw [z4];exact ⟨⟨_,g5,rfl⟩,h _ g5 g3 g4 g1 g2 z5 fun c o x=>Ε _ (Ε _ (Ε _ (Ε _ (Ε _ x))))⟩
end
section
variable {X:Cx} {pins:List (Addr×Obj)} {σ:St} {H:Hp} {s:Δ} {h':Heap}
theorem Inv.vd {t':Nat} {ch:List Addr} (I:Inv X pins σ H s) (k:∀ b o,b∉ch->s.heap.get? b=some o->h'.get? b=some o) (hf:∀ b∈ch,Wb X pins H b):Inv X pins σ H { s with heap:=h',toks:=t' }:=by
 have f9:∀ b u,H b=some u->b∉ch:=fun b u e z=>by rw [(hf b z).1] at e;cases e
 refine I.step (g':=s.gens) (d':=s.drawn) (ch:=ch) (fun b hb=>?_) (fun b o _ _ hc e _=>k b o hc e) (fun b o _ _ hc e _=>⟨o.slots,k b o hc e⟩) (fun _ _ _ _ n=>n)
  (fun b o hc e=>⟨o,k b o hc e⟩) (fun _ _ e=>e) (fun _ _ _ e=>e) (fun b ps e=>⟨#[],by rw [e];simp⟩) (fun m hm=>?_) (fun b u e=>?_) I.bare
 ·obtain ⟨f0,f1,f2,f3,f4,f5⟩:=hf b hb
  exact ⟨f3,f1,f4,f5⟩
 ·obtain ⟨o,es,ep,ho,r⟩:=hm
  exact ⟨o,es,ep,k _ o (fun z=>(hf _ z).2.1 rfl) ho,r⟩
 ·refine (I.hok b u e).stay (fun c v hc q=>k c v ?_ q) (fun _ q=>q) fun _ _ q=>q
  rcases hc with z | z
  ·rw [z];exact f9 b u e
  ·exact f9 c _ z
theorem Inv.jA {t':Nat} {ch:List Addr} {T:Addr} {vs:List V} (I:Inv X pins σ H s) (k:∀ b o,b∉ch->s.heap.get? b=some o->h'.get? b=some o) (hf:∀ b∈ch,Wb X pins H b) (hT:s.heap.objs.size<=T)
  (new:YK X.prog X.w (upd H T (.tup vs)) h' T (.tup vs)):Inv X pins σ (upd H T (.tup vs)) { s with heap:=h',toks:=t' }:=by
 have hn:H T=none:=I.hok.fresh hT;have f9:∀ b u,H b=some u->b∉ch:=fun b u e z=>by rw [(hf b z).1] at e;cases e
 have nT:∀ b o,s.heap.get? b=some o->b≠T:=fun b o e z=>absurd (Ν e) (by rw [z];exact Nat.not_lt.mpr hT)
 have up:∀ b u,H b=some u->upd H T (.tup vs) b=some u:=fun b u e=>by rw [Ye (Yk e hn)];exact e
 refine I.step (g':=s.gens) (d':=s.drawn) (ch:=ch) (fun b hb=>?_) (fun b o _ _ hc e _=>k b o hc e) (fun b o _ _ hc e _=>⟨o.slots,k b o hc e⟩) (fun b o _ e n=>by rw [Ye (nT b o e)];exact n)
  (fun b o hc e=>⟨o,k b o hc e⟩) (fun b xs e=>up b _ e) (fun b o u e=>up b _ e) (fun b ps e=>⟨#[],by rw [up b _ e];simp⟩) (fun m hm=>?_) (fun b u e=>?_) I.bare
 ·obtain ⟨f0,f1,f2,f3,f4,f5⟩:=hf b hb
  exact ⟨f3,f1,f4,f5⟩
 ·obtain ⟨o,es,ep,ho,r⟩:=hm
  exact ⟨o,es,ep,k _ o (fun z=>(hf _ z).2.1 rfl) ho,r⟩
 ·by_cases hb:b=T
  ·subst hb;rw [Yb] at e;cases e;exact new
  ·rw [Ye hb] at e
   refine (I.hok b u e).stay (fun c v hc q=>k c v ?_ q) (fun c q=>up c _ q) fun c xs q=>up c _ q
   rcases hc with z | z
   ·rw [z];exact f9 b u e
   ·exact f9 c _ z
end
def oR (G1 G2:Hp->List V->Prop):It :=
 ⟨fun i H=>∃ xs ys x y,G1 H xs/\G2 H ys/\xs[i]?=some x/\ys[i]?=some y,fun i H v H'=>∃ T,v = .ref T/\H T=none/\∀ xs ys x y,G1 H xs->G2 H ys->xs[i]?=some x->ys[i]?=some y->H'=upd H T (.tup [x,y]),
  fun i H=>∃ xs ys,G1 H xs/\G2 H ys/\(xs.length<=i\/ys.length<=i)⟩
structure Part (K:Λ) (G:Hp->List V->Prop) (Si:Addr->Nat->Heap->Prop) (R:Heap->(Nat->Option Α)->Prop) (own:Addr):Prop where
 sub:∀ (P:Ψ) (w:θ) (i:Addr),Sub P w i (Si i) R
 ready:∀ (X:Cx),X.K=K->∀ (pins:List (Addr×Obj)) (σ:St) (H:Hp) (s:Δ) (xs:List V),Inv X pins σ H s->G H xs->∃ us:List Α,Ym xs us/\R s.heap (fun k=>us[k]?)
 inj:∀ (X:Cx),X.K=K->∀ (pins:List (Addr×Obj)) (σ:St) (H:Hp) (s:Δ) (xs ys:List V),Inv X pins σ H s->G H xs->G H ys->xs=ys
 keep:∀ h h' g,R h g->(∀ o,h.get? own=some o->h'.get? own=some o)->R h' g
theorem Qo {K:Λ} (a:Addr):Part K (fun H xs=>ao K H a xs) (fun i k h=>h.IsListIter i a k) (fun h get=>∃ items:Array Α,h.IsList a items/\∀ k,get k=items[k]?) a where
 sub:=fun P w i=>M6 i a
 ready:=fun X hK pins σ H s xs I hq=>by
  subst hK;obtain ⟨its,r,ht,_⟩:=I.list hq;exact ⟨its,r,its.toArray,ht.isList,fun k=>by simp⟩
 inj:=fun X hK pins σ H s xs ys I h1 h2=>by subst hK;exact I.iH h1 h2
 keep:=fun h h' g ⟨items,⟨o,e,r⟩,q⟩ k=>⟨items,⟨o,k o e,r⟩,q⟩
theorem M8 {P:Ψ} {w:θ} {K:Λ} {elts:List Expr} {kk:Nat} {pos:Pos} {G1 G2:Hp->List V->Prop} {S1 S2:Addr->Nat->Heap->Prop} {R1 R2:Heap->(Nat->Option Α)->Prop} {a1 a2:Addr}
  (p1:Part K G1 S1 R1 a1) (p2:Part K G2 S2 R2 a2) {z TI TO i1 i2:Addr} (D:cM z TI TO i1 i2) (n1:a1∉[z,TO,i1,i2]) (n2:a2∉[z,TO,i1,i2]) :
  Turn P w K (.Tuple elts kk pos) (oR G1 G2) [z,TI,TO,i1,i2] z (fun i h=>gh h z TI TO .none/\b9 h TI (.ref i1) (.ref i2)/\(∃ a b,b9 h TO a b)/\S1 i1 i h/\S2 i2 i h) where
 mem:=by simp
 obj:=fun i h ⟨hz,hTI,⟨a,b,hTO⟩,h1,h2⟩ c hc=>by
  simp only [Υ,ι,or_false] at hc;rcases hc with rfl | rfl | rfl | rfl | rfl
  ·exact ⟨_,hz,fun v e=>by cases e⟩
  ·exact ⟨_,hTI,fun v e=>by cases e⟩
  ·exact ⟨_,hTO,fun v e=>by cases e⟩
  ·exact (p1.sub P w _).obj _ _ h1
  ·exact (p2.sub P w _).obj _ _ h2
 keep:=fun i h h' ⟨hz,hTI,⟨a,b,hTO⟩,h1,h2⟩ q =>
  ⟨q z (by simp) _ hz,q TI (by simp) _ hTI,⟨a,b,q TO (by simp) _ hTO⟩,(p1.sub P w i1).keep _ _ _ h1 (q i1 (by simp)),(p2.sub P w i2).keep _ _ _ h2 (q i2 (by simp))⟩
 item:=by
  intro X hP hw hK hc i pins s σ H E I hf ⟨hz,hTI,⟨a,b,hTO⟩,h1,h2⟩ hg;subst hP hw;obtain ⟨xs,ys,x,y,g1,g2,hx,hy⟩:=hg;obtain ⟨kW,r1,wC⟩:=p1.ready X hK pins σ H s xs I g1;obtain ⟨eF,r2,wD⟩:=p2.ready X hK pins σ H s ys I g2;obtain ⟨u,hu,ru⟩:=r1.get hx;obtain ⟨v,hv,rv⟩:=r2.get hy;have out:∀ c,c≠z->c≠TO->c≠i1->c≠i2->c∉[z,TO,i1,i2]:=fun c c1 c2 c3 c4 hm=>by
   simp only [Υ,ι,or_false] at hm;rcases hm with e | e | e | e<;>contradiction
  have sep:∀ {c:Addr},c∉[z,TO,i1,i2]->c≠z/\c≠TO/\c≠i1/\c≠i2:=fun hm=>⟨fun e=>hm (by simp [e]),fun e=>hm (by simp [e]),fun e=>hm (by simp [e]),fun e=>hm (by simp [e])⟩
  obtain ⟨m1,m2,m3,m4⟩:=sep n1;obtain ⟨m5,m6,m7,m8⟩:=sep n2;refine DW (k:=i) D (p1.sub _ _ i1) (p2.sub _ _ i2) (fun h h' g r q=>p1.keep _ _ _ r fun o e=>q a1 o m1 m2 m3 m4 e) (fun h h' g r q=>p2.keep _ _ _ r fun o e=>q a2 o m5 m6 m7 m8 e) hz hTI hTO h1 h2 wC wD hu hv fun h' tk hz' JC h1' h2' hT' hsz keep=>?_
  refine ⟨_,rfl,?_⟩;refine wpAny_letOwnedTupleGo_zip (s:={ s with heap:=h',toks:=tk }) hz' fun h'' hz'' sb=>?_
  have DY:z<s.heap.objs.size:=Ν hz;have kp:∀ c o,c∉[z,TO,i1,i2]->s.heap.get? c=some o->h''.get? c=some o:=fun c o hm e=>by
   obtain ⟨c1,c2,c3,c4⟩:=sep hm;exact sb.extBut c o c1 (keep c o c1 c2 c3 c4 e)
  have JD:b9 h'' s.heap.objs.size u v:=sb.extBut _ _ (du DY) hT';have M9:∀ c∈[z,TO,i1,i2],Wb X pins H c:=fun c hm=>hf c (by
   simp only [Υ,ι,or_false] at hm ⊢;rcases hm with e | e | e | e<;>simp [e])
  have I':=I.jA (t':=tk) (h':=h'') (T:=s.heap.objs.size) (vs:=[x,y]) kp M9 (Φ _) (show YK X.prog X.w _ h'' _ (.tup [x,y]) from ⟨by show 2<=sizeLine;decide,[u,v],.cons ru (.cons rv .nil),_,JD,rfl,_,rfl⟩);have fresh:H s.heap.objs.size=none:=I.hok.fresh (Φ _);refine ⟨.ref s.heap.objs.size,_,I',rfl,⟨_,rfl,fresh,fun xs' ys' x' y' oU Nb hx' hy'=>?_⟩,⟨hz'',sb.extBut _ _ D.a (keep _ _ D.a D.e D.f D.g hTI),⟨_,_,sb.extBut _ _ D.b JC⟩,(p1.sub X.prog X.w i1).keep _ _ _ h1' fun o e=>sb.extBut _ _ D.c e,(p2.sub X.prog X.w i2).keep _ _ _ h2' fun o e=>sb.extBut _ _ D.d e⟩,fun c hm=>?_⟩
  ·rw [p1.inj X hK pins σ H s _ _ I oU g1,hx] at hx'
   rw [p2.inj X hK pins σ H s _ _ I Nb g2,hy] at hy'
   cases hx'
   cases hy'
   rfl
  ·have h0:=(hf c hm).1
   have oV:c<s.heap.objs.size:=by
    simp only [Υ,ι,or_false] at hm;rcases hm with rfl | rfl | rfl | rfl | rfl
    ·exact DY
    ·exact Ν hTI
    ·exact Ν hTO
    ·obtain ⟨o,e,_⟩:=(p1.sub X.prog X.w _).obj _ _ h1;exact Ν e
    ·obtain ⟨o,e,_⟩:=(p2.sub X.prog X.w _).obj _ _ h2;exact Ν e
   rw [Ye (ν oV)];exact h0
 done:=by
  intro X hP hw hK hc i pins s σ H E I hf ⟨hz,hTI,⟨a,b,hTO⟩,h1,h2⟩ hg;subst hP hw;obtain ⟨xs,ys,g1,g2,hend⟩:=hg;obtain ⟨kW,r1,wC⟩:=p1.ready X hK pins σ H s xs I g1;obtain ⟨eF,r2,wD⟩:=p2.ready X hK pins σ H s ys I g2;have sep:∀ {c:Addr},c∉[z,TO,i1,i2]->c≠z/\c≠TO/\c≠i1/\c≠i2:=fun hm=>⟨fun e=>hm (by simp [e]),fun e=>hm (by simp [e]),fun e=>hm (by simp [e]),fun e=>hm (by simp [e])⟩
  obtain ⟨m1,m2,m3,m4⟩:=sep n1;obtain ⟨m5,m6,m7,m8⟩:=sep n2;have l1:=r1.length;have l2:=r2.length;refine DX (k:=i) (I.ok.hd hc) D (p1.sub _ _ i1) (p2.sub _ _ i2) (fun h h' g r q=>p1.keep _ _ _ r fun o e=>q a1 o m1 m2 m3 m4 e) (fun h h' g r q=>p2.keep _ _ _ r fun o e=>q a2 o m5 m6 m7 m8 e) hz hTI hTO h1 h2 wC wD ?_ fun h' tk keep=>?_
  ·rcases hend with e | e
   ·exact .inl (by simp;omega)
   ·exact .inr (by simp;omega)
  ·refine ⟨rfl,I.vd (ch:=[z,TO,i1,i2]) (fun c o hm e=>?_) fun c hm=>hf c (by
    simp only [Υ,ι,or_false] at hm ⊢;rcases hm with e | e | e | e<;>simp [e])⟩
   obtain ⟨c1,c2,c3,c4⟩:=sep hm;exact keep c o c1 c2 c3 c4 e
 self:=fun A i s Q E ⟨hz,_⟩ q=>wpAny_pyIter_zip hz q
section
variable {X:Cx} {elts:List Expr} {kk:Nat} {tpos:Pos}
theorem Us (n:Nat):cM (n+4) (n+2) (n+3) n (n+1):=by
 constructor<;>(intro e;have e':@Eq Nat _ _:=e;omega)
def Ea (K:Λ) (ta:TA):TI:=fun σ H R=>ta σ H fun vs H1=>∃ a b xs ys,vs=[.ref a,.ref b]/\ao K H1 a xs/\ao K H1 b ys/\R (oR (fun H xs=>ao K H a xs) (fun H ys=>ao K H b ys)) H1
theorem Nf {pins:List (Addr×Obj)} {σ:St} {H:Hp} {s:Δ} {R:It->Hp->Prop} {E:Α->Δ->Prop} {G1 G2:Hp->List V->Prop} {S1 S2:Addr->Nat->Heap->Prop} {R1 R2:Heap->(Nat->Option Α)->Prop} {a b:Addr} {o1 o2:Obj}
  (I:Inv X pins σ H s) (p1:Part X.K G1 S1 R1 a) (p2:Part X.K G2 S2 R2 b) (t1:X5 s.heap (.ref a) o1) (t2:X5 s.heap (.ref b) o2) (f1:o1.isFreed=false) (f2:o2.isFreed=false) (la:a<s.heap.objs.size) (lb:b<s.heap.objs.size)
  (s1:∀ h i,h.get? i=some o1->S1 i 0 h) (s2:∀ h i,h.get? i=some o2->S2 i 0 h) (q:R (oR G1 G2) H) :
  Κ (Ο X.prog X.w) X.A (call (.type "zip") [.ref a,.ref b]) (fun v s1=>Κ (Ο X.prog X.w) X.A (pyIter v) (PIE X pins σ (.Tuple elts kk tpos) R) E s1) E s:=by
 refine Qm t1 t2 f1 f2 fun h' hz hTI hTO g1 g2 hsz keep=>?_
 refine wpAny_pyIter_zip hz ?_;have I1:Inv X pins σ H { s with heap:=h' }:=I.kept (t':=s.toks) keep;refine ⟨_,[s.heap.objs.size+4,s.heap.objs.size+2,s.heap.objs.size+3,s.heap.objs.size,s.heap.objs.size+1],_,_,H,rfl,I1,M8 (K:=X.K) p1 p2 (Us s.heap.objs.size) ?_ ?_,⟨hz,hTI,⟨_,_,hTO⟩,s1 _ _ g1,s2 _ _ g2⟩,fun c hc=>?_,q⟩
 ·intro hm
  simp only [Υ,ι,or_false] at hm;rcases hm with e | e | e | e<;>(have e':@Eq Nat _ _:=e;have wF:@LT.lt Nat _ a s.heap.objs.size:=la;have lb':@LT.lt Nat _ b s.heap.objs.size:=lb;omega)
 ·intro hm
  simp only [Υ,ι,or_false] at hm;rcases hm with e | e | e | e<;>(have e':@Eq Nat _ _:=e;have wF:@LT.lt Nat _ a s.heap.objs.size:=la;have lb':@LT.lt Nat _ b s.heap.objs.size:=lb;omega)
 ·have hle:s.heap.objs.size<=c:=by
   simp only [Υ,ι,or_false] at hc;rcases hc with e | e | e | e | e<;>(have e':@Eq Nat _ _:=e;show @LE.le Nat _ s.heap.objs.size c;omega)
  exact I.fB hle (I.hok.fresh hle)
theorem Eb {a b:Expr} {ta:TA} {p pos:Pos} (hg:Gl X "zip") (hm:X.mg "zip"=none) (ha:PA X [a,b] ta) (hs:Χ [a,b] X.env=[(false,eval a X.env),(false,eval b X.env)]) (hs2:Χ [b] X.env=[(false,eval b X.env)]) :
  PI X (.Tuple elts kk tpos) (.Call (.Name "zip" p) [a,b] [] pos) (Ea X.K ta):=by
 intro pins s σ H R I h;refine Call_ (X8 I hg hm boot_zip (cw (aD (ha pos pins s σ H _ I h) fun us s1 ⟨vs,H1,I1,r1,q1⟩=>?_) (by rw [hs,hs2]) (by rw [hs2];rfl)));obtain ⟨x,y,xs,ys,e,hx,hy,q⟩:=q1;subst e;obtain ⟨u,v,rfl,ru,rv⟩:=r1.two
 cases ru
 cases rv
 obtain ⟨i1,_,ht1,_⟩:=I1.list hx;obtain ⟨i2,_,fU,_⟩:=I1.list hy;have l1:x<s1.heap.objs.size:=by obtain ⟨_,e,_⟩:=ht1.isList;exact Ν e
 have l2:y<s1.heap.objs.size:=by obtain ⟨_,e,_⟩:=fU.isList;exact Ν e
 exact Nf I1 (Qo x) (Qo y) (VC ht1.isList) (VC fU.isList) rfl rfl l1 l2 (fun h i e=>⟨_,e,rfl,rfl⟩) (fun h i e=>⟨_,e,rfl,rfl⟩) q
theorem Ng {J:It} {P:Hp->Prop} {n:Nat} (hgo:∀ i H,P H->i<n->J.go i H) (hstop:∀ H,P H->J.stop n H) {src:List (Option Nat)} {g:TG} {tt:TT} {te:TE} {σ:St} {H1:Hp} {Q:VK} {D:Addr} (Pv:Nat->List V->St->Hp->Prop)
  (h0:Pv 0 [] (YG src σ) (upd H1 D (.lst []))) (hP:∀ i ys σ' H',Pv i ys σ' H'->P H'/\H' D=some (.lst ys))
  (step:∀ i ys σ' H',i<n->Pv i ys σ' H'->∀ x H3,J.gb i H' x H3->g x σ' H3 fun σ2 H4=>tt σ2 H4 fun b H5=>if b=true then te σ2 H5 fun y H6=>H6 D=some (.lst ys)/\ys.length<sizeLine/\Pv (i+1) (ys++[y]) σ2 (upd H6 D (.lst (ys++[y]))) else Pv (i+1) ys σ2 H5)
  (fin:∀ ys σ' H',Pv n ys σ' H'->Q (.ref D) H') :
  LC src J g tt te σ H1 Q D:=by
 refine ⟨fun i m ys σ' H'=>m=n - i/\i<=n/\Pv i ys σ' H',⟨n,by simp,ay _,h0⟩,?_⟩;rintro i m ys σ' H2 ⟨rfl,hi,p⟩;obtain ⟨hp,hD⟩:=hP i ys σ' H2 p;refine ⟨hD,?_⟩;by_cases hlt:i<n
 ·refine .inr ⟨hgo i H2 hp hlt,fun ys' σ3 H3=>Pv (i+1) ys' σ3 H3,fun ys' σ3 H3 p'=>⟨n - (i+1),by omega,rfl,hlt,p'⟩,fun x H3 y=>step i ys σ' H2 hlt p x H3 y⟩
 ·have e:i=n:=by omega
  subst e;exact .inl ⟨hstop H2 hp,fin ys σ' H2 p⟩
theorem Ut {J:It} {P:Hp->Prop} {xs:List V} (hJ:XZ J P xs) {src:List (Option Nat)} {g:TG} {te:TE} {σ:St} {H1:Hp} {Q:VK} {D:Addr} (Pv:Nat->List V->St->Hp->Prop)
  (h0:Pv 0 [] (YG src σ) (upd H1 D (.lst []))) (hP:∀ i ys σ' H',Pv i ys σ' H'->P H'/\H' D=some (.lst ys))
  (mono:∀ x σ H Q Q',(∀ σ' H',Q σ' H'->Q' σ' H')->g x σ H Q->g x σ H Q')
  (step:∀ i ys σ' H' x,xs[i]?=some x->Pv i ys σ' H'->g x σ' H' fun σ2 H4=>te σ2 H4 fun y H6=>H6 D=some (.lst ys)/\ys.length<sizeLine/\Pv (i+1) (ys++[y]) σ2 (upd H6 D (.lst (ys++[y]))))
  (fin:∀ ys σ' H',Pv xs.length ys σ' H'->Q (.ref D) H'):LC src J g Xy te σ H1 Q D :=
 DP hJ Pv h0 hP (fun i ys σ' H' x hx p=>by
  refine mono _ _ _ _ _ ?_ (step i ys σ' H' x hx p);intro σ2 H4 q;unfold Xy;dsimp only;rw [if_pos rfl];exact q) fin
theorem Wd (i:Nat):∀ x σ H Q Q',(∀ σ' H',Q σ' H'->Q' σ' H')->YF i x σ H Q->YF i x σ H Q':=fun _ _ _ _ _ h q=>h _ _ q
theorem Nh {J:It} {P:Hp->Prop} {n:Nat} (hgo:∀ i H,P H->i<n->J.go i H) (hstop:∀ H,P H->J.stop n H) {src:List (Option Nat)} {g:TG} {te:TE} {σ:St} {H1:Hp} {Q:VK} {D:Addr} (Pv:Nat->List V->St->Hp->Prop)
  (h0:Pv 0 [] (YG src σ) (upd H1 D (.lst []))) (hP:∀ i ys σ' H',Pv i ys σ' H'->P H'/\H' D=some (.lst ys))
  (mono:∀ x σ H Q Q',(∀ σ' H',Q σ' H'->Q' σ' H')->g x σ H Q->g x σ H Q')
  (step:∀ i ys σ' H',i<n->Pv i ys σ' H'->∀ x H3,J.gb i H' x H3->g x σ' H3 fun σ2 H4=>te σ2 H4 fun y H6=>H6 D=some (.lst ys)/\ys.length<sizeLine/\Pv (i+1) (ys++[y]) σ2 (upd H6 D (.lst (ys++[y]))))
  (fin:∀ ys σ' H',Pv n ys σ' H'->Q (.ref D) H'):LC src J g Xy te σ H1 Q D :=
 Ng hgo hstop Pv h0 hP (fun i ys σ' H' hi p x H3 y=>by
  refine mono _ _ _ _ _ ?_ (step i ys σ' H' hi p x H3 y);intro σ2 H4 q;unfold Xy;dsimp only;rw [if_pos rfl];exact q) fin
end
structure Gx where
 P:Ψ
 w:θ
 K:Λ
 mg:Str->Option Α
 base:Heap
def Cx.gx (X:Cx):Gx:=⟨X.prog,X.w,X.K,X.mg,X.base⟩
def Gx.Raw (g:Gx) (x qual:Str) (st:Stmt) (ps:List Str):Prop:=∃ f fd,eV g.K x qual st f fd/\Xf g.K fd ps []/\g.mg x=some (.ref f)
def Gx.Fn (g:Gx) (k:Nat) (x:Str) (ps:List Str) (sp:Sp):Prop:=∃ f fd,bw g.P g.w g.K g.mg g.base cG k f fd ps sp/\Xf g.K fd ps []/\ee g.K (.ref f)=true/\g.mg x=some (.ref f)
def Gx.dU (g:Gx) (C:Addr) (m qual:Str) (st:Stmt) (ps:List Str):Prop:=∃ f fd,eV g.K m qual st f fd/\Xf g.K fd ps []/\Meth g.K C m f
def Gx.Me (g:Gx) (k:Nat) (C:Addr) (m:Str) (ps:List Str) (sp:Sp):Prop:=∃ f fd,bw g.P g.w g.K g.mg g.base cG k f fd ps sp/\Xf g.K fd ps []/\Meth g.K C m f
def Gx.iJ (g:Gx) (x:Str) (C:Addr) (qual:Str) (st:Stmt) (ps:List Str):Prop:=∃ f fd,eV g.K "__init__" qual st f fd/\Xf g.K fd ps []/\Mk g.K C f/\g.mg x=some (.ref C)
def Gx.Ma (g:Gx) (k:Nat) (x:Str) (C:Addr) (ps:List Str) (sp:Sp):Prop:=∃ f fd,bw g.P g.w g.K g.mg g.base cG k f fd ps sp/\Xf g.K fd ps []/\Mk g.K C f/\g.mg x=some (.ref C)
abbrev Gx.cx (g:Gx) (N:List Str) (qual:Str) (st:Stmt) (f:Addr) (cdv:Α) (A:ζ) (outer:List Env) (s:Δ) (H:Hp) (E:XK):Cx:=(Wh cG g.P g.w g.K g.mg g.base N qual (Yh st) f cdv A outer s H E).cB
def Ua (g:Gx) (k:Nat) (N:List Str) (qual:Str) (st:Stmt) (sp:Sp):Prop:=∀ (f:Addr) (cdv:Α) (A:ζ) (outer:List Env) (s:Δ) (H:Hp) (vs:List V) (Q:VK) (E:XK),aL k (g.cx N qual st f cdv A outer s H E).A->sp vs H Q E ->
 ∃ t,cR (g.cx N qual st f cdv A outer s H E) (YO st) t/\t { nx:=fun _ H'=>Q .non H',rt:=Q } (Xq N vs) H
section
variable {g:Gx} {k:Nat} {x qual m:Str} {st:Stmt} {N ps:List Str} {sp:Sp} {C:Addr}
theorem Gx.Raw.fn (R:g.Raw x qual st ps) (S:aB N ps (Yh st)) (len:∀ vs H Q E,sp vs H Q E->vs.length=ps.length) (b:Ua g k N qual st sp):g.Fn (k+1) x ps sp:=by
 obtain ⟨f,fd,F,bd,hm⟩:=R;exact ⟨f,fd,F.ok S len fun cdv A outer s H vs Q E hr h=>b f cdv A outer s H vs Q E hr h,bd,F.kp,hm⟩
theorem Gx.dU.me (R:g.dU C m qual st ps) (S:aB N ps (Yh st)) (len:∀ vs H Q E,sp vs H Q E->vs.length=ps.length) (b:Ua g k N qual st sp):g.Me (k+1) C m ps sp:=by
 obtain ⟨f,fd,F,bd,hm⟩:=R;exact ⟨f,fd,F.ok S len fun cdv A outer s H vs Q E hr h=>b f cdv A outer s H vs Q E hr h,bd,hm⟩
theorem Gx.iJ.ma (R:g.iJ x C qual st ps) (S:aB N ps (Yh st)) (len:∀ vs H Q E,sp vs H Q E->vs.length=ps.length) (b:Ua g k N qual st sp):g.Ma (k+1) x C ps sp:=by
 obtain ⟨f,fd,F,bd,hm,hg⟩:=R;exact ⟨f,fd,F.ok S len fun cdv A outer s H vs Q E hr h=>b f cdv A outer s H vs Q E hr h,bd,hm,hg⟩
theorem Gx.Fn.mono {j:Nat} (F:g.Fn j x ps sp) (h:j<=k):g.Fn k x ps sp:=by
 obtain ⟨f,fd,F,r⟩:=F;exact ⟨f,fd,F.mono h,r⟩
theorem Gx.Me.mono {j:Nat} (F:g.Me j C m ps sp) (h:j<=k):g.Me k C m ps sp:=by
 obtain ⟨f,fd,F,r⟩:=F;exact ⟨f,fd,F.mono h,r⟩
theorem Gx.Raw.none (R:g.Raw x qual st ps) (no:∀ vs H Q E,¬ sp vs H Q E):g.Fn k x ps sp:=by
 obtain ⟨f,fd,F,bd,hm⟩:=R;exact ⟨f,fd,⟨fun vs H Q E h=>absurd h (no vs H Q E),fun A outer s H args us vs Q E _ _ _ _ h=>absurd h (no vs H Q E)⟩,bd,F.kp,hm⟩
theorem Gx.dU.none (R:g.dU C m qual st ps) (no:∀ vs H Q E,¬ sp vs H Q E):g.Me k C m ps sp:=by
 obtain ⟨f,fd,F,bd,hm⟩:=R;exact ⟨f,fd,⟨fun vs H Q E h=>absurd h (no vs H Q E),fun A outer s H args us vs Q E _ _ _ _ h=>absurd h (no vs H Q E)⟩,bd,hm⟩
end
section
variable {g:Gx} {X:Cx} {k j:Nat} {x m:Str} {ps:List Str} {sp:Sp} {C:Addr} {e o:Expr} {es:List Expr} {t:TA} {ta:TE} {p pos apos:Pos}
theorem Yz (F:g.Fn j x ps sp) (hr:aL k X.A) (ha:PA X (e::es) t) (hj:j<=k) (hX:X.gx=g) (hg:Gl X x) (hdb:(x==("__debug__":Str))=false)
  (he:Χ (e::es) X.env=(false,eval e X.env)::Χ es X.env) (hpl:(bz pos (Χ es X.env)).any (·.1)=false):PE X (.Call (.Name x p) (e::es) [] pos) (Um sp [] E0 t):=by
 subst hX;obtain ⟨f,fd,F,b,kp,hm⟩:=F;exact Df F (hr.mono hj) hg hm kp b .nil Uq ha hdb he hpl
theorem QT {pl:Sem Bool} (F:g.Me j C m ps sp) (c:Cls g.K C) (hr:aL k X.A) (ho:PE X o ta) (ha:PA X (e::es) t) (hj:j<=k) (hX:X.gx=g)
  (hst:Χ (e::es) X.env=(false,eval e X.env)::Χ es X.env) (hpl:(bz pos (Χ es X.env)).any (·.1)=false)
  (ht:eval (.Call (.Attribute o m apos) (e::es) [] pos) X.env=(do
   let ov <- eval o X.env
   standAt apos.atName
   let (f,first) <- holding [ov] (getMethod ov m pl)
   callWith pos f first (bz pos (Χ (e::es) X.env)) (backToKw pos (kQ [] X.env)))):PE X (.Call (.Attribute o m apos) (e::es) [] pos) (QR C m sp [] E0 ta t):=by
 subst hX;obtain ⟨f,fd,F,b,hm⟩:=F;exact Ld ho c hm F (hr.mono hj) b .nil Uq ha hst hpl ht
theorem Ec (F:g.Ma j x C ps sp) (hr:aL k X.A) (ha:PA X (e::es) t) (hj:j+1<=k) (hX:X.gx=g) (hg:Gl X x) (hdb:(x==("__debug__":Str))=false)
  (he:Χ (e::es) X.env=(false,eval e X.env)::Χ es X.env) (hpl:(bz pos (Χ es X.env)).any (·.1)=false):PE X (.Call (.Name x p) (e::es) [] pos) (QS C sp [] E0 t):=by
 subst hX;obtain ⟨f,fd,F,b,M,hm⟩:=F;exact Lf M F (hr.mono hj) hg hm b .nil Uq ha hdb he hpl
theorem YN {id:String} {r:List V->Hp->VK->Prop} (hm:g.mg x=none) (hc:XM X (.builtin id) r) (ha:PA X (e::es) t) (hv:eL x=some (.builtin id)) (hX:X.gx=g) (hg:Gl X x) (hn:x≠"__name__") (hdb:(x==("__debug__":Str))=false)
  (he:Χ (e::es) X.env=(false,eval e X.env)::Χ es X.env) (hpl:(bz pos (Χ es X.env)).any (·.1)=false):PE X (.Call (.Name x p) (e::es) [] pos) (mG r t):=by
 subst hX;exact Lg hc hg hm hv ha hn hdb he hpl
theorem Vm {T:String} {r:List V->Hp->VK->Prop} (hm:g.mg x=none) (hc:XM X (.type T) r) (ha:PA X (e::es) t) (hv:eL x=some (.type T)) (hX:X.gx=g) (hg:Gl X x) (hn:x≠"__name__") (hdb:(x==("__debug__":Str))=false)
  (he:Χ (e::es) X.env=(false,eval e X.env)::Χ es X.env) (hpl:(bz pos (Χ es X.env)).any (·.1)=false):PE X (.Call (.Name x p) (e::es) [] pos) (mG r t):=by
 subst hX;exact Lh hc hg hm hv ha hn hdb he hpl
theorem XU {T:String} (hm:g.mg x=none) (hv:eL x=some (.type T)) (hX:X.gx=g) (hg:Gl X x) (hn:x≠"__name__") (hdb:(x==("__debug__":Str))=false):PE X (.Name x pos) (tC (.ty T)):=by
 subst hX;exact Ko hg hm hv rfl hn hdb
end
theorem Ni {H:Hp} {p:Addr} {o:HO} (h:H p=some o):upd H p o=H:=by
 funext b
 unfold upd
 split
 ·rename_i e;rw [e,h]
 ·rfl
def S (l:List Nat):Str:=⟨l.toArray⟩
theorem Wu (l:List Nat):(S l).cps.toList=l:=by simp [S]
theorem XV (l:List Nat):(S l).length=l.length:=by simp [S,Str.length]
theorem QU (a b:List Nat):S a++S b=S (a++b):=by
 show Str.append (S a) (S b)=S (a++b)
 simp [Str.append,S]
theorem Nj (l:List Nat) (i:Nat):W4 (S l) (some (i:Int)) none=S (l.drop i):=by
 unfold W4;rw [Wu,XV,HT.gP,HT.fD]
 show S _=S _
 congr 1
 by_cases h:i<=l.length
 ·rw [io h,a8 (by simp)]
 ·rw [Nat.min_eq_right (by omega),List.drop_eq_nil_of_le (Φ _),List.drop_eq_nil_of_le (by omega)]
  simp
theorem Nk (l:List Nat) (j:Nat):W4 (S l) none (some (j:Int))=S (l.take j):=by
 unfold W4;rw [Wu,XV,HT.gP,HT.fD]
 show S _=S _
 congr 1
 simp only [List.drop_zero,Nat.sub_zero];by_cases h:j<=l.length
 ·rw [io h]
 ·rw [Nat.min_eq_right (by omega),a8 (by omega),a8 (by omega)]
def QV (s:List Nat):List (List Nat)->List Nat
 | []=>[]
 | [x]=>x
 | x::y::r=>x++s++QV s (y::r)
theorem Nm (s:List Nat):∀ ys:List (List Nat),Txt.join (S s) (ys.map S)=S (QV s ys):=fun ys=>by
 have e:Txt.join (S s) (ys.map S)=Str.join (S s) (ys.map S):=eq_of_beq (join_plain_closes _ _);rw [e]
 induction ys with
 | nil=>rfl
 | cons x r ih =>
  cases r with
  | nil=>rfl
  | cons y r =>
   have ih':=ih (eq_of_beq (join_plain_closes _ _))
   show S x++S s++Str.join (S s) ((y::r).map S)=_
   rw [ih',QU,QU];rfl
section
variable {K:Λ} {h:Heap} {mg:Str->Option Α} {P:Ψ} {w:θ} {base:Heap} {f C:Addr} {x qual m:Str} {st:Stmt} {ps:List Str} {oc kV dc pm cd ct:Α} {od an:Option Addr} {sl:Array (Option Α)}
theorem YZ (X:K.In h) (G:h.Ns aI mg) (ps:List Str)
  (a:lp K aI x=some (some (.ref f))) (l:K.lookup f=some ⟨oc,od,.func (dQ x x (Y3 st) (YO st) (Yh st) .none kV dc pm an cd ct),sl⟩) (c:i6 K cd x=true) (k:ee K (.ref f)=true)
  (b:∀ (kV doc pm:Α) (an:Option Addr) (cdv ct:Α) (us:List Α),us.length=ps.length->iq (dQ x x (Y3 st) (YO st) (Yh st) .none kV doc pm an cdv ct) ⟨us,[]⟩=pure (ps.zip us)) :
  ∀ P w base,(Gx.mk P w K mg base).Raw x x st ps:=fun P w base =>
 have F:=Va (st:=st) l c k
 ⟨f,_,F,F.binds b,jv X G a⟩
theorem US (X:K.In h) (G:h.Ns aI mg) (ps:List Str)
  (a:PySem.W.findIn K (.ref C) m=some (some (.ref f))) (i:PySem.W.isFn K (.ref f)=true) (l:K.lookup f=some ⟨oc,od,.func (dQ m qual (Y3 st) (YO st) (Yh st) .none kV dc pm an cd ct),sl⟩) (c:i6 K cd qual=true) (k:ee K (.ref f)=true)
  (b:∀ (kV doc pm:Α) (an:Option Addr) (cdv ct:Α) (us:List Α),us.length=ps.length->iq (dQ m qual (Y3 st) (YO st) (Yh st) .none kV doc pm an cdv ct) ⟨us,[]⟩=pure (ps.zip us)) :
  ∀ P w base,(Gx.mk P w K mg base).dU C m qual st ps:=fun P w base =>
 have F:=Va (st:=st) l c k
 ⟨f,_,F,F.binds b,⟨a,i,k⟩⟩
theorem Np (X:K.In h) (G:h.Ns aI mg) (ps:List Str) (aC:lp K aI x=some (some (.ref C))) (mk:PySem.W.makesIn K C=true) (kc:ee K (.ref C)=true)
  (a:PySem.W.findIn K (.ref C) "__init__"=some (some (.ref f))) (i:PySem.W.isFn K (.ref f)=true) (l:K.lookup f=some ⟨oc,od,.func (dQ "__init__" qual (Y3 st) (YO st) (Yh st) .none kV dc pm an cd ct),sl⟩) (c:i6 K cd qual=true) (k:ee K (.ref f)=true)
  (b:∀ (kV doc pm:Α) (an:Option Addr) (cdv ct:Α) (us:List Α),us.length=ps.length->iq (dQ "__init__" qual (Y3 st) (YO st) (Yh st) .none kV doc pm an cdv ct) ⟨us,[]⟩=pure (ps.zip us)) :
  ∀ P w base,(Gx.mk P w K mg base).iJ x C qual st ps:=fun P w base =>
 have F:=Va (st:=st) l c k
 ⟨f,_,F,F.binds b,⟨mk,a,i,kc⟩,jv X G aC⟩
end
def Ed (K:Λ) (mg:Str->Option Α) (st:Stmt) (x n:Str):Prop:=∃ f fd,eV K n n st f fd/\(∀ (s:Δ) (u:Α),BindsTo s fd ⟨[u],[]⟩ [(x,u)])/\mg n=some (.ref f)
theorem Nq {K:Λ} {h:Heap} {mg:Str->Option Α} {f:Addr} {x n:Str} {st:Stmt} {oc kV dc pm cd ct:Α} {od an:Option Addr} {sl:Array (Option Α)} (X:K.In h) (G:h.Ns aI mg)
  (a:W.nsIn K aI n=some (some (.ref f))) (l:K.lookup f=some ⟨oc,od,.func (dQ n n (Y3 st) (YO st) (Yh st) .none kV dc pm an cd ct),sl⟩) (c:i6 K cd n=true) (k:ee K (.ref f)=true)
  (b:∀ (kV doc pm:Α) (an:Option Addr) (cdv ct:Α) (s:Δ) (u:Α),BindsTo s (dQ n n (Y3 st) (YO st) (Yh st) .none kV doc pm an cdv ct) ⟨[u],[]⟩ [(x,u)]):Ed K mg st x n :=
 ⟨f,_,Va (st:=st) l c k,b kV dc pm an cd ct,W.mg_of X G a⟩
section
variable {X:Cx}
theorem Ef {a:Int} {m:Nat} (h:a.natAbs<2^m):ic a<=m:=by
 unfold ic
 split
 ·omega
 ·rename_i h0
  have h0:a.natAbs≠0:=by simpa using h0
  have:=(Nat.log2_lt h0).mpr h;omega
def QW (i j:Int):Prop:=∃ m n:Nat,i.natAbs<2^m/\j.natAbs<2^n/\m+n<=100000000
theorem QW.ok {i j:Int} (h:QW i j):IntMulOk i j:=by
 obtain ⟨m,n,h1,h2,h3⟩:=h;exact IntMulOk.of_le (Ef h1) (Ef h2) (by omega)
def Eh (i j:Int):Prop:=0<j/\j.natAbs<2^9000
theorem Nr:bT X (ir .FloorDiv) (rI Eh fun i j => .int (i / j)):=sU fun i j _ _ _ _ _ hc q=>by
 have h1:(0:Int)<j:=hc.1;have h2:=hc.2;have h3:j.natAbs≠0:=by omega
 exact floordiv_int (by omega) (by rw [Int.fdiv_eq_ediv_of_nonneg i (by omega)];exact q) (.inl (PyProof.noPylong_of_log2 ((Nat.log2_lt h3).mpr h2)))
theorem Nt {j:Int} (h:0<j) (h2:j<1073741824) {i:Int}:Eh i j:=⟨h,τ (show j.natAbs<2^30 by omega) (Nat.pow_le_pow_right (by decide) (by decide))⟩
end
theorem Ei {CX:dO} {P:Ψ} {w:θ} {K:Λ} {mg:Str->Option Α} {base:Heap} {N:List Str} {qual:Str} {scope:dL} {f:Addr} {cd:Α} {A:ζ} {outer:List Env} {s:Δ} {H:Hp} {E:XK} :
  (Wh CX P w K mg base N qual scope f cd A outer s H E).K=K:=rfl
theorem Ej {X:Cx}:X.cB.K=X.K:=rfl
section
variable {g:TG} {tb:TS} {D:Ends} {σ:St} {H:Hp}
theorem Nu {ta:TA} {n:Nat} (Pv:Nat->St->Hp->Prop) (ha:∀ R:List V->Hp->Prop,R [.int n] H->ta σ H R) (hn:n<2^62) (h0:Pv 0 σ H)
  (hs:∀ i σ H,i<n->Pv i σ H->g (.int i) σ H fun σ2 H2=>tb { D with nx:=Pv (i+1),ct:=Pv (i+1),bk:=D.nx } σ2 H2) (hd:∀ σ H,Pv n σ H->D.nx σ H):Vw (vL ta) g tb D σ H:=by
 refine ha _ ⟨n,rfl,by omega,by omega,?_⟩;refine KD (lo:=0) (n:=n) Pv h0 (fun i σ H hi p=>?_) hd;have e:(0:Int)+i=i:=by omega
 rw [e];exact hs i σ H hi p
theorem Qp {K:Λ} {tl:TE} {a:Addr} {xs:List V} (Pv:Nat->St->Hp->Prop) (ha:∀ R:V->Hp->Prop,R (.ref a) H->tl σ H R) (h0:Pv 0 σ H) (hl:∀ i σ H,i<=xs.length->Pv i σ H->ao K H a xs)
  (hs:∀ i x σ H,xs[i]?=some x->Pv i σ H->g x σ H fun σ2 H2=>tb { D with nx:=Pv (i+1),ct:=Pv (i+1),bk:=D.nx } σ2 H2) (hd:∀ σ H,Pv xs.length σ H->D.nx σ H):Vw (Wc K tl) g tb D σ H:=by
 refine ha _ ⟨a,rfl,⟨xs,hl 0 σ H (ay _) h0⟩,?_⟩;exact V5 Pv h0 hl hs hd
end
section
variable {X:Cx}
theorem QA (hc:X.calm=true:=by rfl):XM X (.builtin "sum") (fun xs H Q=>∃ (p:Addr) (ns:List Int),xs=[.ref p]/\ao X.K H p (ns.map V.int)/\Q (.int ns.sum) H):=by
 intro pins s σ H xs us Q I r h;obtain ⟨p,ns,rfl,hq,q⟩:=h;obtain ⟨u,rfl,rx⟩:=WC r
 cases rx
 obtain ⟨its,r',pl,hz⟩:=I.list hq;have hi:=Ln r';have hl:=pl.isList;obtain ⟨xs,ex⟩:=hi.allInts.items;rw [ex] at hl
 have e:preSum (numAt xs) xs.size=ns.sum:=by
  have h1:=nums_intItems (xs:=xs);rw [<- ex] at h1
  have h2:=hi.numsOf;rw [preSum_eq,a8 (by simp)];rw [<- h1];exact congrArg List.sum h2
 refine sum_intListG (I.ok.hd hc) hl fun h' tk t' hk=>?_
 rw [e];exact ⟨.int _,H,I.kept (t':=tk) hk,⟨t',rfl⟩,q⟩
end
def Ite (G:Hp->List V->Prop):It :=
 ⟨fun i H=>∃ xs x,G H xs/\xs[i]?=some x,fun i H v H'=>∃ T,v = .ref T/\H T=none/\∀ xs x,G H xs->xs[i]?=some x->H'=upd H T (.tup [.int i,x]),fun i H=>∃ xs,G H xs/\xs.length<=i⟩
theorem Nv {P:Ψ} {w:θ} {K:Λ} {elts:List Expr} {kk:Nat} {pos:Pos} {a e it:Addr} (ne:e≠it) (na:a≠e/\a≠it) :
  Turn P w K (.Tuple elts kk pos) (Ite fun H xs=>ao K H a xs) [e,it] e (fun i h=>(∃ old,IsEnum h e it i old)/\h.IsListIter it a i) where
 mem:=by simp
 obj:=fun i h ⟨⟨old,he⟩,hi⟩ c hc=>by
  simp only [Υ,ι,or_false] at hc;rcases hc with rfl | rfl
  ·exact ⟨_,he,fun v z=>by cases z⟩
  ·obtain ⟨o,q,_,d⟩:=hi
   exact ⟨o,q,fun v z=>by rw [d] at z;cases z⟩
 keep:=fun i h h' ⟨⟨old,he⟩,hi⟩ q=>⟨⟨old,q e (by simp) _ he⟩,hi.at fun o z=>q it (by simp) o z⟩
 item:=by
  intro X hP hw hK hc i pins s σ H E I hf ⟨⟨old,he⟩,hi⟩ hg;subst hP hw hK;obtain ⟨xs,x,g1,hx⟩:=hg;obtain ⟨its,rv,pl,hz⟩:=I.list g1;obtain ⟨u,hu,ru⟩:=rv.get hx;refine wpAny_pyNext_enum_item he hi pl.isList (x:=u) (by simpa using hu) ne fun h1 ho hi1 hT hsz kp=>?_
  refine ⟨_,rfl,?_⟩;refine wpAny_letOwnedTupleGo_enum (s:={ s with heap:=h1,toks:=s.toks+1 }) ho fun h2 he2 sb=>?_
  have elt:e<s.heap.objs.size:=Ν he;have kY:∀ c o,c∉[e,it]->s.heap.get? c=some o->h2.get? c=some o:=fun c o hm z=>by
   have c1:c≠e:=fun q=>hm (by simp [q])
   have c2:c≠it:=fun q=>hm (by simp [q])
   exact sb.extBut c o c1 (kp c o c1 c2 z)
  have hT2:h2.get? s.heap.objs.size=some { cls := .type "tuple",data := .seq #[.int i s.toks,u] }:=sb.extBut _ _ (du elt) hT;have I':=I.jA (t':=s.toks+1) (h':=h2) (T:=s.heap.objs.size) (vs:=[.int i,x]) kY hf (Φ _) (show YK X.prog X.w _ h2 _ (.tup [.int i,x]) from ⟨by show 2<=sizeLine;decide,[.int i s.toks,u],.cons ⟨_,rfl⟩ (.cons ru .nil),_,hT2,rfl,_,rfl⟩);have fresh:H s.heap.objs.size=none:=I.hok.fresh (Φ _);refine ⟨.ref s.heap.objs.size,_,I',rfl,⟨_,rfl,fresh,fun xs' x' oU hx'=>?_⟩,⟨⟨_,by simpa using he2⟩,hi1.at fun o z=>sb.extBut _ _ (ah ne) z⟩,fun c hm=>?_⟩
  ·rw [I.iH oU g1,hx] at hx'
   cases hx'
   rfl
  ·have h0:=(hf c hm).1
   have oV:c<s.heap.objs.size:=by
    simp only [Υ,ι,or_false] at hm;rcases hm with rfl | rfl
    ·exact elt
    ·obtain ⟨o,q,_⟩:=hi;exact Ν q
   rw [Ye (ν oV)];exact h0
 done:=by
  intro X hP hw hK hc i pins s σ H E I hf ⟨⟨old,he⟩,hi⟩ hg;subst hP hw hK;obtain ⟨xs,g1,hx⟩:=hg;obtain ⟨its,rv,pl,hz⟩:=I.list g1;have hl:=rv.length;obtain ⟨f0,f1,f2,f3,f4,f5⟩:=hf it (by simp);exact wpAny_pyNext_enum_end (I.ok.hd hc) he hi pl.isList (by simp;omega) fun h' eb=>⟨rfl,I.turned (t':=s.toks) (fun b o hb z=>eb b o hb z) f0 f1 f3 f4 f5⟩
 self:=fun _ _ _ _ _ ⟨⟨_,he⟩,_⟩ h=>i7 he h
section
variable {X:Cx} {elts:List Expr} {kk:Nat} {tpos:Pos}
def Ek (K:Λ) (ta:TA):TI:=fun σ H R=>ta σ H fun vs H1=>∃ a xs,vs=[.ref a]/\ao K H1 a xs/\R (Ite fun H xs=>ao K H a xs) H1
theorem Nx {a:Expr} {ta:TA} {p pos:Pos} (hg:Gl X "enumerate") (hm:X.mg "enumerate"=none) (ha:PA X [a] ta) (hs:Χ [a] X.env=[(false,eval a X.env)]) :
  PI X (.Tuple elts kk tpos) (.Call (.Name "enumerate" p) [a] [] pos) (Ek X.K ta):=by
 intro pins s σ H R I h;refine Call_ (X8 I hg hm boot_enumerate (cw (aD (ha pos pins s σ H _ I h) fun us s1 ⟨vs,H1,I1,r1,q1⟩=>?_) hs rfl));obtain ⟨x,xs,e,hx,q⟩:=q1;subst e;obtain ⟨u,rfl,ru⟩:=WC r1
 cases ru
 obtain ⟨i1,_,pl,_⟩:=I1.list hx;have l1:x<s1.heap.objs.size:=by obtain ⟨_,e,_⟩:=pl.isList;exact Ν e
 refine call_enumerate_list pl.isList fun h' he hi hsz keep=>?_
 refine i7 he ?_;have I2:Inv X pins σ H1 { s1 with heap:=h' }:=I1.kept (t':=s1.toks) keep;have l1':@LT.lt Nat _ x s1.heap.objs.size:=l1;refine ⟨_,[s1.heap.objs.size+1,s1.heap.objs.size],_,_,H1,rfl,I2,Nv (by intro z;have z':@Eq Nat _ _:=z;omega) ⟨by intro z;have z':@Eq Nat _ _:=z;omega,by intro z;have z':@Eq Nat _ _:=z;omega⟩,⟨⟨_,he⟩,hi⟩,fun c hc=>?_,q⟩;have hle:s1.heap.objs.size<=c:=by
  simp only [Υ,ι,or_false] at hc;rcases hc with e | e<;>(have e':@Eq Nat _ _:=e;show @LE.le Nat _ s1.heap.objs.size c;omega)
 exact I1.fB hle (I1.hok.fresh hle)
end
mutual
inductive Den (K:Λ) (H:Hp):V->ε->Prop
 | non:Den K H .non .none
 | bl (b:Bool):Den K H (.bl b) (.bool b)
 | int (i:Int):Den K H (.int i) (.int i)
 | str (x:Str) (h:dq x=true):Den K H (.str x) (.str x)
 | lst {a:Addr} {vs:List V} {ds:List ε}:ao K H a vs->cV K H vs ds->Den K H (.ref a) (.list ds)
 | tup {a:Addr} {vs:List V} {ds:List ε}:aA K H a vs->cV K H vs ds->Den K H (.ref a) (.tuple ds)
inductive cV (K:Λ) (H:Hp):List V->List ε->Prop
 | nil:cV K H [] []
 | cons {v:V} {d:ε} {vs:List V} {ds:List ε}:Den K H v d->cV K H vs ds->cV K H (v::vs) (d::ds)
end
mutual
theorem Den.keep {K:Λ} {H H':Hp} (e:Yd H H'):∀ {v:V} {d:ε},Den K H v d->Den K H' v d
 | _,_,.non => .non
 | _,_,.bl b => .bl b
 | _,_,.int i => .int i
 | _,_,.str x h => .str x h
 | _,_,.lst h hs => .lst (e.seq h) (hs.keep e)
 | _,_,.tup h hs => .tup (e.tup h) (hs.keep e)
theorem cV.keep {K:Λ} {H H':Hp} (e:Yd H H'):∀ {vs:List V} {ds:List ε},cV K H vs ds->cV K H' vs ds
 | _,_,.nil => .nil
 | _,_,.cons h hs => .cons (h.keep e) (hs.keep e)
end
mutual
theorem Den.lay {K:Λ} {H:Hp}:∀ {v:V} {d:ε},Den K H v d->d.canLay0=true
 | _,_,.non=>rfl
 | _,_,.bl b=>rfl
 | _,_,.int i=>rfl
 | _,_,.str x h=>by simpa [fk] using h
 | _,_,.lst _ hs=>by rw [fk];exact hs.lay
 | _,_,.tup _ hs=>by rw [fk];exact hs.lay
theorem cV.lay {K:Λ} {H:Hp}:∀ {vs:List V} {ds:List ε},cV K H vs ds->bE ds=true
 | _,_,.nil=>rfl
 | _,_,.cons h hs=>by rw [bE,h.lay,hs.lay];rfl
end
section
variable {X:Cx}
mutual
theorem Den.reads {pins:List (Addr×Obj)} {σ:St} {H:Hp} {s:Δ} (I:Inv X pins σ H s):∀ {v:V} {d:ε} {u:Α},Den X.K H v d->Yx v u->∃ as,Reads s.heap u d as
 | _,_,u,.non,r=>by cases (show u = .none from r);exact ⟨_,.none⟩
 | _,_,u,.bl b,r=>by cases (show u = .bool b from r);exact ⟨_,.bool b⟩
 | _,_,u,.int i,r=>by obtain ⟨t,rfl⟩:=r;exact ⟨_,.int i t⟩
 | _,_,u,.str x h,r=>by obtain ⟨t,rfl⟩:=r;exact ⟨_,.str x t⟩
 | _,_,u,.lst (a:=a) h hs,r=>by
  cases (show u = .ref a from r)
  obtain ⟨its,rv,pl,hz⟩:=I.list h;obtain ⟨as,ra⟩:=hs.reads I rv;obtain ⟨o,e1,e2,n,e3⟩:=pl.isList;exact ⟨_,.list e1 e2 e3 (by simpa using ra)⟩
 | _,_,u,.tup (a:=a) h hs,r=>by
  cases (show u = .ref a from r)
  obtain ⟨its,rv,pl,hz⟩:=I.tuple h;obtain ⟨as,ra⟩:=hs.reads I rv;obtain ⟨o,e1,e2,n,e3⟩:=(show s.heap.IsTuple a its.toArray from pl);exact ⟨_,.tuple e1 e2 e3 (by simpa using ra)⟩
theorem cV.reads {pins:List (Addr×Obj)} {σ:St} {H:Hp} {s:Δ} (I:Inv X pins σ H s):∀ {vs:List V} {ds:List ε} {us:List Α},cV X.K H vs ds->Ym vs us->∃ as,ll s.heap us ds as
 | _,_,us,.nil,r=>by cases r;exact ⟨_,.nil⟩
 | _,_,us,.cons h hs,r=>by
  cases r with
  | cons r rr =>
   obtain ⟨as,ra⟩:=h.reads I r;obtain ⟨bs,rb⟩:=hs.reads I rr;exact ⟨_,.cons ra rb⟩
end
end
theorem XA {α:Type} {l:List α} {i:Nat} {x:α} (h:l[i]?=some x):l.take (i+1)=l.take i++[x]:=by
 obtain ⟨hi,hc⟩:=Ι.mp h;rw [List.take_succ_eq_append_getElem hi,hc]
theorem El {J:It} {P:Hp->Prop} {xs:List V} (hJ:XZ J P xs) {src:List (Option Nat)} {te:TE} {σ:St} {H1:Hp} {Q:VK} {D:Addr} (ys:List V) (hP:∀ H',Yd H1 H'->P H') (hD:H1 D=none) (hl:ys.length=xs.length) (hlen:xs.length<=100000)
  (step:∀ (i:Nat) x y H',xs[i]?=some x->ys[i]?=some y->Yd H1 H'->∀ R:VK,(∀ aF,Yd H' aF->R y aF)->te (some x::YG src σ) H' R)
  (fin:∀ H',Yd H1 H'->H' D=some (.lst ys)->Q (.ref D) H'):LC (none::src) J (YF 0) Xy te σ H1 Q D:=by
 have h6:100000<sizeLine:=by decide
 refine Ut hJ (fun i zs σ' H'=>zs=ys.take i/\(∃ o,σ'=o::YG src σ)/\Yd H1 H'/\H' D=some (.lst zs)) ⟨by simp,⟨none,rfl⟩,.aj hD _,Yb⟩ (fun i zs σ' H' p=>⟨hP _ p.2.2.1,p.2.2.2⟩) (Wd 0) ?_ ?_
 ·rintro i zs σ' H' x hx ⟨rfl,⟨o,rfl⟩,sm,hd⟩
  have hi:=(Ι.mp hx).1;have hy:ys[i]?=some (ys[i]'(by omega)):=Η _
  show te (some x::YG src σ) H' _
  refine step i x _ H' hx hy sm _ fun aF s2=>⟨s2 _ _ hd,?_,(XA hy).symm,⟨_,rfl⟩,.bC hD (sm.trans s2) _,Yb⟩
  rw [ba];omega
 ·rintro zs σ' H' ⟨rfl,_,sm,hd⟩
  rw [<- hl,fq] at hd
  exact fin H' sm hd
theorem Ny (K:Λ) (i j:Nat):∀ x σ H Q Q',(∀ σ' H',Q σ' H'->Q' σ' H')->Vk K 2 (XL (YF i) (XL (YF j) Vv)) x σ H Q->Vk K 2 (XL (YF i) (XL (YF j) Vv)) x σ H Q':=by
 rintro x σ H Q Q' h ⟨a,xs,e,sq,l,v,r,e1,v2,r2,e2,e3,q⟩;exact ⟨a,xs,e,sq,l,v,r,e1,v2,r2,e2,e3,h _ _ q⟩
end L2
namespace L2
open PySem PySem.Spec PyProof.Rows
section
variable {a b c d e r:TS} {D:Ends} {σ:St} {H:Hp} (M:St->Hp->Prop) (h1:∀ σ H,M σ H->r D σ H)
include h1
end
theorem Nz (i j:Int):sV (.int i) (.int j)=true:=rfl
theorem NK (i j:Str):sV (.str i) (.str j)=true:=rfl
theorem NP {α:Type} (xs:List α) (i j:Nat):(xs.drop (min i xs.length)).take (min j xs.length - min i xs.length)=(xs.drop i).take (j - i):=by
 by_cases hi:i<=xs.length
 ·rw [io hi]
  by_cases hj:j<=xs.length
  ·rw [io hj]
  ·rw [Nat.min_eq_right (by omega),a8 (by rw [bb];omega),a8 (by rw [bb];omega)]
 ·rw [gf (by omega),gf (show xs.length<=i by omega)]
  simp
theorem Em (xs:List V) (j:Nat):W3 xs none (some (j:Int))=xs.take j:=by
 unfold W3;rw [HT.gP,HT.fD,List.drop_zero,Nat.sub_zero];have:=NP xs 0 j;simpa using this
theorem VP (xs:List V) (i:Nat):W3 xs (some (i:Int)) none=xs.drop i:=by
 unfold W3;rw [HT.gP,HT.fD];by_cases hi:i<=xs.length
 ·rw [io hi,a8 (by rw [bb];omega)]
 ·rw [gf (by omega),gf (show xs.length<=i by omega)]
  simp
theorem En {α:Type} {c:TT} {tb:TS} {D:Ends} {σ:St} {H:Hp} (Pv:α->St->Hp->Prop) (cond:α->Bool) (μ:α->Nat) (a₀:α) (h0:Pv a₀ σ H)
  (hc:∀ a σ H,Pv a σ H->∀ R:Bool->Hp->Prop,(∀ H',Pv a σ H'->R (cond a) H')->c σ H R)
  (hb:∀ a σ H,Pv a σ H->cond a=true->tb { D with nx:=fun σ' H'=>∃ a',Pv a' σ' H'/\μ a'<μ a,ct:=fun σ' H'=>∃ a',Pv a' σ' H'/\μ a'<μ a,bk:=D.nx } σ H)
  (hd:∀ a σ H,Pv a σ H->cond a=false->D.nx σ H):Cr c tb D σ H:=by
 refine ⟨fun m σ H=>∃ a,m=μ a/\Pv a σ H,⟨_,a₀,rfl,h0⟩,?_⟩;rintro m σ H ⟨a,rfl,p⟩;refine hc a σ H p _ fun H' p'=>?_
 cases e:cond a with
 | true=>exact ⟨_,fun σ' H' ⟨a',q,l⟩=>⟨_,l,a',rfl,q⟩,hb a σ H' p' e⟩
 | false=>exact hd a σ H' p' e
theorem Uu {g:TG} {tb:TS} {D:Ends} {σ:St} {H:Hp} {K:Λ} {tl:TE} {xs:List V} (Pv:Addr->Nat->St->Hp->Prop) (ha:∀ R:V->Hp->Prop,(∀ c H1,Pv c 0 σ H1->R (.ref c) H1)->tl σ H R) (hl:∀ c i σ H,i<=xs.length->Pv c i σ H->ao K H c xs)
  (hs:∀ c (i:Nat) x σ H,xs[i]?=some x->Pv c i σ H->g x σ H fun σ2 H2=>tb { D with nx:=Pv c (i+1),ct:=Pv c (i+1),bk:=D.nx } σ2 H2) (hd:∀ c σ H,Pv c xs.length σ H->D.nx σ H):Vw (Wc K tl) g tb D σ H:=by
 refine ha _ fun c H1 h0=>⟨c,rfl,⟨xs,hl c 0 σ H1 (ay _) h0⟩,?_⟩
 exact V5 (Pv c) h0 (hl c) (hs c) (hd c)
section
variable {src:List (Option Nat)} {te:TE} {σ:St} {H:Hp} {Q:VK}
theorem NQ {K:Λ} {tl:TE} {xs:List V} (ys:List V) (ha:∀ R:V->Hp->Prop,(∀ a H1,Yd H H1->ao K H1 a xs->R (.ref a) H1)->tl σ H R) (hl:ys.length=xs.length) (hlen:xs.length<=100000)
  (step:∀ (i:Nat) x y H',xs[i]?=some x->ys[i]?=some y->Yd H H'->∀ R:VK,(∀ aF,Yd H' aF->R y aF)->te (some x::YG src σ) H' R)
  (fin:∀ D H',H D=none->Yd H H'->H' D=some (.lst ys)->Q (.ref D) H'):eX (none::src) (Wc K tl) (YF 0) Xy te σ H Q :=
 ha _ fun a H1 s1 hS=>⟨a,rfl,⟨xs,hS⟩,fun D hD=>El (XT.imp fun H' (e:Yd H1 H')=>e.seq hS) ys (fun _ e=>e) hD hl hlen (fun i x y H' hx hy sm R r=>step i x y H' hx hy (s1.trans sm) R r) fun H' sm=>fin D H' (s1.free hD) (s1.trans sm)⟩
end
section
variable {X:Cx} {K:Λ}
theorem Vc (h:X.K=K:=by rfl):oM X (oN K):=by subst h;exact YM
theorem Vn (h:X.K=K:=by rfl):oK X (tG K):=by subst h;exact UO
end
theorem QB (its:List Α):slicePick its.toArray none none (some (-1))=its.reverse.toArray:=by
 unfold slicePick;have hb:fh none none (some (-1)) its.toArray.size=((its.length:Int) - 1,-1,-1):=by simp [fh]
 rw [hb];have hr:sliceRange ((its.length:Int) - 1) (-1) (-1)=(bj its.length).map fun (k:Nat)=>its.length - 1 - k:=by
  unfold sliceRange;simp only [show ¬ ((-1:Int)>0) by decide,if_false];have hc:(if (its.length:Int) - 1 > -1 then ((its.length:Int) - 1 - -1 - -1 - 1) / - -1 else 0).toNat=its.length:=by
   split
   ·have:((its.length:Int) - 1 - -1 - -1 - 1)=its.length:=by omega
    rw [this,show (- -1:Int)=1 from rfl,Int.ediv_one];omega
   ·omega
  rw [hc]
  apply List.map_congr_left
  intro k hk;have:k<its.length:=gE.mp hk;omega
 simp only [hr]
 congr 1
 rw [List.filterMap_map]
 apply gm
 intro i;have key:∀ (n:Nat),n<=its.length->(List.filterMap ((fun x=>its.toArray[x]?) ∘ fun k=>its.length - 1 - k) (bj n))=its.reverse.take n:=by
  intro n
  induction n with
  | zero=>intro _;simp
  | succ n ih =>
   intro hn;rw [eT,List.filterMap_append,ih (by omega)];have hx:its.reverse[n]?=some (its[its.length - 1 - n]'(by omega)):=by
    rw [List.getElem?_reverse (by omega)];exact Η _
   rw [XA hx];have hlt:its.length - 1 - n<its.length:=by omega
   simp [hlt]
 rw [key its.length (Φ _)];rw [a8 (by simp)]
section
variable {X:Cx} {e st:Expr} {te ts:TE} {pos p2:Pos}
def rC (K:Λ) (te ts:TE):TE:=fun σ H Q=>te σ H fun x H1=>ts σ H1 fun y H2=>y = .int (-1)/\∃ a xs,x = .ref a/\ao K H2 a xs/\∀ p,H2 p=none->Q (.ref p) (upd H2 p (.lst xs.reverse))
theorem Eo (he:PE X e te) (hs:PE X st ts):PE X (.Subscript e (.Slice none none (some st) p2) pos) (rC X.K te ts):=by
 intro pins s σ H Q I h;refine Subscript_ (aD (he pins s σ H _ I h) fun v s1 ⟨x,H1,I1,r1,q1⟩=>?_);refine wpAny_Slice ?_;rw [evalPart_none];refine Μ (Μ ?_);rw [evalPart_some];refine aD (hs pins s1 σ H1 _ I1 q1) fun u s2 ⟨y,H2,I2,r2,q2⟩=>?_
 obtain ⟨rfl,a,xs,rfl,hx,q⟩:=q2;obtain ⟨t,rfl⟩:=r2
 cases r1
 have I4:Inv X pins σ H2 { s2 with heap:=s2.heap.push { cls := .type "slice",data := .fields #[.none,.none,.int (-1) t] } }:=I2.kept (t':=s2.toks) fun b ob q=>Ε _ q
 obtain ⟨its,r,ht,hz⟩:=I4.list hx;have hlen:=r.length;have hg:=wpAny_getItem_list_slice (prog:=X.prog) (w:=X.w) (A:=X.A) (E:=X.xe) (Q:=EP X pins σ Q) ht.isList (Heap.IsSliceOf.new ..) .none .none (.int (-1) t) (by decide) (by
  rw [QB];refine ⟨.ref _,_,I4.laid (t':=_) (o := .lst xs.reverse) (fun b ob q=>Ε _ q) (Φ _) ?_,rfl,q _ (I4.hok.fresh (Φ _))⟩;exact ⟨by rw [List.length_reverse];exact hz,_,0,r.reverse,δ _ rfl⟩) (by rw [ξ]<;>omega)
 exact tail_any (ops:=[.ref a,.ref s2.heap.objs.size]) ht.isList.typeIs slot_list_getitem.lookup hg (by with_unfolding_all rfl)
end
section
variable {X:Cx} {pos:Pos}
theorem wG:bT X (bu .Is) (fun x y H Q=>∃ a b,x = .bl a/\y = .bl b/\Q (.bl (a==b)) H):=by
 intro pins s σ H x y v u Q I rx ry h;obtain ⟨a,b,rfl,rfl,q⟩:=h
 cases rx
 cases ry
 exact is_bool ⟨.bl _,H,I,rfl,q⟩
theorem NT:bT X (bu .IsNot) (fun x y H Q=>∃ a b,x = .bl a/\y = .bl b/\Q (.bl (a != b)) H):=by
 intro pins s σ H x y v u Q I rx ry h;obtain ⟨a,b,rfl,rfl,q⟩:=h
 cases rx
 cases ry
 exact isnot_bool ⟨.bl _,H,I,rfl,q⟩
def wH:V->List V->Hp->VK->Prop:=fun x vs H Q=>∃ i,x = .int i/\vs=[]/\Q (.int (ic i:Nat)) H
theorem NZ:kE X "int.bit_length" wH:=by
 intro pins s σ H x vs v us Q I rx r h;obtain ⟨i,rfl,rfl,q⟩:=h;obtain ⟨t,rfl⟩:=rx
 cases r
 exact call_gives F.slot_int_bit_length (typeIs_int s i t) F.entry_int_bit_length (F.args_int_bit_length_1 _) (AutoIntG2.int_bit_length_int_0 i t) ⟨.int _,H,I.tok _,⟨_,rfl⟩,q⟩
def wI:V->List V->Hp->VK->Prop:=fun x vs H Q=>∃ (z y:Str),x = .str z/\vs=[.str y]/\Q (.int (Txt.find z y)) H
theorem N5:kE X "str.find" wI:=by
 intro pins s σ H x vs v us Q I rx r h;obtain ⟨z,y,rfl,rfl,q⟩:=h;obtain ⟨t,rfl⟩:=rx;obtain ⟨u,rfl,ru⟩:=WC r;obtain ⟨t',rfl⟩:=ru;exact call_gives F.slot_str_find (typeIs_str s z t) F.entry_str_find (F.args_str_find_2 _ _) (gives_str_find z y t t') ⟨.int _,H,I.tok _,⟨_,rfl⟩,q⟩
def Ep:TE:=fun _ H Q=>∀ p,H p=none->Q (.ref p) (upd H p (.dK []))
end
def Gx.kZ (g:Gx) (x:Str) (xs:List V):Prop:=∃ c,g.mg x=some (.ref c)/\∀ H,aA g.K H c xs
theorem N6 {K:Λ} {h:Heap} {mg:Str->Option Α} {x:Str} {i:Addr} {dc:Option Addr} {its:Array Α} {n:Nat} {sl:Array (Option Α)} {xs:List V} (X:K.In h) (G:h.Ns aI mg)
  (a:W.nsIn K aI x=some (some (.ref i))) (l:K.lookup i=some ⟨.type "tuple",dc,.seq its n,sl⟩) (hz:its.size<=sizeLine) (r:Ym xs its.toList):∀ P w base,(Gx.mk P w K mg base).kZ x xs :=
 fun P w base=>⟨i,W.mg_of X G a,fun H => .inr ⟨_,its,n,l,rfl,rfl,hz,r⟩⟩
section
variable {X:Cx} {g:Gx} {x:Str} {pos:Pos}
def wJ (K:Λ) (xs:List V):TE:=fun _ H Q=>∀ c,aA K H c xs->Q (.ref c) H
theorem Er {xs:List V} (F:g.kZ x xs) (hX:X.gx=g) (hg:Gl X x) (hd:(x==("__debug__":Str))=false):PE X (.Name x pos) (wJ g.K xs):=by
 subst hX;obtain ⟨c,e,hc⟩:=F;exact fun pins s σ H Q I h=>Ce hg e (show Yx (.ref c) (.ref c) from rfl) hd pins s σ H Q I (h c (hc H))
end
theorem YH {c A B:Prop} [Decidable c] (h:¬ c) (hb:B):if c then A else B:=by rw [if_neg h];exact hb
theorem Xd {c A B:Prop} [Decidable c] (h:c) (ha:A):if c then A else B:=by rw [if_pos h];exact ha
section
variable {src:List (Option Nat)} {te:TE} {σ:St} {H:Hp} {Q:VK}
theorem Es {tl:TE} {l:List Nat} (ys:List V) (ha:∀ R:V->Hp->Prop,R (.str (S l)) H->tl σ H R) (hl:ys.length=l.length) (hlen:l.length<=100000)
  (step:∀ (i c:Nat) y H',l[i]?=some c->ys[i]?=some y->Yd H H'->∀ R:VK,(∀ aF,Yd H' aF->R y aF)->te (some (.str (S [c]))::YG src σ) H' R)
  (fin:∀ D H',H D=none->Yd H H'->H' D=some (.lst ys)->Q (.ref D) H'):eX (none::src) (rB tl) (YF 0) Xy te σ H Q :=
 ha _ ⟨S l,rfl,fun D hD=>El (MK (S l) (fun _=>True)) ys (fun _ _=>trivial) hD (by rw [Wu];simpa using hl) (by rw [Wu];simpa using hlen) (fun i x y H' hx hy sm R r=>by
  rw [Wu,Ξ] at hx
  cases e:l[i]? with
  | none=>rw [e] at hx;cases hx
  | some c =>
   rw [e] at hx
   have:V.str ⟨#[c]⟩=x:=Θ hx;subst this;exact step i c y H' e hy sm R r) fun H'=>fin D H' hD⟩
end
section
variable {X:Cx} {K:Λ} {o e:Expr} {es:List Expr} {to:TE} {t:TA} {name:Str} {apos cpos:Pos} {T id:String} {r:V->List V->Hp->VK->Prop}
theorem N7 (pa:PlainAttrs T) (slot:Slot T name id) (hty:typeOf (.builtin id)=pure (.type "method_descriptor")) (hm:kE X id r) (ho:PE X o to) (ha:PA X (e::es) t)
  (hbase:fA o name X.env (eval o X.env)=eval o X.env)
  (hfew:((bz cpos (Χ (e::es) X.env)).all (fun x => !x.1)&&(backToKw cpos (kQ [] X.env)).all (fun x=>x.1.isSome)
   && decide ((e::es).length+([]:List Keyword).length+(if ([]:List Keyword).isEmpty then 0 else 1)<30))=true)
  (hline:(apos.endLine==cpos.line)=true) (hs:Χ (e::es) X.env=(false,eval e X.env)::Χ es X.env) (hplain:(bz cpos (Χ es X.env)).any (·.1)=false) (hK:X.K=K) :
  PE X (.Call (.Attribute o name apos) (e::es) [] cpos) (tK K T r to t):=by
 subst hK;exact Xu pa slot hty hm ho ha hbase hfew hline hs hplain
end
section
variable {X:Cx}
def Bc (i j:Int):Prop:=QW i j\/qQ i j
theorem UT:bT X (ir .Mult) (rI Bc fun i j => .int (i*j)):=sU fun _ _ _ _ _ _ _ hc q=>mul_int q (hc.elim (fun h=>h.ok) fun h=>h.ok)
end
theorem N8 (l:List Nat) (c:Nat):(!(Builtin.Str.occurrences (S l) (S [c]) 0 (S l).length 1).isEmpty)=decide (c∈l):=by
 have:=PySem.StrLaws.found_one (S l) c;rw [Wu] at this
 exact this
abbrev Wv (h:Heap) (z TI TO:Addr) (f0:Α) (f1:Bool):Prop :=
 h.get? z=some { cls := .type "zip",dict:=none,data := .fields #[f0,.bool f1,.bool false,.ref TI,.ref TO],slots:=#[] }
section
variable {prog:Ψ} {w:θ} {A:ζ} {E:Α->Δ->Prop} {s:Δ} {z TI TO i1 i2 T:Addr} {S1 S2:Nat->Heap->Prop} {R1 R2:Heap->(Nat->Option Α)->Prop} {g1 g2:Nat->Option Α} {k:Nat} {a b:Α} {f:Bool} {oT:Obj}
theorem Oa {x y:Α} {Q:Option Α->Δ->Prop} (D:cM z TI TO i1 i2) (U1:Sub prog w i1 S1 R1) (U2:Sub prog w i2 S2 R2)
  (k1:∀ h h' g,R1 h g->(∀ c o,c≠z->c≠TO->c≠i1->c≠i2->h.get? c=some o->h'.get? c=some o)->R1 h' g) (k2:∀ h h' g,R2 h g->(∀ c o,c≠z->c≠TO->c≠i1->c≠i2->h.get? c=some o->h'.get? c=some o)->R2 h' g)
  (hz:Wv s.heap z TI TO (cE T) f) (hTI:b9 s.heap TI (.ref i1) (.ref i2)) (hT:s.heap.get? T=some oT) (h1:S1 k s.heap) (h2:S2 k s.heap) (r1:R1 s.heap g1) (r2:R2 s.heap g2) (hx:g1 k=some x) (hy:g2 k=some y)
  (hQ:∀ h' tk,Wv h' z TI TO (cE T) true->S1 (k+1) h'->S2 (k+1) h'->b9 h' s.heap.objs.size x y->h'.objs.size=s.heap.objs.size+1 ->
   (∀ c o,c≠z->c≠i1->c≠i2->s.heap.get? c=some o->h'.get? c=some o)->Q (some (.ref s.heap.objs.size)) { s with heap:=h',toks:=tk }) :
  Κ (Ο prog w) A (gu (.ref z)) Q E s:=by
 have hTy:s.TypeIs (.ref z) "zip":=⟨_,hz,rfl⟩;unfold gu;refine Β (js (bv (name:=χ "__next__") hTy ei (ck ei hTy ke ?_ (ja _))))
 show Κ _ _ (fE (.ref z) 2 >>= _) _ _ _
 refine Β (av hz rfl (x := .bool false) rfl ?_)
 show Κ _ _ (fE (.ref z) 3 >>= _) _ _ _
 refine Β (av hz rfl (x := .ref TI) rfl ?_);refine Β (b8 hTI rfl ?_)
 show Κ _ _ (ax (.ref z) >>= _) _ _ _
 refine Β ?_;unfold ax;refine Β (av hz rfl (x:=cE T) rfl ?_)
 show Κ _ _ (loadIfAlive ((T:Int).toNat) >>= _) _ _ _
 rw [et];refine Β (PySem.W.kdx_alive hT ?_);simp only [Option.isNone_some,c5,if_false];refine Β (av hz rfl (x := .bool f) rfl ?_);have step:∀ (P:Bool->Δ->Prop) (E':Α->Δ->Prop),(∀ h₀:Heap,Wv h₀ z TI TO (cE T) true->ci z s.heap h₀->P false { s with heap:=h₀ }) ->
   Κ (Ο prog w) A.in1 (if (bo f != bo true)=true then do setField (Ω z) 1 (bo true);pure false else pure false) P E' s:=by
  intro P E' h
  cases f with
  | true =>
   rw [if_neg (show ¬ ((bo true != bo true)=true) from η)];exact Μ (h s.heap hz (Heap.SameBut.refl _ _))
  | false =>
   rw [if_pos (show (bo false != bo true)=true from rfl)];exact Β (dv hz (by simp) fun h₃ he₃ hs₃=>Μ (h h₃ he₃ hs₃))
 refine step _ _ fun h₀ tV hs₀=>?_
 simp only [c5,if_false];have nq:S1 k h₀:=U1.keep _ _ _ h1 fun o e=>hs₀.extBut _ _ D.c e
 have nu:R1 h₀ g1:=k1 _ _ _ r1 fun c o c1 _ _ _ e=>hs₀.extBut _ _ c1 e
 rw [<- iX];simp only [fR,kM];refine Β (Β (Β (dy ?_)))
 show Κ _ _ (ς (.ref i1) >>= _) _ _ _
 refine Β (U1.item _ k { s with heap:=h₀ } g1 x _ _ nq nu hx fun h₂ tk₂ j5 hs₂=>Μ ?_);have kk₂:∀ c o,c≠z->c≠i1->s.heap.get? c=some o->h₂.get? c=some o:=fun c o c1 c3 e=>hs₂.extBut _ _ c3 (hs₀.extBut _ _ c1 e)
 refine Μ ?_;dsimp only;have Bd:S2 k h₂:=U2.keep _ _ _ h2 fun o e=>hs₂.extBut _ _ D.j.symm (hs₀.extBut _ _ D.d e)
 refine Β (Β (dy ?_))
 show Κ _ _ (ς (.ref i2) >>= _) _ _ _
 refine Β (U2.item _ k { s with heap:=h₂,toks:=tk₂ } g2 y _ _ Bd (k2 _ _ _ r2 fun c o c1 c2 c3 c4 e=>kk₂ c o c1 c3 e) hy fun h₄ tk₄ nj hs₄=>Μ ?_);refine Μ (Μ ?_);dsimp only;refine Β (wpAny_newTuple ?_ (show (2:Nat)<=sizeLine by decide));have hsz:h₄.objs.size=s.heap.objs.size:=by rw [hs₄.1,hs₂.1,hs₀.1]
 have hz₄:Wv h₄ z TI TO (cE T) true:=hs₄.extBut _ _ D.d.symm (hs₂.extBut _ _ D.c.symm tV);refine Μ ⟨_,rfl,Μ ?_⟩
 show Q (some (.ref h₄.objs.size)) _
 have Bf:=hQ (h₄.push { cls := .type "tuple",data := .seq #[x,y] }) tk₄ (Ε _ hz₄) (U1.keep _ _ _ j5 fun o e=>Ε _ (hs₄.extBut _ _ D.j e)) (U2.keep _ _ _ nj fun o e=>Ε _ e)
  (by rw [<- hsz];exact δ _ rfl) (by rw [dC,hsz]) fun c o c1 c3 c4 e=>Ε _ (hs₄.extBut _ _ c4 (kk₂ c o c1 c3 e))
 rw [hsz];exact Bf
theorem Ob {Q:Option Α->Δ->Prop} (hh:A.handled=none) (D:cM z TI TO i1 i2) (U1:Sub prog w i1 S1 R1) (U2:Sub prog w i2 S2 R2)
  (k1:∀ h h' g,R1 h g->(∀ c o,c≠z->c≠TO->c≠i1->c≠i2->h.get? c=some o->h'.get? c=some o)->R1 h' g)
  (hz:Wv s.heap z TI TO (cE T) f) (hTI:b9 s.heap TI (.ref i1) (.ref i2)) (hT:s.heap.get? T=some oT) (h1:S1 k s.heap) (r1:R1 s.heap g1) (hend:g1 k=none)
  (hQ:∀ h' tk,(∀ c o,c≠z->c≠i1->c≠i2->s.heap.get? c=some o->h'.get? c=some o)->Q none { s with heap:=h',toks:=tk }):Κ (Ο prog w) A (gu (.ref z)) Q E s:=by
 have hTy:s.TypeIs (.ref z) "zip":=⟨_,hz,rfl⟩;unfold gu;refine Β (js (bv (name:=χ "__next__") hTy ei (ck ei hTy ke ?_ (ja _))))
 show Κ _ _ (fE (.ref z) 2 >>= _) _ _ _
 refine Β (av hz rfl (x := .bool false) rfl ?_)
 show Κ _ _ (fE (.ref z) 3 >>= _) _ _ _
 refine Β (av hz rfl (x := .ref TI) rfl ?_);refine Β (b8 hTI rfl ?_)
 show Κ _ _ (ax (.ref z) >>= _) _ _ _
 refine Β ?_;unfold ax;refine Β (av hz rfl (x:=cE T) rfl ?_)
 show Κ _ _ (loadIfAlive ((T:Int).toNat) >>= _) _ _ _
 rw [et];refine Β (PySem.W.kdx_alive hT ?_);simp only [Option.isNone_some,c5,if_false];refine Β (av hz rfl (x := .bool f) rfl ?_);have step:∀ (P:Bool->Δ->Prop) (E':Α->Δ->Prop),(∀ h₀:Heap,Wv h₀ z TI TO (cE T) true->ci z s.heap h₀->P false { s with heap:=h₀ }) ->
   Κ (Ο prog w) A.in1 (if (bo f != bo true)=true then do setField (Ω z) 1 (bo true);pure false else pure false) P E' s:=by
  intro P E' h
  cases f with
  | true =>
   rw [if_neg (show ¬ ((bo true != bo true)=true) from η)];exact Μ (h s.heap hz (Heap.SameBut.refl _ _))
  | false =>
   rw [if_pos (show (bo false != bo true)=true from rfl)];exact Β (dv hz (by simp) fun h₃ he₃ hs₃=>Μ (h h₃ he₃ hs₃))
 refine step _ _ fun h₀ tV hs₀=>?_
 simp only [c5,if_false];have nq:S1 k h₀:=U1.keep _ _ _ h1 fun o e=>hs₀.extBut _ _ D.c e
 have nu:R1 h₀ g1:=k1 _ _ _ r1 fun c o c1 _ _ _ e=>hs₀.extBut _ _ c1 e
 rw [<- iX];simp only [fR,kM];refine Β (Β (Β (dy ?_)))
 show Κ _ _ (ς (.ref i1) >>= _) _ _ _
 refine Β (U1.fin _ k { s with heap:=h₀ } g1 _ _ hh nq nu hend fun h₂ e hs₂ he=>?_);obtain ⟨oe,hoe,hce⟩:=he;refine Β (j0 (T:="StopIteration") (b:=true) ⟨oe,hoe,hce⟩ isSubtype_stop ?_);exact Μ (hQ h₂ s.toks fun c o c1 c3 c4 x=>hs₂ _ _ c3 (hs₀.extBut _ _ c1 x))
end
section
variable {prog:Ψ} {w:θ} {A:ζ} {s:Δ} {R:jp->Δ->Prop} {z TI TO i1 i2 S p1 p2:Addr} {xs ys:List Α}
def Oc (h:Heap) (z TI TO i1 i2 p1 p2:Addr) (i:Nat) (as:List Addr):Prop :=
 b9 h TI (.ref i1) (.ref i2)/\h.IsTupleIter i1 p1 i/\h.IsTupleIter i2 p2 i/\((i=0/\gh h z TI TO .none/\∃ a b,b9 h TO a b)\/∃ T f,T∈as/\Wv h z TI TO (cE T) f)
theorem Oe (hh:A.handled=none) (D:cM z TI TO i1 i2) (lo:Nat) (hlo:z<lo/\TI<lo/\TO<lo/\i1<lo/\i2<lo/\S<lo/\p1<lo/\p2<lo) (nS:S∉[z,TI,TO,i1,i2,p1,p2]) (n1:p1∉[z,TO,i1,i2]) (n2:p2∉[z,TO,i1,i2]) (hl:xs.length=ys.length) (hn:xs.length<=sizeLine) (res:Α) {h₁:Heap}
  (hR:∀ (h':Heap) (tk:Nat) (acc:Array Α) (c:Nat) (as:List Addr),(∀ b o,b∉[S,z,TO,i1,i2]->h₁.get? b=some o->h'.get? b=some o)->h'.get? S=some { cls := .type "list",dict:=none,data := .seq acc c,slots:=#[] }->as.length=xs.length->acc.toList=as.map Ω ->
   as.Pairwise (·<·)->(∀ a∈as,lo<=a)->(∀ (j:Nat) a x y,as[j]?=some a->xs[j]?=some x->ys[j]?=some y->b9 h' a x y)->R (.ok (.ret res)) { s with heap:=h',toks:=tk }) :
  ∀ (k i:Nat) (h:Heap) (tk c:Nat) (acc:Array Α) (as:List Addr),xs.length - i=k->i<=xs.length->Oc h z TI TO i1 i2 p1 p2 i as->h.IsTuple p1 xs.toArray->h.IsTuple p2 ys.toArray->(∀ b o,b∉[S,z,TO,i1,i2]->h₁.get? b=some o->h.get? b=some o) ->
   h.get? S=some { cls := .type "list",dict:=none,data := .seq acc c,slots:=#[] }->acc.toList=as.map Ω->as.length=i->as.Pairwise (·<·)->(∀ a∈as,lo<=a/\a<h.objs.size)->(∀ (j:Nat) a x y,as[j]?=some a->xs[j]?=some x->ys[j]?=some y->b9 h a x y)->lo<=h.objs.size ->
   d6 (Ο prog w) A (.builtin "list.extend.loop" ⟨[.ref S,.ref z,res],[]⟩) R { s with heap:=h,toks:=tk }:=by
 intro k;have nz:S≠z:=fun e=>nS (by simp [e])
 have Og:S≠TI:=fun e=>nS (by simp [e])
 have Et:S≠TO:=fun e=>nS (by simp [e])
 have wK:S≠i1:=fun e=>nS (by simp [e])
 have wL:S≠i2:=fun e=>nS (by simp [e])
 have Oh:S≠p1:=fun e=>nS (by simp [e])
 have Oi:S≠p2:=fun e=>nS (by simp [e])
 have q1:p1≠z/\p1≠TO/\p1≠i1/\p1≠i2:=⟨fun e=>n1 (by simp [e]),fun e=>n1 (by simp [e]),fun e=>n1 (by simp [e]),fun e=>n1 (by simp [e])⟩;have q2:p2≠z/\p2≠TO/\p2≠i1/\p2≠i2:=⟨fun e=>n2 (by simp [e]),fun e=>n2 (by simp [e]),fun e=>n2 (by simp [e]),fun e=>n2 (by simp [e])⟩;have big:∀ {a:Addr},lo<=a->a≠z/\a≠TO/\a≠i1/\a≠i2/\a≠S:=fun {a} ha=>by
  obtain ⟨l1,l2,l3,l4,l5,l6,_⟩:=hlo;refine ⟨?_,?_,?_,?_,?_⟩<;>(intro e;subst e;exact absurd ha (Nat.not_le.mpr (by assumption)))
 have nA:∀ h:Heap,h.IsTuple p1 xs.toArray->∃ items:Array Α,h.IsTuple p1 items/\∀ k:Nat,(fun k:Nat=>xs[k]?) k=items[k]?:=fun h e=>⟨_,e,fun (k:Nat)=>by simp⟩
 have rD:∀ h:Heap,h.IsTuple p2 ys.toArray->∃ items:Array Α,h.IsTuple p2 items/\∀ k:Nat,(fun k:Nat=>ys[k]?) k=items[k]?:=fun h e=>⟨_,e,fun (k:Nat)=>by simp⟩
 have tW:∀ (h h':Heap) (g:Nat->Option Α),(∃ items:Array Α,h.IsTuple p1 items/\∀ k,g k=items[k]?)->(∀ c o,c≠z->c≠TO->c≠i1->c≠i2->h.get? c=some o->h'.get? c=some o)->∃ items:Array Α,h'.IsTuple p1 items/\∀ k,g k=items[k]? :=
  fun h h' g ⟨items,⟨o,e,r⟩,q⟩ k=>⟨items,⟨o,k _ o q1.1 q1.2.1 q1.2.2.1 q1.2.2.2 e,r⟩,q⟩
 have kY:∀ (h h':Heap) (g:Nat->Option Α),(∃ items:Array Α,h.IsTuple p2 items/\∀ k,g k=items[k]?)->(∀ c o,c≠z->c≠TO->c≠i1->c≠i2->h.get? c=some o->h'.get? c=some o)->∃ items:Array Α,h'.IsTuple p2 items/\∀ k,g k=items[k]? :=
  fun h h' g ⟨items,⟨o,e,r⟩,q⟩ k=>⟨items,⟨o,k _ o q2.1 q2.2.1 q2.2.2.1 q2.2.2.2 e,r⟩,q⟩
 induction k with
 | zero =>
  intro i h tk c acc as hk hi hst ht1 fU hkeep hS hacc hal wM hab hpr hlo';have hin:i=xs.length:=by omega
  refine codeAny_builtin F.entry_extend_loop ?_;rw [Around.under_plainId fw _]
  show Κ _ A.in1 (gu (.ref z) >>= _) _ _ _
  obtain ⟨hTI,hi1,hi2,hzs⟩:=hst;have fin:∀ h' tk',(∀ b o,b≠z->b≠TO->b≠i1->b≠i2->h.get? b=some o->h'.get? b=some o)->R (.ok (.ret res)) { s with heap:=h',toks:=tk' }:=fun h' tk' kp=>by
   refine hR h' tk' acc c as (fun b o hb e=>?_) (kp S _ nz Et wK wL hS) (by omega) hacc wM (fun a ha=>(hab a ha).1) (fun j a x y h1 h2 h3=>?_)
   ·simp only [Υ,ι,or_false,not_or] at hb
    exact kp b o hb.2.1 hb.2.2.1 hb.2.2.2.1 hb.2.2.2.2 (hkeep b o (by simp [hb]) e)
   ·have hb:=big (hab a (Τ h1)).1
    exact kp a _ hb.1 hb.2.1 hb.2.2.1 hb.2.2.2.1 (hpr j a x y h1 h2 h3)
  rcases hzs with ⟨e0,hz,a,b,hTO⟩ | ⟨T,f,hT,hz⟩
  ·refine Β (DX (s:={ s with heap:=h,toks:=tk }) (A:=A.in1) (k:=i) hh D (Xz i1 p1) (Xz i2 p2) tW kY hz hTI hTO hi1 hi2 (nA h ht1) (rD h fU) (.inl (ef (by omega))) fun h' tk' kp=>Μ (fin h' tk' kp))
  ·obtain ⟨j,hj⟩:=List.mem_iff_getElem?.mp hT
   have hjl:=(Ι.mp hj).1;have:=hpr j T _ _ hj (Η (show j<xs.length by omega)) (Η (show j<ys.length by omega));refine Β (Ob (s:={ s with heap:=h,toks:=tk }) (A:=A.in1) (k:=i) hh D (Xz i1 p1) (Xz i2 p2) tW hz hTI this hi1 (nA h ht1) (ef (by omega)) fun h' tk' kp=>Μ (fin h' tk' fun b o b1 _ b3 b4 e=>kp b o b1 b3 b4 e))
 | succ k ih =>
  intro i h tk c acc as hk hi hst ht1 fU hkeep hS hacc hal wM hab hpr hlo';have hlt:i<xs.length:=by omega
  have hlt2:i<ys.length:=by omega
  have hx:xs[i]?=some xs[i]:=Η hlt;have hy:ys[i]?=some ys[i]:=Η hlt2;have hsz:acc.size=i:=by rw [<- ie,hacc,Ζ,hal]
  refine codeAny_builtin F.entry_extend_loop ?_;rw [Around.under_plainId fw _]
  show Κ _ A.in1 (gu (.ref z) >>= _) _ _ _
  obtain ⟨hTI,hi1,hi2,hzs⟩:=hst;have step:∀ (Q:Option Α->Δ->Prop) (E:Α->Δ->Prop),(∀ (h':Heap) (tk':Nat) (T:Addr) (f:Bool),T∈as++[h.objs.size]->Wv h' z TI TO (cE T) f->h'.IsTupleIter i1 p1 (i+1)->h'.IsTupleIter i2 p2 (i+1)->b9 h' h.objs.size xs[i] ys[i]->h'.objs.size=h.objs.size+1 ->
    (∀ c o,c≠z->c≠TO->c≠i1->c≠i2->h.get? c=some o->h'.get? c=some o)->Q (some (.ref h.objs.size)) { s with heap:=h',toks:=tk' })->Κ (Ο prog w) A.in1 (gu (.ref z)) Q E { s with heap:=h,toks:=tk }:=by
   intro Q E hq;rcases hzs with ⟨e0,hz,a,b,hTO⟩ | ⟨T,f,hT,hz⟩
   ·exact DW (s:={ s with heap:=h,toks:=tk }) (A:=A.in1) (k:=i) D (Xz i1 p1) (Xz i2 p2) tW kY hz hTI hTO hi1 hi2 (nA h ht1) (rD h fU) hx hy fun h' tk' hz' _ s1 s2 hp hs kp=>hq h' tk' h.objs.size _ (by simp) hz' s1 s2 hp hs kp
   ·obtain ⟨j,hj⟩:=List.mem_iff_getElem?.mp hT
    have hjl:=(Ι.mp hj).1;have:=hpr j T _ _ hj (Η (show j<xs.length by omega)) (Η (show j<ys.length by omega));exact Oa (s:={ s with heap:=h,toks:=tk }) (A:=A.in1) (k:=i) D (Xz i1 p1) (Xz i2 p2) tW kY hz hTI this hi1 hi2 (nA h ht1) (rD h fU) hx hy fun h' tk' hz' s1 s2 hp hs kp=>hq h' tk' T _ (by simp [hT]) hz' s1 s2 hp hs fun c o c1 _ c3 c4 e=>kp c o c1 c3 c4 e
  refine Β (step _ _ fun h' tk' T f hT hz' s1 s2 hp hs hkp=>?_);have hS':=hkp S _ nz Et wK wL hS;have up:∀ b o,b≠S->h'.get? b=some o->(h'.update S (d4 (·.push (Ω h.objs.size)))).get? b=some o:=fun b o hb e=>(c8 _ _ (ah hb)).trans e
  have hSl:S<h.objs.size:=Ν hS;have np:h.objs.size≠S:=du hSl
  show Κ _ A.in1 (updateSeq S (·.push (Ω h.objs.size)) >>= _) _ _ _
  refine Β ?_;refine kA hS' rfl (Μ ⟨plainId_quiet fw _,ih (i+1) _ tk' _ (acc.push (Ω h.objs.size)) (as++[h.objs.size]) (by omega) hlt ⟨?_,?_,?_,.inr ⟨T,f,hT,up _ _ nz.symm hz'⟩⟩ ?_ ?_
   (fun b o hb e=>?_) (br _ hS' rfl) (by rw [Array.toList_push,hacc,af];rfl) (by rw [Ρ,hal];rfl) ?_ ?_ ?_ ?_⟩) (by rw [hsz];omega) (by show (acc.push (Ω h.objs.size)).size<=sizeLine+1;rw [Array.size_push,hsz];omega)
  ·exact up _ _ Og.symm (hkp TI _ D.a D.e D.f D.g hTI)
  ·obtain ⟨o,e,r⟩:=s1
   exact ⟨o,up _ _ wK.symm e,r⟩
  ·obtain ⟨o,e,r⟩:=s2
   exact ⟨o,up _ _ wL.symm e,r⟩
  ·obtain ⟨o,e,r⟩:=ht1
   exact ⟨o,up _ _ Oh.symm (hkp _ _ q1.1 q1.2.1 q1.2.2.1 q1.2.2.2 e),r⟩
  ·obtain ⟨o,e,r⟩:=fU
   exact ⟨o,up _ _ Oi.symm (hkp _ _ q2.1 q2.2.1 q2.2.2.1 q2.2.2.2 e),r⟩
  ·have hb':=hb
   simp only [Υ,ι,or_false,not_or] at hb';exact up b o hb'.1 (hkp b o hb'.2.1 hb'.2.2.1 hb'.2.2.2.1 hb'.2.2.2.2 (hkeep b o hb e))
  ·refine List.pairwise_append.mpr ⟨wM,List.pairwise_singleton _ _,fun a ha b hb=>?_⟩
   rw [ρ.mp hb];exact (hab a ha).2
  ·have hsz':(h'.update S (d4 (·.push (Ω h.objs.size)))).objs.size=h.objs.size+1:=by rw [<- hs];exact Heap.size_update _ _ _
   intro a ha;rw [hsz'];rcases ag.mp ha with ha | ha
   ·exact ⟨(hab a ha).1,dE (hab a ha).2⟩
   ·rw [ρ.mp ha];exact ⟨hlo',ka _⟩
  ·intro j b x y hj ex ey
   rcases Nat.lt_trichotomy j as.length with h1 | h1 | h1
   ·rw [ar h1] at hj
    have hb:=big (hab b (Τ hj)).1;exact up b _ hb.2.2.2.2 (hkp b _ hb.1 hb.2.1 hb.2.2.1 hb.2.2.2.1 (hpr j b x y hj ex ey))
   ·subst h1
    have hb:h.objs.size=b:=by simpa using hj
    subst hb;rw [hal] at ex ey
    rw [hx] at ex
    rw [hy] at ey
    cases ex
    cases ey
    exact up _ _ np hp
   ·have hnone:(as++[h.objs.size])[j]?=none:=ef (by rw [Ρ,aa];omega)
    rw [hnone] at hj;cases hj
  ·have hsz':(h'.update S (d4 (·.push (Ω h.objs.size)))).objs.size=h.objs.size+1:=by rw [<- hs];exact Heap.size_update _ _ _
   rw [hsz'];exact Nat.le_succ_of_le hlo'
end
end L2
namespace L2
open PySem PySem.Calls PySem.Spec PyProof.Rows PyProof.V
theorem Oj:typeLookup (.type "zip") "__len__"=pure none:=by rw [typeLookup_type,builtinLookup_eq_fast];kernel_rfl
theorem Ol:typeLookup (.type "zip") "__length_hint__"=pure none:=by rw [typeLookup_type,builtinLookup_eq_fast];kernel_rfl
section
variable {prog:Ψ} {w:θ} {A:ζ} {E:Α->Δ->Prop} {s:Δ} {z TI TO i1 i2 p1 p2:Addr} {xs ys:List Α}
theorem Om (hT:s.TypeIs (.ref z) "zip") {Q:Bool->Δ->Prop} (h:Q true s):Κ (Ο prog w) A (Builtin.List.listLengthHint (.ref z)) Q E s:=by
 unfold Builtin.List.listLengthHint;refine Β (ij hT Oj ?_)
 show Κ _ _ (specialOf (.ref z) "__length_hint__" >>= _) _ _ _
 refine Β (ij hT Ol ?_);exact Μ h
structure rE (xs ys:List Α) (lo:Nat) (h:Heap) (as:List Addr):Prop where
 len:as.length=xs.length
 rise:as.Pairwise (·<·)
 above:∀ a∈as,lo<=a
 pairs:∀ (j:Nat) a x y,as[j]?=some a->xs[j]?=some x->ys[j]?=some y->b9 h a x y
theorem Oo {R:jp->Δ->Prop} {S:Addr} {oa ob:Α} (hh:A.handled=none) (D:cM z TI TO i1 i2) (hlt:z<S/\TI<S/\TO<S/\i1<S/\i2<S/\p1<S/\p2<S) (n1:p1∉[z,TO,i1,i2]) (n2:p2∉[z,TO,i1,i2]) (hl:xs.length=ys.length) (hn:xs.length<=sizeLine) (res:Α) (c₀:Nat)
  (hz:gh s.heap z TI TO .none) (hTI:b9 s.heap TI (.ref i1) (.ref i2)) (hTO:b9 s.heap TO oa ob) (h1:s.heap.IsTupleIter i1 p1 0) (h2:s.heap.IsTupleIter i2 p2 0) (t1:s.heap.IsTuple p1 xs.toArray) (t2:s.heap.IsTuple p2 ys.toArray) (hS:s.heap.get? S=some { cls := .type "list",data := .seq #[] c₀ })
  (hR:∀ (h':Heap) (tk:Nat) (acc:Array Α) (c:Nat) (as:List Addr),(∀ b o,b∉[S,z,TO,i1,i2]->s.heap.get? b=some o->h'.get? b=some o)->h'.get? S=some { cls := .type "list",dict:=none,data := .seq acc c,slots:=#[] }->acc.toList=as.map Ω->rE xs ys (S+1) h' as->R (.ok (.ret res)) { s with heap:=h',toks:=tk }) :
  Κ (Ο prog w) A.in1 (eQ (.ref S) (.ref z) res)
   (fun fin s'=>match fin with | .done f=>R (.ok f) s' | .again c'=>c'.quiet=true/\d6 (Ο prog w) A c' R s') (fun e s'=>R (.error e) s') s:=by
 obtain ⟨l1,l2,l3,l4,l5,l6,l7⟩:=hlt;have nS:S∉[z,TI,TO,i1,i2,p1,p2]:=by
  intro hm;simp only [Υ,ι,or_false] at hm;rcases hm with e | e | e | e | e | e | e<;>(subst e;first | exact absurd l1 (aS _) | exact absurd l2 (aS _) | exact absurd l3 (aS _) | exact absurd l4 (aS _) | exact absurd l5 (aS _) | exact absurd l6 (aS _) | exact absurd l7 (aS _))
 have key:∀ (h:Heap) (c₁ tk:Nat),(∀ b o,b≠S->s.heap.get? b=some o->h.get? b=some o)->h.get? S=some { cls := .type "list",data := .seq #[] c₁ }->d6 (Ο prog w) A (.builtin "list.extend.loop" ⟨[.ref S,.ref z,res],[]⟩) R { s with heap:=h,toks:=tk }:=by
  intro h c₁ tk hk hS₁;have m:∀ {b:Addr},b<S->∀ o,s.heap.get? b=some o->h.get? b=some o:=fun {b} hb o e=>hk b o (ν hb) e
  refine Oe (s:=s) (h₁:=s.heap) hh D (S+1) ⟨dE l1,dE l2,dE l3,dE l4,dE l5,ka _,dE l6,dE l7⟩ nS n1 n2 hl hn res (fun h' tk' acc c as kp eS ln ac pw ab pr=>hR h' tk' acc c as kp eS ac ⟨ln,pw,ab,pr⟩)
   xs.length 0 h tk c₁ #[] [] (Nat.sub_zero _) (ay _) ⟨m l2 _ hTI,?_,?_,.inl ⟨rfl,m l1 _ hz,_,_,m l3 _ hTO⟩⟩ ?_ ?_ (fun b o hb e=>hk b o (fun q=>hb (by simp [q])) e) hS₁ rfl rfl List.Pairwise.nil (fun _ ha=>nomatch ha) (fun j a x y hj=>by simp at hj) (Ν hS₁)
  ·obtain ⟨o,e,r⟩:=h1;exact ⟨o,m l4 _ e,r⟩
  ·obtain ⟨o,e,r⟩:=h2;exact ⟨o,m l5 _ e,r⟩
  ·obtain ⟨o,e,r⟩:=t1;exact ⟨o,m l6 _ e,r⟩
  ·obtain ⟨o,e,r⟩:=t2;exact ⟨o,m l7 _ e,r⟩
 have hT:s.TypeIs (.ref z) "zip":=⟨_,hz,rfl⟩;unfold eQ;refine Β (wpAny_typeOf (T:="zip") hT ?_);have h1:Builtin.List.listSameRef (.ref S) (.ref z)=false:=by simp [Builtin.List.listSameRef,du l1]
 have h2:(fN "zip"==fN "list")=false:=by decide
 have h3:(fN "zip"==fN "tuple")=false:=by decide
 simp only [h1,h2,h3,Bool.or_false,c5,if_false];refine Β (wpAny_pyIter_zip hz ?_);refine Β (dy (Om hT ?_));refine wpAny_ite_split (fun _=>?_) (fun _=>Μ ⟨plainId_quiet fw _,key _ c₀ _ (fun b o _ e=>e) hS⟩);refine Β (kq ?_);refine Β ?_
 show Κ _ _ (updateSeq S (·.push .none) >>= fun _=>updateSeq S (·.pop)) _ _ _
 refine Β (kA hS rfl ?_);have hS₂:=br (d4 (·.push cq)) hS rfl;refine kA (hz:=by seq_fits) hS₂ rfl ?_;have hS₃:=br (d4 (·.pop)) hS₂ rfl;refine Μ ⟨plainId_quiet fw _,key _ _ _ (fun b o hb e=>?_) hS₃⟩;exact (c8 _ _ (ah hb)).trans ((c8 _ _ (ah hb)).trans e)
theorem Oq {R:jp->Δ->Prop} {S:Addr} {oa ob:Α} (hh:A.handled=none) (D:cM z TI TO i1 i2) (hlt:z<S/\TI<S/\TO<S/\i1<S/\i2<S/\p1<S/\p2<S) (n1:p1∉[z,TO,i1,i2]) (n2:p2∉[z,TO,i1,i2]) (hl:xs.length=ys.length) (hn:xs.length<=sizeLine)
  (hz:gh s.heap z TI TO .none) (hTI:b9 s.heap TI (.ref i1) (.ref i2)) (hTO:b9 s.heap TO oa ob) (h1:s.heap.IsTupleIter i1 p1 0) (h2:s.heap.IsTupleIter i2 p2 0) (t1:s.heap.IsTuple p1 xs.toArray) (t2:s.heap.IsTuple p2 ys.toArray) (hS:s.heap.get? S=some { cls := .type "list",data := .seq #[] })
  (hR:∀ (h':Heap) (tk:Nat) (acc:Array Α) (c:Nat) (as:List Addr),(∀ b o,b∉[S,z,TO,i1,i2]->s.heap.get? b=some o->h'.get? b=some o)->h'.get? S=some { cls := .type "list",dict:=none,data := .seq acc c,slots:=#[] }->acc.toList=as.map Ω->rE xs ys (S+1) h' as->R (.ok (.ret .none)) { s with heap:=h',toks:=tk }) :
  Κ (Ο prog w) A.in1 (Builtin.«list.__init__» ⟨[.ref S,.ref z],[]⟩)
   (fun fin s'=>match fin with | .done f=>R (.ok f) s' | .again c'=>c'.quiet=true/\d6 (Ο prog w) A c' R s') (fun e s'=>R (.error e) s') s:=by
 show Κ _ _ (do let old <- Builtin.List.listItems (.ref S);Builtin.List.listUpdate (.ref S) (fun _=>#[]);letGo old.toList.reverse;eQ (.ref S) (.ref z) .none) _ _ s
 refine Β ?_;unfold Builtin.List.listItems;refine Β (b8 hS rfl (Μ ?_))
 show Κ _ _ (updateSeq S (fun _=>#[]) >>= fun _=>letGo (#[]:Array Α).toList.reverse >>= fun _=>eQ (.ref S) (.ref z) .none) _ _ s
 refine Β (kA hS rfl ?_);have hS₂:=br (d4 (fun _=>(#[]:Array Α))) hS rfl;have oth:∀ b o,b≠S->s.heap.get? b=some o->(s.heap.update S (d4 (fun _=>(#[]:Array Α)))).get? b=some o :=
  fun b o hb e=>(c8 _ _ (ah hb)).trans e
 have m:∀ {b:Addr},b<S->∀ o,s.heap.get? b=some o->(s.heap.update S (d4 (fun _=>(#[]:Array Α)))).get? b=some o:=fun {b} hb o e=>oth b o (ν hb) e
 refine Β (wpAny_letGo ?_);refine Oo (oa:=oa) (ob:=ob) (xs:=xs) (ys:=ys) hh D hlt n1 n2 hl hn .none _ (m hlt.1 _ hz) (m hlt.2.1 _ hTI) (m hlt.2.2.1 _ hTO) ?_ ?_ ?_ ?_ hS₂ (fun h' tk acc c as hk hS' hacc hG=>?_)
 ·obtain ⟨o,e,r⟩:=h1;exact ⟨o,m hlt.2.2.2.1 _ e,r⟩
 ·obtain ⟨o,e,r⟩:=h2;exact ⟨o,m hlt.2.2.2.2.1 _ e,r⟩
 ·obtain ⟨o,e,r⟩:=t1;exact ⟨o,m hlt.2.2.2.2.2.1 _ e,r⟩
 ·obtain ⟨o,e,r⟩:=t2;exact ⟨o,m hlt.2.2.2.2.2.2 _ e,r⟩
 ·exact hR h' tk acc c as (fun b o hb e=>hk b o hb (oth b o (fun q=>hb (by simp [q])) e)) hS' hacc hG
theorem QC {Q:Α->Δ->Prop} {oa ob:Α} (hh:A.handled=none) (D:cM z TI TO i1 i2) (n1:p1∉[z,TO,i1,i2]) (n2:p2∉[z,TO,i1,i2]) (hl:xs.length=ys.length) (hn:xs.length<=sizeLine)
  (hz:gh s.heap z TI TO .none) (hTI:b9 s.heap TI (.ref i1) (.ref i2)) (hTO:b9 s.heap TO oa ob) (h1:s.heap.IsTupleIter i1 p1 0) (h2:s.heap.IsTupleIter i2 p2 0) (t1:s.heap.IsTuple p1 xs.toArray) (t2:s.heap.IsTuple p2 ys.toArray)
  (hQ:∀ (h':Heap) (tk:Nat) (acc:Array Α) (c:Nat) (as:List Addr),(∀ b o,b∉[z,TO,i1,i2]->s.heap.get? b=some o->h'.get? b=some o)->h'.get? s.heap.objs.size=some { cls := .type "list",dict:=none,data := .seq acc c,slots:=#[] }->acc.toList=as.map Ω->rE xs ys (s.heap.objs.size+1) h' as->Q (.ref s.heap.objs.size) { s with heap:=h',toks:=tk }) :
  Κ (Ο prog w) A (call (.type "list") [.ref z]) Q E s:=by
 refine callType_codes (Q₁:=fun obj s₁=>obj = .ref s.heap.objs.size/\s₁={ s with heap:=s.heap.push { cls := .type "list",data := .seq #[] } }) F.called_list (F.typeCall_list_1 _) F.entry_list_init
  (code_list_new _ ⟨rfl,rfl⟩) fun obj s₁ h₁=>?_
 obtain ⟨rfl,rfl⟩:=h₁;have hS:(s.heap.push { cls := .type "list",data := .seq #[] }).get? s.heap.objs.size=some { cls := .type "list",data := .seq #[] }:=δ _ rfl;obtain ⟨o1,e1,r1⟩:=h1;obtain ⟨o2,e2,r2⟩:=h2;obtain ⟨o3,e3,r3⟩:=t1;obtain ⟨o4,e4,r4⟩:=t2;refine ⟨⟨_,hS,rfl⟩,F.args_list_init_2 _ _,Oq (oa:=oa) (ob:=ob) (xs:=xs) (ys:=ys) (A:=A.in1) hh D ⟨Ν hz,Ν hTI,Ν hTO,Ν e1,Ν e2,Ν e3,Ν e4⟩ n1 n2 hl hn
  (Ε _ hz) (Ε _ hTI) (Ε _ hTO) ⟨_,Ε _ e1,r1⟩ ⟨_,Ε _ e2,r2⟩ ⟨_,Ε _ e3,r3⟩ ⟨_,Ε _ e4,r4⟩ hS (fun h' tk acc c as hk hS' hacc hG=>?_)⟩
 exact ⟨rfl,hQ h' tk acc c as (fun b o hb e=>hk b o (fun q=>hb (by
  rcases Υ.mp q with q | q
  ·exact absurd (Ν e) (by rw [q];exact aS _)
  ·exact q)) (Ε _ e)) hS' hacc hG⟩
end
end L2
namespace L2
open PySem PySem.Spec PyProof.Rows
section
variable {X:Cx} {pins:List (Addr×Obj)} {σ:St} {H H':Hp} {s:Δ} {h':Heap}
theorem Inv.vf {t':Nat} {ch:List Addr} (I:Inv X pins σ H s) (k:∀ b o,b∉ch->s.heap.get? b=some o->h'.get? b=some o) (hf:∀ b∈ch,Wb X pins H b) (up:∀ b u,H b=some u->H' b=some u)
  (nw:∀ b u,H' b=some u->H b=none->s.heap.objs.size<=b/\YK X.prog X.w H' h' b u):Inv X pins σ H' { s with heap:=h',toks:=t' }:=by
 have f9:∀ b u,H b=some u->b∉ch:=fun b u e z=>by rw [(hf b z).1] at e;cases e
 refine I.step (g':=s.gens) (d':=s.drawn) (ch:=ch) (fun b hb=>?_) (fun b o _ _ hc e _=>k b o hc e) (fun b o _ _ hc e _=>⟨o.slots,k b o hc e⟩) (fun b o _ e n=>?_)
  (fun b o hc e=>⟨o,k b o hc e⟩) (fun b xs e=>up b _ e) (fun b o u e=>up b _ e) (fun b ps e=>⟨#[],by rw [up b _ e];simp⟩) (fun m hm=>?_) (fun b u e=>?_) I.bare
 ·obtain ⟨f0,f1,f2,f3,f4,f5⟩:=hf b hb
  exact ⟨f3,f1,f4,f5⟩
 ·cases q:H' b with
  | none=>rfl
  | some u=>exact absurd (Ν e) (Nat.not_lt.mpr (nw b u q n).1)
 ·obtain ⟨o,es,ep,ho,r⟩:=hm
  exact ⟨o,es,ep,k _ o (fun z=>(hf _ z).2.1 rfl) ho,r⟩
 ·cases q:H b with
  | none=>exact (nw b u e q).2
  | some v =>
   have q':=up b v q;rw [e] at q'
   cases q'
   refine (I.hok b u q).stay (fun c v hc q3=>k c v ?_ q3) (fun c q=>up c _ q) fun c xs q=>up c _ q
   rcases hc with z | z
   ·rw [z];exact f9 b u q
   ·exact f9 c _ z
end
theorem Vt {β:Type}:∀ (as:List Addr) (ps:List β) (j:Nat) (a:Addr) (p:β),as.Pairwise (·<·)->as[j]?=some a->ps[j]?=some p->(as.zip ps).lookup a=some p
 | [],_,j,a,p,_,h,_=>by simp at h
 | _::_,[],j,a,p,_,_,h=>by simp at h
 | b::as,q::ps,0,a,p,_,h1,h2=>by
  simp only [eA,gi] at h1 h2;subst h1;subst h2;simp [di]
 | b::as,q::ps,j+1,a,p,hp,h1,h2=>by
  simp only [List.getElem?_cons_succ] at h1 h2;obtain ⟨g1,g2⟩:=List.pairwise_cons.mp hp;have hlt:b<a:=g1 a (Τ h1);have hne:(a==b)=false:=by simpa using du hlt
  simp only [b0,di,hne];exact Vt as ps j a p g2 h1 h2
theorem Wz {β:Type}:∀ (as:List Addr) (ps:List β) (a:Addr) (p:β),(as.zip ps).lookup a=some p->∃ j:Nat,as[j]?=some a/\ps[j]?=some p
 | [],_,a,p,h=>by simp at h
 | _::_,[],a,p,h=>by simp at h
 | b::as,q::ps,a,p,h=>by
  simp only [b0,di] at h;by_cases e:a=b
  ·subst e
   simp only [beq_self_eq_true,gi] at h;exact ⟨0,by simp,by simp [h]⟩
  ·have hne:(a==b)=false:=by simpa using e
   simp only [hne] at h;obtain ⟨j,h1,h2⟩:=Wz as ps a p h;exact ⟨j+1,by simpa using h1,by simpa using h2⟩
section
variable {X:Cx}
def wN (K:Λ) (ta:TA):TE:=fun σ H Q=>ta σ H fun vs H1=>∃ a b xs ys,vs=[.ref a,.ref b]/\aA K H1 a xs/\aA K H1 b ys/\xs.length=ys.length /\
 ∀ (l:Addr) (as:List Addr) (H2:Hp),H1 l=none->Yd H1 H2->H2 l=some (.lst (as.map V.ref))->as.length=xs.length ->
  (∀ (j:Nat) a x y,as[j]?=some a->xs[j]?=some x->ys[j]?=some y->H1 a=none/\H2 a=some (.tup [x,y]))->Q (.ref l) H2
theorem Qq:∀ as:List Addr,Ym (as.map V.ref) (as.map Ω)
 | [] => .nil
 | _::as => .cons rfl (Qq as)
theorem Eu:∀ {xs:List V} {us:List Α},Ym xs us->∀ {j:Nat} {x:V},xs[j]?=some x->∃ u,us[j]?=some u/\Yx x u:=by
 intro xs us h
 induction h with
 | nil=>intro j x e;simp at e
 | cons r _ ih =>
  intro j x e
  cases j with
  | zero=>simp only [eA,gi] at e;subst e;exact ⟨_,rfl,r⟩
  | succ j=>simpa using ih (by simpa using e)
theorem Ot {a b:Expr} {ta:TA} {p q pos pos':Pos} (Ou:Gl X "list") (hml:X.mg "list"=none) (hg:Gl X "zip") (hm:X.mg "zip"=none) (ha:PA X [a,b] ta) (hc:X.calm=true)
  (hs:Χ [a,b] X.env=[(false,eval a X.env),(false,eval b X.env)]) (hs2:Χ [b] X.env=[(false,eval b X.env)]) :
  PE X (.Call (.Name "list" p) [.Call (.Name "zip" q) [a,b] [] pos'] [] pos) (wN X.K ta):=by
 intro pins s σ H Q I h;refine cS (X8 I Ou hml boot_list ?_);refine cw ?_
 show Κ _ _ (spliced ((false,eval (.Call (.Name "zip" q) [a,b] [] pos') X.env)::[])) _ _ s
 refine Calls.spliced_cons ?_;refine cS (X8 I hg hm boot_zip (cw (aD (ha pos' pins s σ H _ I h) fun us s1 ⟨vs,H1,I1,r1,q1⟩=>?_) (by rw [hs,hs2]) (by rw [hs2];rfl)));obtain ⟨x,y,xs,ys,e,hx,hy,hl,q⟩:=q1;subst e;obtain ⟨u,v,rfl,ru,rv⟩:=r1.two
 cases ru
 cases rv
 obtain ⟨i1,w1,ht1,z1⟩:=I1.tuple hx;obtain ⟨i2,w2,fU,z2⟩:=I1.tuple hy;have l1:x<s1.heap.objs.size:=by obtain ⟨_,e,_⟩:=ht1;exact Ν e
 have l2:y<s1.heap.objs.size:=by obtain ⟨_,e,_⟩:=fU;exact Ν e
 refine Qm (Vs ht1) (Vs fU) rfl rfl fun h1 hz hTI hTO g1 g2 hsz keep=>?_
 refine Calls.spliced_nil ?_;have I2:Inv X pins σ H1 { s1 with heap:=h1 }:=I1.kept (t':=s1.toks) keep;have n1:x∉[s1.heap.objs.size+4,s1.heap.objs.size+3,s1.heap.objs.size,s1.heap.objs.size+1]:=by
  intro hm;simp only [Υ,ι,or_false] at hm;rcases hm with e | e | e | e<;>(have e':@Eq Nat _ _:=e;have wF:@LT.lt Nat _ x s1.heap.objs.size:=l1;omega)
 have n2:y∉[s1.heap.objs.size+4,s1.heap.objs.size+3,s1.heap.objs.size,s1.heap.objs.size+1]:=by
  intro hm;simp only [Υ,ι,or_false] at hm;rcases hm with e | e | e | e<;>(have e':@Eq Nat _ _:=e;have wF:@LT.lt Nat _ y s1.heap.objs.size:=l2;omega)
 have t1:h1.IsTuple x i1.toArray:=by obtain ⟨o,e,r⟩:=ht1;exact ⟨o,keep _ _ e,r⟩
 have t2:h1.IsTuple y i2.toArray:=by obtain ⟨o,e,r⟩:=fU;exact ⟨o,keep _ _ e,r⟩
 have e1:=w1.length;have e2:=w2.length;refine QC (s:={ s1 with heap:=h1 }) (xs:=i1) (ys:=i2) (I2.ok.hd hc) (Us s1.heap.objs.size) n1 n2 (by omega) (by omega) hz hTI hTO ⟨_,g1,rfl,rfl⟩ ⟨_,g2,rfl,rfl⟩ t1 t2 fun h' tk acc c as kp hS hacc hG=>?_
 let H2:Hp:=fun b=>if b=h1.objs.size then some (.lst (as.map V.ref)) else match (as.zip (xs.zip ys)).lookup b with | some p=>some (.tup [p.1,p.2]) | none=>H1 b
 have fr:∀ b,h1.objs.size<=b->H1 b=none:=fun b hb=>I2.hok.fresh hb
 have old:∀ b u,H1 b=some u->b<h1.objs.size:=fun b u e=>Nat.lt_of_not_le fun hb=>by rw [fr b hb] at e;cases e
 have lk:∀ b p,(as.zip (xs.zip ys)).lookup b=some p->h1.objs.size+1<=b:=fun b p e=>by
  obtain ⟨j,h1,_⟩:=Wz _ _ _ _ e;exact hG.above b (Τ h1)
 have up:∀ b u,H1 b=some u->H2 b=some u:=fun b u e=>by
  have hb:=old b u e
  show (if b=h1.objs.size then _ else _)=_
  rw [if_neg (ν hb)]
  cases e':(as.zip (xs.zip ys)).lookup b with
  | none=>exact e
  | some p=>exact absurd (Nat.lt_of_succ_le (lk b p e')) (Nat.not_lt.mpr (gy hb))
 have Ov:∀ (j:Nat) a x y,as[j]?=some a->xs[j]?=some x->ys[j]?=some y->H2 a=some (.tup [x,y]):=fun j a x y h1' h2 h3=>by
  have ha:h1.objs.size+1<=a:=hG.above a (Τ h1')
  show (if a=h1.objs.size then _ else _)=_
  have Ow:(xs.zip ys)[j]?=some (x,y):=dm.mpr ⟨h2,h3⟩;rw [if_neg (du (Nat.lt_of_succ_le ha)),Vt as (xs.zip ys) j a (x,y) hG.rise h1' Ow]
 have hS2:H2 h1.objs.size=some (.lst (as.map V.ref)):=if_pos rfl;have hlen:as.length=xs.length:=by rw [hG.len];omega
 have I3:Inv X pins σ H2 { s1 with heap:=h',toks:=tk }:=by
  refine I2.vf (s:={ s1 with heap:=h1 }) (ch:=[s1.heap.objs.size+4,s1.heap.objs.size+3,s1.heap.objs.size,s1.heap.objs.size+1]) kp (fun b hb=>?_) up (fun b u e hn=>?_)
  ·have hle:s1.heap.objs.size<=b:=by
    simp only [Υ,ι,or_false] at hb;rcases hb with e | e | e | e<;>(have e':@Eq Nat _ _:=e;show @LE.le Nat _ s1.heap.objs.size b;omega)
   exact I1.fB hle (I1.hok.fresh hle)
  ·by_cases hb:b=h1.objs.size
   ·subst hb
    rw [hS2] at e
    cases e
    refine ⟨Φ _,(by rw [Ζ];omega),as.map Ω,c,Qq as,?_⟩;rw [<- hacc];exact hS
   ·have e0:(match (as.zip (xs.zip ys)).lookup b with | some p=>some (HO.tup [p.1,p.2]) | none=>H1 b)=some u:=by
     have:H2 b=_:=if_neg hb;rw [<- this];exact e
    cases e':(as.zip (xs.zip ys)).lookup b with
    | none=>rw [e'] at e0;rw [hn] at e0;cases e0
    | some p =>
     rw [e'] at e0
     cases e0
     refine ⟨Nat.le_of_succ_le (lk b p e'),(show (2:Nat)<=sizeLine by decide),?_⟩;obtain ⟨j,j1,j2⟩:=Wz _ _ _ _ e';obtain ⟨k1,k2⟩:=dm.mp j2;obtain ⟨u1,f1,r1⟩:=Eu w1 k1;obtain ⟨u2,f2,r2⟩:=Eu w2 k2;exact ⟨[u1,u2],.cons r1 (.cons r2 .nil),⟨_,hG.pairs j b u1 u2 j1 f1 f2,rfl,_,rfl⟩⟩
 exact ⟨.ref h1.objs.size,H2,I3,rfl,q _ as H2 (fr _ (Φ _)) up hS2 hlen fun j a x y k1 k2 k3=>⟨fr a (Nat.le_of_succ_le (hG.above a (Τ k1))),Ov j a x y k1 k2 k3⟩⟩
end
section
variable {src:List (Option Nat)} {te:TE} {σ:St} {H:Hp} {Q:VK}
theorem Ox {J:It} {P:Hp->Prop} {xs:List V} (hJ:XZ J P xs) {H1:Hp} {D:Addr} (ts:List (List V)) (hP:∀ H',Yd H1 H'->P H') (hD:H1 D=none) (hl:ts.length=xs.length) (hlen:xs.length<=100000)
  (step:∀ (i:Nat) x t H',xs[i]?=some x->ts[i]?=some t->Yd H1 H'->∀ R:VK,(∀ a aF,Yd H' aF->aF a=some (.tup t)->R (.ref a) aF)->te (some x::YG src σ) H' R)
  (fin:∀ (as:List Addr) H',Yd H1 H'->H' D=some (.lst (as.map V.ref))->as.length=xs.length->(∀ (j:Nat) a t,as[j]?=some a->ts[j]?=some t->H' a=some (.tup t))->Q (.ref D) H'):LC (none::src) J (YF 0) Xy te σ H1 Q D:=by
 have h6:100000<sizeLine:=by decide
 refine Ut hJ (fun i zs σ' H'=>∃ as:List Addr,zs=as.map V.ref/\as.length=i/\(∃ o,σ'=o::YG src σ)/\Yd H1 H'/\H' D=some (.lst zs)/\∀ (j:Nat) a t,as[j]?=some a->ts[j]?=some t->H' a=some (.tup t))
  ⟨[],rfl,rfl,⟨none,rfl⟩,.aj hD _,Yb,fun j a t h=>by simp at h⟩ (fun i zs σ' H' ⟨as,_,_,_,p1,p2,_⟩=>⟨hP _ p1,p2⟩) (Wd 0) ?_ ?_
 ·rintro i zs σ' H' x hx ⟨as,rfl,hi',⟨o,rfl⟩,sm,hd,hts⟩
  have hi:=(Ι.mp hx).1;have ht:ts[i]?=some (ts[i]'(by omega)):=Η _
  show te (some x::YG src σ) H' _
  refine step i x _ H' hx ht sm _ fun a aF s2 ha=>⟨s2 _ _ hd,by rw [Ζ];omega,as++[a],by simp,by simp [hi'],⟨_,rfl⟩,.bC hD (sm.trans s2) _,Yb,fun j b t hj hjt=>?_⟩
  have key:aF b=some (.tup t):=by
   rcases Nat.lt_trichotomy j as.length with h1 | h1 | h1
   ·rw [ar h1] at hj
    exact s2 _ _ (hts j b t hj hjt)
   ·have hb:a=b:=by subst h1;simpa using hj
    subst hb;rw [h1,hi'] at hjt
    rw [ht] at hjt
    cases hjt
    exact ha
   ·rw [ef (by rw [Ρ,aa];omega)] at hj;cases hj
  rw [Ye (YW key (s2 _ _ hd) (by intro z;cases z))];exact key
 ·rintro zs σ' H' ⟨as,rfl,hn,_,sm,hd,hts⟩
  exact fin as H' sm hd hn hts
theorem Ew {K:Λ} {tl:TE} {xs:List V} (ts:List (List V)) (ha:∀ R:V->Hp->Prop,(∀ a H1,Yd H H1->ao K H1 a xs->R (.ref a) H1)->tl σ H R) (hl:ts.length=xs.length) (hlen:xs.length<=100000)
  (step:∀ (i:Nat) x t H',xs[i]?=some x->ts[i]?=some t->Yd H H'->∀ R:VK,(∀ a aF,Yd H' aF->aF a=some (.tup t)->R (.ref a) aF)->te (some x::YG src σ) H' R)
  (fin:∀ D (as:List Addr) H',H D=none->Yd H H'->H' D=some (.lst (as.map V.ref))->as.length=xs.length->(∀ (j:Nat) a t,as[j]?=some a->ts[j]?=some t->H' a=some (.tup t))->Q (.ref D) H'):eX (none::src) (Wc K tl) (YF 0) Xy te σ H Q :=
 ha _ fun a H1 s1 hS=>⟨a,rfl,⟨xs,hS⟩,fun D hD=>Ox (XT.imp fun H' (e:Yd H1 H')=>e.seq hS) ts (fun _ e=>e) hD hl hlen (fun i x t H' hx ht sm R r=>step i x t H' hx ht (s1.trans sm) R r) fun as H' sm=>fin D as H' (s1.free hD) (s1.trans sm)⟩
end
def YI {α:Type}:Sem α->Prop
 | .pure _=>True
 | .raise _=>True
 | .unsupported _=>True
 | .rule _ k=>YI (k ())
 | .at _ k=>YI (k ())
 | .load _ _ k=>∀ o,YI (k o)
 | .update _ _ f k=>(∀ o:Obj,(f o).dict=o.dict/\(f o).isFreed=o.isFreed)/\YI (k ())
 | .alloc _ k=>∀ a,YI (k a)
 | .stack k=>∀ x,YI (k x)
 | _=>False
def Xv (h:Heap) (e:Addr) (dc:Option Addr):Prop:=∃ o,h.get? e=some o/\o.dict=dc
theorem Oz {α β:Type} {f:α->Sem β} (m:Sem α):YI m->(∀ a,YI (f a))->YI (m.bind f):=by
 induction m with
 | pure a=>intro _ hf;exact hf a
 | raise e=>intro _ _;simp only [jS,YI]
 | unsupported e=>intro _ _;simp only [jS,YI]
 | rule n k ih=>intro h hf;simp only [YI] at h;simp only [jS,YI];exact ih () h hf
 | «at» n k ih=>intro h hf;simp only [YI] at h;simp only [jS,YI];exact ih () h hf
 | load a b k ih=>intro h hf;simp only [YI] at h;simp only [jS,YI];exact fun o=>ih o (h o) hf
 | update a b g k ih=>intro h hf;simp only [YI] at h;simp only [jS,YI];exact ⟨h.1,ih () h.2 hf⟩
 | alloc a k ih=>intro h hf;simp only [YI] at h;simp only [jS,YI];exact fun o=>ih o (h o) hf
 | stack k ih=>intro h hf;simp only [YI] at h;simp only [jS,YI];exact fun o=>ih o (h o) hf
 | _=>intro h;simp only [YI] at h
theorem OD {M:Model} {Γ:PySem.Ctx} {α:Type} {Q:α->Pos->Δ->Prop} {E:Α->Pos->Δ->Prop} {e:Addr} {dc:Option Addr} (t:Sem α):YI t->∀ (p:Pos) (s:Δ),jn M Γ t Q E p s->Xv s.heap e dc->jn M Γ t (fun a p s'=>Q a p s'/\Xv s'.heap e dc) (fun v p s'=>E v p s'/\Xv s'.heap e dc) p s:=by
 induction t with
 | pure a=>intro _ p s h d;simp only [jn] at h ⊢;exact ⟨h,d⟩
 | raise a=>intro _ p s h d;simp only [jn] at h ⊢;exact ⟨h,d⟩
 | unsupported a=>intro _ p s h d;simp only [jn] at h
 | rule n k ih=>intro t p s h d;simp only [YI] at t;simp only [jn] at h ⊢;exact ih () t p s h d
 | «at» n k ih=>intro t p s h d;simp only [YI] at t;simp only [jn] at h ⊢;exact ih () t n s h d
 | load a b k ih=>intro t p s h d;simp only [YI] at t;simp only [jn] at h ⊢;obtain ⟨o,h1,h2⟩:=h;exact ⟨o,h1,ih o (t o) p s h2 d⟩
 | update a b f k ih =>
  intro t p s h d;simp only [YI] at t;simp only [jn] at h ⊢;obtain ⟨o,d1,d2⟩:=d;refine ⟨h.1,ih () t.2 p _ h.2 ?_⟩;by_cases c:a=e
  ·subst c
   exact ⟨f o,br f d1 (by rw [(t.1 o).2];exact (Heap.get?_some_iff.mp d1).2),by rw [(t.1 o).1];exact d2⟩
  ·exact ⟨o,(c8 _ _ c).trans d1,d2⟩
 | alloc a k ih=>intro t p s h d;simp only [YI] at t;simp only [jn] at h ⊢;obtain ⟨o1,d1,d2⟩:=d;exact ih _ (t _) p _ h ⟨o1,Ε _ d1,d2⟩
 | stack k ih=>intro t p s h d;simp only [YI] at t;simp only [jn] at h ⊢;exact ih _ (t _) p s h d
 | _=>intro t;simp only [YI] at t
theorem Wk {M:Model} {A:ζ} {α:Type} {t:Sem α} {Q:α->Δ->Prop} {E:Α->Δ->Prop} {s:Δ} {e:Addr} {dc:Option Addr} (T:YI t) (d:Xv s.heap e dc) (h:Κ M A t Q E s):Κ M A t (fun a s'=>Q a s'/\Xv s'.heap e dc) (fun v s'=>E v s'/\Xv s'.heap e dc) s :=
 fun Γ p hΓ=>OD t T p s (h Γ p hΓ) d
theorem YR {α β:Type} {m:Sem α} {f:α->Sem β} (h:YI m) (hf:∀ a,YI (f a)):YI (m >>= f):=Oz m h hf
theorem Vd {α:Type} (a:α):YI (pure a:Sem α):=trivial
theorem OJ {α:Type} (x:String):YI (unsupported x:Sem α):=trivial
theorem O1:YI stack:=fun _=>trivial
theorem O2 (a:Addr) (f:Obj->Obj) (h:∀ o:Obj,(f o).dict=o.dict/\(f o).isFreed=o.isFreed):YI (update a f):=⟨h,trivial⟩
theorem QD (v:Α):YI (fieldsOf v):=by
 unfold fieldsOf
 cases v<;>first | trivial | skip
 refine YR (fun o=>trivial) fun o=>?_
 cases o.data<;>trivial
theorem WD (v:Α) (i:Nat):YI (fE v i):=by
 unfold fE;refine YR (QD v) fun vs=>?_
 cases vs[i]?<;>trivial
theorem JF (f:Array Α->Array Α) (o:Obj):(Obj.mapFields f o).dict=o.dict/\(Obj.mapFields f o).isFreed=o.isFreed:=by
 obtain ⟨c,d,dt,sl⟩:=o
 cases dt<;>exact ⟨rfl,rfl⟩
theorem Ub (a:Addr) (i:Nat) (v:Α):YI (updateField a i v):=by
 unfold updateField;refine YR (fun o=>trivial) fun o=>?_
 cases o.data with
 | fields vs =>
  dsimp only
  split
  ·exact ⟨JF _,trivial⟩
  ·trivial
 | _=>trivial
theorem X0 (v:Α) (i:Nat) (x:Α):YI (setField v i x):=by
 unfold setField
 cases v<;>first | trivial | exact Ub _ _ _
theorem Wl (v:Α) (f:Option Addr):YI (setFlight v f):=by
 unfold setFlight;refine YR (WD _ _) fun tb=>?_
 split
 ·exact X0 _ _ _
 ·trivial
theorem QE (env:Env) (b:Bool) (l:List Env):YI (keptBack env b l):=by
 cases l with
 | nil =>
  rw [keptBack];by_cases c:(env.scope.isGenerator||env.scope.isCoroutine)=true
  ·rw [if_pos c];exact Vd _
  ·rw [if_neg c]
   refine YR ?_ fun x=>Vd _
   unfold underTheClaimsCaller;exact YR O1 fun x=>Vd _
 | cons x r=>rw [keptBack];exact Vd _
theorem Uv:∀ l:List Env,YI (readyFrames l)
 | []=>trivial
 | env::outer=>by
  unfold readyFrames
  cases env.frame with
  | none=>trivial
  | some f =>
   dsimp only;refine YR (fun o=>trivial) fun o=>?_
   split
   ·trivial
   ·refine YR ?_ fun b=>YR (QE _ _ _) fun k=>YR (O2 _ _ fun o=>by obtain ⟨c,d,dt,sl⟩:=o;cases dt<;>exact ⟨rfl,rfl⟩) fun _=>Uv outer
    unfold behindIsImport
    split
    ·trivial
    ·split
     ·trivial
     ·exact YR (WD _ _) fun x=>trivial
theorem VD (env:Env):YI (PySem.frameOf env):=by
 unfold PySem.frameOf frameEnvs;refine YR (YR (fun x=>trivial) fun x=>trivial) fun l=>?_
 generalize l.dropWhile _=l';refine YR ?_ fun r=>?_
 ·cases l' with
  | nil=>trivial
  | cons x r =>
   unfold frameObject;exact YR (Uv _) fun _=>trivial
 ·cases r<;>trivial
theorem UU (ty:String) (vs:List Α):YI (newFields ty vs):=by
 unfold newFields newObj;dsimp only
 split
 ·exact YR (OJ _) fun _=>YR (fun _=>trivial) fun _=>Vd _
 ·exact YR (m:=alloc _) (fun _=>trivial) fun _=>Vd _
theorem Vu (a b c d e:Α) (pl:List Α):YI (EntryCells.newEntry a b c d e pl):=UU _ _
theorem Uw (f:Addr) (b:Bool):YI (entryPlaceOf f b):=by
 unfold entryPlaceOf;refine YR (fun x=>trivial) fun l=>?_
 split<;>trivial
theorem Ve (e:Α) (env:Env):YI (noteFrame e env):=by
 unfold noteFrame
 cases env.frame with
 | none=>trivial
 | some f =>
  dsimp only;refine YR (WD _ _) fun hd=>?_
  split
  ·refine YR (WD _ _) fun x=>?_
   split
   ·trivial
   ·exact YR (X0 _ _ _) fun _=>YR (VD _) fun _=>YR (Uw _ _) fun _=>YR (Vu _ _ _ _ _ _) fun _=>X0 _ _ _
  ·exact YR (VD _) fun _=>YR (Uw _ _) fun _=>YR (Vu _ _ _ _ _ _) fun _=>X0 _ _ _
theorem WL (env:Env) (e:Α):YI (leaving env e):=by
 unfold leaving;exact YR (Ve _ _) fun _=>Wl _ _
structure cF (P:Ψ) (w:θ) (l:List Env) (H:Hp) (h:Heap) (e:Addr) (cls:Α) (H':Hp) (h' B:Heap):Prop where
 fl:∃ a0,lr B l e cls a0 h'
 hok:bA P w H' B
 keep:∀ b o,h.get? b=some o->H b=none->b∉frs l->B.get? b=some o
 slot:∀ b o,h.get? b=some o->H b=none->b∈frs l->∃ sl,h'.get? b=some { o with slots:=sl }
 al:∀ b o,h.get? b=some o->b∉frs l->∃ o',B.get? b=some o'
 free:∀ b o,h.get? b=some o->H b=none->H' b=none
 tups:∀ b xs,H b=some (.tup xs)->H' b=some (.tup xs)
 bB:∀ b o u,H b=some (.bR o u)->H' b=some (.bR o u)
 bW:∀ b ps,H b=some (.aH ps)->∃ more,H' b=some (.aH (ps++more))
section
variable {P:Ψ} {w:θ} {l:List Env} {H H':Hp} {h h' h'' B:Heap} {e:Addr} {cls:Α}
theorem cF.un (F:cF P w l H h e cls H' h' B) (hf:∀ b∈frs l,H b=none):Un (frs l) [] H H' h h':=by
 obtain ⟨a0,fl⟩:=F.fl;refine ⟨fun b o q n hb _=>fl.1 b o (F.keep b o q n hb),fun b o q n hb _=>F.slot b o q n hb,fun b o q n _=>F.free b o q n,fun b o q _=>?_,F.tups,F.bB,F.bW⟩;by_cases hb:b∈frs l
 ·obtain ⟨sl,z⟩:=F.slot b o q (hf b hb) hb
  exact ⟨_,z⟩
 ·obtain ⟨o',z⟩:=F.al b o q hb
  exact ⟨o',fl.1 b o' z⟩
theorem cF.held (F:cF P w l H h e cls H' h' B):bA P w H' h':=by
 obtain ⟨a0,fl⟩:=F.fl;exact F.hok.kept fl.1
theorem cF.on (F:cF P w l H h e cls H' h' B) (fl:∃ a0,lr B l e cls a0 h'') (nf:∀ b∈frs l,∀ o,h.get? b=some o->∀ vs,o.data ≠ .fields vs) (sm:h'.UpToSlots h''):cF P w l H h e cls H' h'' B :=
 ⟨fl,F.hok,F.keep,fun b o q n hb=>by
  obtain ⟨sl,z⟩:=F.slot b o q n hb;obtain ⟨sl',z'⟩:=sm b _ z (nf b hb o q);exact ⟨sl',z'⟩,F.al,F.free,F.tups,F.bB,F.bW⟩
end
section
variable {X:Cx} {pins:List (Addr×Obj)} {σ:St} {H H':Hp} {s s':Δ} {h' B:Heap} {e:Addr} {cls:Α} {M:Model} {A:ζ} {Q:Unit->Δ->Prop} {EE:Α->Δ->Prop}
theorem Inv.nD (I:Inv X pins σ H s) {b:Addr} {o:Obj} (q:X.s₀.heap.get? b=some o):b≠X.env.locals:=ν (τ (Ν q) I.ok.above)
theorem Inv.gk (I:Inv X pins σ H s) (hf:X.env.frame=some X.env.locals) {b:Addr} {o:Obj} (q:X.s₀.heap.get? b=some o) (n:b∉X.fs):b∉frs (X.env::X.outer):=fun z=>by
 unfold frs at z;rw [eI,hf] at z
 rcases Υ.mp z with z | z
 ·exact I.nD q z
 ·exact n z
theorem Inv.Bg (I:Inv X pins σ H s) (hf:X.env.frame=some X.env.locals) {b:Addr} (n:b∈X.fs):b∈frs (X.env::X.outer):=by
 unfold frs;rw [eI,hf];exact bS _ n
theorem Inv.nF {vs:List Α} (I:Inv X pins σ H s) (hs:X.stack=X.env::X.outer) (hf:X.env.frame=some X.env.locals) (hex:X.ex=[]) (hA:A.frames=some (X.env::X.outer)) (hm:kN s.heap h' e cls vs)
  (hQ:∀ h'' B,cF X.prog X.w X.outer X.H₀ X.s₀.heap e cls H h'' B->Xv h'' e none->Q () { s with heap:=h'' }):Κ M A (leaving X.env (.ref e)) Q EE { s with heap:=h' }:=by
 have nx:∀ b:Addr,b∉X.ex:=by
  rw [hex];intro b z
  cases z
 have st:=I.stack;have sf:=I.dN;rw [hs] at st sf
 have hd0:Xv h' e none:=by
  obtain ⟨t,he,_⟩:=hm.there;exact ⟨_,he,rfl⟩
 refine ω (Wk (WL _ _) (s:={ s with heap:=h' }) hd0 (wpAny_leaves_madeW (Q:=fun _ s'=>∃ h'',s'={ s with heap:=h'' }/\cF X.prog X.w X.outer X.H₀ X.s₀.heap e cls H h'' (im s.heap (frs (X.env::X.outer)))) (base:=im s.heap (frs (X.env::X.outer))) (h:=s.heap) hA hf (fun b o q=>PySem.W.of_hideAll _ q) (PySem.W.funFrames_hide st fun env he a ha=>iP.mpr ⟨env,he,ha⟩) hm fun h'' t x1 x2 x3 x4=>⟨h'',rfl,?_⟩)) (fun _ s' z=>by
  obtain ⟨⟨h'',rfl,F⟩,d⟩:=z;exact hQ h'' _ F d) fun _ _ z=>z.1
 refine ⟨⟨_,x1⟩,fun b u q=>?_,fun b o q n nb=>eB _ (I.base.keep b o q n nb (nx b)) (I.gk hf q nb),fun b o q n hb=>?_,fun b o q nb=>?_,fun b o q n=>I.base.free b o q n (nx b),I.base.tups,I.base.bB,I.base.bW⟩
 ·refine (I.hok b u q).stay (fun c v hc r=>eB _ r fun z=>?_) (fun _ z=>z) fun _ _ z=>z
  have n:=sf c z;rcases hc with rfl | hc
  ·rw [n] at q;cases q
  ·rw [n] at hc;cases hc
 ·obtain ⟨sl,e1⟩:=I.base.slot b o q n hb (nx b)
  obtain ⟨_,o',e',d⟩:=I.ok.cu.mem hb;rw [q] at e'
  cases e'
  obtain ⟨sl',e2⟩:=x4 b _ (hm.keeps b _ e1) d;exact ⟨sl',e2⟩
 ·obtain ⟨o',e1⟩:=I.base.there b o q (nx b)
  exact ⟨o',eB _ e1 (I.gk hf q nb)⟩
theorem Inv.rF (I:Inv X pins σ H s) (hs:X.stack=X.env::X.outer) (hf:X.env.frame=some X.env.locals) (hex:X.ex=[]) (hA:A.frames=some (X.env::X.outer)) (F:cF X.prog X.w X.stack H s.heap e cls H' s'.heap B) {dc:Option Addr} (hd:Xv s'.heap e dc)
  (hQ:∀ h'',cF X.prog X.w X.outer X.H₀ X.s₀.heap e cls H' h'' B->Xv h'' e dc->Q () { s' with heap:=h'' }):Κ M A (leaving X.env (.ref e)) Q EE s':=by
 have nx:∀ b:Addr,b∉X.ex:=by
  rw [hex];intro b z
  cases z
 rw [hs] at F
 obtain ⟨a0,fl⟩:=F.fl;refine ω (Wk (WL _ _) hd (wpAny_leaves_onW (Q:=fun _ s2=>∃ h'',s2={ s' with heap:=h'' }/\cF X.prog X.w X.outer X.H₀ X.s₀.heap e cls H' h'' B) hA hf fl fun h'' x1 x2=>⟨h'',rfl,?_⟩)) (fun _ s2 z=>by
  obtain ⟨⟨h'',rfl,F⟩,d⟩:=z;exact hQ h'' F d) fun _ _ z=>z.1
 refine ⟨⟨_,x1⟩,F.hok,fun b o q n nb=>F.keep b o (I.base.keep b o q n nb (nx b)) (I.base.free b o q n (nx b)) (I.gk hf q nb),fun b o q n hb=>?_,fun b o q nb=>?_,fun b o q n=>?_,fun b xs q=>F.tups b xs (I.base.tups b xs q),fun b o u q=>F.bB b o u (I.base.bB b o u q),fun b ps q=>?_⟩
 ·obtain ⟨sl,e1⟩:=I.base.slot b o q n hb (nx b)
  obtain ⟨sl1,e2⟩:=F.slot b _ e1 (I.base.free b o q n (nx b)) (I.Bg hf hb);obtain ⟨_,o',e',d⟩:=I.ok.cu.mem hb;rw [q] at e'
  cases e'
  obtain ⟨sl',e3⟩:=x2 b _ e2 d;exact ⟨sl',e3⟩
 ·obtain ⟨o',e1⟩:=I.base.there b o q (nx b)
  exact F.al b o' e1 (I.gk hf q nb)
 ·obtain ⟨o',e1⟩:=I.base.there b o q (nx b)
  exact F.free b o' e1 (I.base.free b o q n (nx b))
 ·obtain ⟨m1,e1⟩:=I.base.bW b ps q
  obtain ⟨m2,e2⟩:=F.bW b _ e1;exact ⟨m1++m2,by rw [e2,Array.append_assoc]⟩
end
def fV (P:Ψ) (w:θ):dO:=fun l H s E e s'=>∃ (a:Addr) (cls:Α) (H':Hp) (B:Heap) (dc:Option Addr),e = .ref a/\s'.os=s.os/\hU s'.gens/\cF P w l H s.heap a cls H' s'.heap B/\Xv s'.heap a dc/\E cls dc H'
abbrev Gx.cH (g:Gx) (N:List Str) (qual:Str) (st:Stmt) (f:Addr) (cdv:Α) (A:ζ) (outer:List Env) (s:Δ) (H:Hp) (E:XK):Cx:=Wh (fV g.P g.w) g.P g.w g.K g.mg g.base N qual (Yh st) f cdv A outer s H E
section
variable {g:Gx} {N:List Str} {qual:Str} {st:Stmt} {f:Addr} {cdv:Α} {A:ζ} {outer:List Env} {s:Δ} {H:Hp} {E:XK}
theorem Ux:XX (fV g.P g.w) (g.cH N qual st f cdv A outer s H E) E:=by
 intro pins σ H1 s1 e s' I hq;obtain ⟨a,cls,H',B,dc,he,os,bare,F,hd,q⟩:=hq;subst he;exact I.rF rfl rfl rfl I.ok.frames F hd fun h'' F' hd'=>⟨a,cls,H',B,dc,rfl,os.trans I.os,bare,F',hd',q⟩
def Ey (X:Cx) (E:XK):Prop:=∀ (pins:List (Addr×Obj)) (σ:St) (H:Hp) (s:Δ) (h':Heap) (e:Addr) (cls:Α) (vs:List Α),Inv X pins σ H s->kN s.heap h' e cls vs->E cls none H->X.xe (.ref e) { s with heap:=h' }
theorem O4:Ey (g.cH N qual st f cdv A outer s H E) E:=by
 intro pins σ H1 s1 h' e cls vs I hm q;exact I.nF rfl rfl rfl I.ok.frames hm fun h'' B F hd=>⟨e,cls,H1,B,none,rfl,I.os,I.bare,F,hd,q⟩
end
def Gx.bY (g:Gx) (k:Nat) (x:Str) (ps:List Str) (sp:Sp):Prop:=∃ f fd,bw g.P g.w g.K g.mg g.base (fV g.P g.w) k f fd ps sp/\Xf g.K fd ps []/\ee g.K (.ref f)=true/\g.mg x=some (.ref f)
def Bh (g:Gx) (k:Nat) (N:List Str) (qual:Str) (st:Stmt) (sp:Sp):Prop:=∀ (f:Addr) (cdv:Α) (A:ζ) (outer:List Env) (s:Δ) (H:Hp) (vs:List V) (Q:VK) (E:XK),aL k (g.cH N qual st f cdv A outer s H E).A->sp vs H Q E ->
 ∃ t,cR (g.cH N qual st f cdv A outer s H E) (YO st) t/\t { nx:=fun _ H'=>Q .non H',rt:=Q } (Xq N vs) H
section
variable {g:Gx} {k:Nat} {x qual m:Str} {st:Stmt} {N ps:List Str} {sp:Sp} {C:Addr}
theorem Gx.Raw.fnX (R:g.Raw x qual st ps) (S:aB N ps (Yh st)) (len:∀ vs H Q E,sp vs H Q E->vs.length=ps.length) (b:Bh g k N qual st sp):g.bY (k+1) x ps sp:=by
 obtain ⟨f,fd,F,bd,hm⟩:=R;refine ⟨f,fd,?_,bd,F.kp,hm⟩;obtain ⟨oc,od,kV,doc,pm,an,cdv,ct,osl,rfl,lk,hcd⟩:=F.ex;exact vY lk hcd S len fun A outer s H vs Q E hr h=>b f cdv A outer s H vs Q E hr h
theorem Gx.bY.mono {j:Nat} (F:g.bY j x ps sp) (h:j<=k):g.bY k x ps sp:=by
 obtain ⟨f,fd,F,r⟩:=F;exact ⟨f,fd,F.mono h,r⟩
end
section
variable {g:Gx} {X:Cx} {k j:Nat} {x:Str} {ps:List Str} {sp:Sp} {E:XK} {e:Expr} {es:List Expr} {t:TA} {p pos cpos np:Pos}
theorem XF (F:g.bY j x ps sp) (hr:aL k X.A) (hp:XX (fV g.P g.w) X E) (ha:PA X (e::es) t) (hj:j<=k) (hX:X.gx=g) (hg:Gl X x) (hdb:(x==("__debug__":Str))=false)
  (he:Χ (e::es) X.env=(false,eval e X.env)::Χ es X.env) (hpl:(bz pos (Χ es X.env)).any (·.1)=false):PE X (.Call (.Name x p) (e::es) [] pos) (Um sp [] E t):=by
 subst hX;obtain ⟨f,fd,F,b,kp,hm⟩:=F;exact Df F (hr.mono hj) hg hm kp b .nil hp ha hdb he hpl
theorem PS.cB {st:Stmt} {t:TS} (h:PS X.cB st t):PS X st t:=fun pins s σ H D I hw =>
 ω (h pins s σ H D (I.wish _) hw) (fun _ _ q=>q.cA) fun _ _ z=>am z
abbrev WM:List Value:=[.type "ValueError",.type "Exception",.type "BaseException",.type "object"]
structure Gx.Exc (g:Gx) (x:Str) (C:Addr):Prop where
 bound:g.mg x=some (.ref C)
 own:W.excIn g.K C WM "ValueError.__new__"=true
theorem O5 {K:Λ} {h:Heap} {C:Addr} {tl:List Α} {nw:String} (In:K.In h) (q:W.excIn K C tl nw=true) :
  ∃ (bm:List Α) (ns:Addr) (nm qn:Str) (bs:List Α) (hd:Bool) (sn:List Str) (sub:List Α) (ab:Bool) (col:Option Bool) (dd:Option Addr) (k0 k1 k2 k3 k5:Option Α) (mN:Str->Option Α),
   h.get? C=some (f8 nm qn C ns bs bm hd sn sub ab col dd k0 k1 k2 k3 k5 nw)/\h.Ns ns mN/\mN "__init__"=none/\OwnTail h tl bm:=by
 unfold W.excIn at q
 split at q
 case h_2=>exact absurd q (by decide)
 case h_1 dd cd sl lk =>
  split at q
  case h_2=>exact absurd q (by decide)
  case h_1 c2 bm k0 k1 k2 k3 n k5 em es =>
   simp only [beq_iff_eq,de,Bool.not_eq_true'] at q;obtain ⟨⟨⟨⟨⟨q1,q2⟩,q3⟩,q4⟩,q5⟩,q6⟩:=q;obtain ⟨nm,bs,mro,ns,qn,hd,sn,sub,ab,col,del⟩:=cd;obtain ⟨lst⟩:=sl;dsimp only at em q3 q5 q6 es;subst q1 q2 em q3 es;exact ⟨bm,ns,nm,qn,bs,hd,sn,sub,ab,col,dd,k0,k1,k2,k3,k5,_,In _ _ lk,.of_isNs (W.isNs_of_in In q5),W.nsMap_none_of_in In q5 q6,W.tail_of_in In q4⟩
def wO (C:Addr) (E:XK) (t:TA):TS:=fun _ σ H=>t σ H fun vs H1=>vs.length<=sizeLine/\E (.ref C) none H1
theorem O6 {C:Addr} (hC:g.Exc x C) (hR:Ey X E) (ha:PA X (e::es) t) (hc:X.calm=true) (hX:X.gx=g) (hg:Gl X x) (hdb:(x==("__debug__":Str))=false)
  (he:Χ (e::es) X.env=(false,eval e X.env)::Χ es X.env) (hpl:(bz cpos (Χ es X.env)).any (·.1)=false) :
  PS X (.Raise (some (.Call (.Name x np) (e::es) [] cpos)) none pos) (wO C E t):=by
 subst hX;intro pins s σ H D I h;obtain ⟨bm,ns,nm,qn,bs,hd,sn,sub,ab,col,dd,k0,k1,k2,k3,k5,mN,hO,hN,hni,T⟩:=O5 I.mod.fY hC.own;refine wpAny_Raise_call_subT (C:=C) (nm:=nm) (q:=qn) (N:=ns) (bs:=bs) (bm:=bm) (hdct:=hd) (sn:=sn) (sub:=sub) (ab:=ab) (col:=col) (dd:=dd) (k0:=k0) (k1:=k1) (k2:=k2) (k3:=k3) (k5:=k5)
  F.excBase_ValueError (mN:=mN) (T.hasType F.excBase_ValueError.hasBase) (I.ok.hd hc) ?_ hni (XQ I hg hC.bound ⟨rfl,?_⟩ hdb)
 ·rw [he]
  show (false||(bz cpos (Χ es X.env)).any (·.1))=false
  rw [hpl];rfl
 ·have a1:=ha cpos pins s σ H _ I h
  rw [he] at a1 ⊢
  refine Calls.evalArgs_plain (ω a1 (fun us s2 hz=>?_) fun _ _ y=>y);obtain ⟨vs,H2,I2,r,q1,q2⟩:=hz;exact ⟨rfl,by rw [<- r.length];exact q1,I2.bk _ _ hO,hN.keeps I2.bk,T.keeps I2.bk,fun h' e hm=>hR pins σ H2 s2 h' e _ us I2 hm q2⟩
end
abbrev Cx.caught (X:Cx) (e:Addr):Cx:={ X with A:=X.A.mark (some (.ref e)),calm:=false,xe:=fun _ _=>False }
section
variable {X:Cx} {pins:List (Addr×Obj)} {σ:St} {H H' H1:Hp} {s s1 s':Δ} {e:Α} {D:Ends} {ts:TS} {b₀:Stmt} {suite:List Stmt} {c:Str} {cv:Α} {cp hpos:Pos}
theorem Inv.caught (I:Inv X pins σ H s) (a:Addr):Inv (X.caught a) pins σ H s :=
 ⟨⟨I.ok.mod,I.ok.kind,I.ok.glob,I.ok.blt,I.ok.above,I.ok.inj,I.ok.has,I.ok.cab,fun z=>(by cases z),I.ok.frames,I.ok.stk,I.ok.sE,I.ok.bs,I.ok.dG,I.ok.iG,I.ok.jz,I.ok.cu,I.ok.eE⟩,I.os,I.bare,I.base,I.loc,I.cell,I.free,I.aV,I.pin,I.hok,I.len⟩
theorem Inv.uncaught {a:Addr} (hd:X.calm=true->X.A.handled=none) (I:Inv (X.caught a) pins σ H s):Inv X pins σ H s :=
 ⟨⟨I.ok.mod,I.ok.kind,I.ok.glob,I.ok.blt,I.ok.above,I.ok.inj,I.ok.has,I.ok.cab,hd,I.ok.frames,I.ok.stk,I.ok.sE,I.ok.bs,I.ok.dG,I.ok.iG,I.ok.jz,I.ok.cu,I.ok.eE⟩,I.os,I.bare,I.base,I.loc,I.cell,I.free,I.aV,I.pin,I.hok,I.len⟩
theorem Inv.seen {a:Addr} {cls:Α} {B:Heap} (I:Inv X pins σ H1 s1) (F:cF X.prog X.w X.stack H1 s1.heap a cls H' s'.heap B) (os:s'.os=s1.os) (bare:hU s'.gens):Inv X pins σ H' s' :=
 I.call' (ch:=[]) os (F.un I.dN) F.held bare fun b z=>nomatch z
theorem Inv.vg (I:Inv X pins σ H1 s1):∀ b∈frs X.stack,∀ o,s1.heap.get? b=some o->∀ vs,o.data ≠ .fields vs:=fun b hb o q=>by
 obtain ⟨_,o',e',d⟩:=I.stack.mem hb;rw [q] at e'
 cases e'
 exact d
end
def wQ (K:Λ) (cv:Α) (sp:Sp) (t:TA) (i:Nat) (ts:TS):TS:=fun D σ H=>t σ H fun vs H1=>sp (vs++[]) H1 (fun v H2=>D.nx (σ.set i (some v)) H2) (fun cls _ H2=>ix K cls cv=some true/\ts D σ H2)
def UV (k:Nat) (G:Hp->List V->Prop):It :=
 ⟨fun i H=>∃ xs x,G H xs/\xs[i]?=some x,fun i H v H'=>∃ T,v = .ref T/\H T=none/\∀ xs x,G H xs->xs[i]?=some x->H'=upd H T (.tup [.int ((i+k:Nat):Int),x]),fun i H=>∃ xs,G H xs/\xs.length=i⟩
theorem V1 {P:Ψ} {w:θ} {A:ζ} {it:Addr} {fp:List Addr} {n:Nat} {R:Nat->Α->Prop} {St:Nat->Heap->Prop} (D:Draws P w A it fp n R St) (k:Nat) :
  Draws P w A it fp (n+k) (fun i v=>∃ j,i=j+k/\R j v) (fun i h=>∃ j,i=j+k/\St j h) where
 live:=fun i h ⟨j,_,st⟩=>D.live j h st
 frame:=fun i h h' ⟨j,e,st⟩ q=>⟨j,e,D.frame j h h' st q⟩
 item:=fun i s Q E hi ⟨j,e,st⟩ hQ=>by
  subst e;exact D.item j s Q E (by omega) st fun x h' tk p st' sb=>hQ x h' tk ⟨j,rfl,p⟩ ⟨j+1,by omega,st'⟩ sb
 done:=fun s Q E ⟨j,e,st⟩ hE=>by
  have:j=n:=by omega
  subst this;exact D.done s Q E st hE
theorem O7 {P:Ψ} {w:θ} {K:Λ} {elts:List Expr} {kk:Nat} {pos:Pos} {a e it:Addr} {k:Nat} {G:Hp->List V->Prop} {inner:Nat->Heap->Prop} (ne:e≠it) (na:e≠a)
  (obj:∀ i h,inner i h->∃ o,h.get? it=some o/\∀ v,o.data ≠ .cell v) (keep:∀ i h h',inner i h->(∀ o,h.get? it=some o->h'.get? it=some o)->inner i h')
  (inj:∀ (X:Cx) pins σ H s xs ys,X.prog=P->X.w=w->X.K=K->Inv X pins σ H s->G H xs->G H ys->xs=ys)
  (dr:∀ (X:Cx) pins σ H s xs i,X.prog=P->X.w=w->X.K=K->X.calm=true->Inv X pins σ H s->G H xs->inner i s.heap->∃ its:List Α,Ym xs its/\∃ St:Nat->Heap->Prop,Draws P w X.A.in1 it [it,a] its.length (fun i v=>its[i]?=some v) St/\St i s.heap/\∀ i h,St i h->inner i h) :
  Turn P w K (.Tuple elts kk pos) (UV k G) [e,it] e (fun i h=>(∃ old,IsEnum h e it ((i+k:Nat):Int) old)/\inner i h) where
 mem:=by simp
 obj:=fun i h ⟨⟨old,he⟩,hi⟩ c hc=>by
  simp only [Υ,ι,or_false] at hc;rcases hc with rfl | rfl
  ·exact ⟨_,he,fun v z=>by cases z⟩
  ·exact obj i h hi
 keep:=fun i h h' ⟨⟨old,he⟩,hi⟩ q=>⟨⟨old,q e (by simp) _ he⟩,keep i h h' hi fun o z=>q it (by simp) o z⟩
 item:=by
  intro X hP hw hK hc i pins s σ H E I hf ⟨⟨old,he⟩,hi⟩ hg;obtain ⟨xs,x,g1,hx⟩:=hg;obtain ⟨its,rv,St,D,hst,hin⟩:=dr X pins σ H s xs i hP hw hK hc I g1 hi;subst hP hw hK;have hlen:=rv.length;have hil:i<xs.length:=(Ι.mp hx).1;refine wpAny_pyNext_enum_itemD (V1 D k) he ⟨i,rfl,hst⟩ (by omega) ne (fun z=>?_) fun u h1 tk hu ho hi1 hT hsz kp=>?_
  ·simp only [Υ,ι,or_false] at z
   rcases z with z | z
   ·exact ne z
   ·exact na z
  refine ⟨_,rfl,?_⟩;refine wpAny_letOwnedTupleGo_enum (s:={ s with heap:=h1,toks:=tk+1 }) ho fun h2 he2 sb=>?_
  have elt:e<s.heap.objs.size:=Ν he;have O8:it<s.heap.objs.size:=by obtain ⟨o,q,_⟩:=obj i _ hi;exact Ν q
  have kY:∀ c o,c∉[e,it]->s.heap.get? c=some o->h2.get? c=some o:=fun c o hm z=>by
   have c1:c≠e:=fun q=>hm (by simp [q])
   have c2:c≠it:=fun q=>hm (by simp [q])
   exact sb.extBut c o c1 (kp c o c1 c2 z)
  obtain ⟨j,ej,hu⟩:=hu;have ej:j=i:=by omega
  subst ej;obtain ⟨u',hu',ru⟩:=rv.get hx;rw [hu] at hu'
  cases hu'
  have hT2:h2.get? s.heap.objs.size=some { cls := .type "tuple",data := .seq #[.int ((j+k:Nat):Int) tk,u] }:=sb.extBut _ _ (du elt) hT;have I':=I.jA (t':=tk+1) (h':=h2) (T:=s.heap.objs.size) (vs:=[.int ((j+k:Nat):Int),x]) kY hf (Φ _) (show YK X.prog X.w _ h2 _ (.tup [.int ((j+k:Nat):Int),x]) from ⟨by show 2<=sizeLine;decide,[.int ((j+k:Nat):Int) tk,u],.cons ⟨_,rfl⟩ (.cons ru .nil),_,hT2,rfl,_,rfl⟩);have fresh:H s.heap.objs.size=none:=I.hok.fresh (Φ _);obtain ⟨j',Ez,st'⟩:=hi1;have Ez:j'=j+1:=by omega
  subst Ez;refine ⟨.ref s.heap.objs.size,_,I',rfl,⟨_,rfl,fresh,fun xs' x' oU hx'=>?_⟩,⟨⟨u,?_⟩,keep _ _ _ (hin _ _ st') fun o z=>sb.extBut _ _ (ah ne) z⟩,fun c hm=>?_⟩
  ·rw [inj X pins σ H s _ _ rfl rfl rfl I oU g1,hx] at hx'
   cases hx'
   rfl
  ·have e2:(((j+1+k:Nat)):Int)=((j+k:Nat):Int)+1:=by omega
   rw [e2];simpa using he2
  ·have h0:=(hf c hm).1
   have oV:c<s.heap.objs.size:=by
    simp only [Υ,ι,or_false] at hm;rcases hm with rfl | rfl
    ·exact elt
    ·exact O8
   rw [Ye (ν oV)];exact h0
 done:=by
  intro X hP hw hK hc i pins s σ H E I hf ⟨⟨old,he⟩,hi⟩ hg;obtain ⟨xs,g1,hx⟩:=hg;obtain ⟨its,rv,St,D,hst,hin⟩:=dr X pins σ H s xs i hP hw hK hc I g1 hi;subst hP hw hK;have hlen:=rv.length;obtain ⟨f0,f1,f2,f3,f4,f5⟩:=hf it (by simp);exact wpAny_pyNext_enum_endD (V1 D k) he ⟨i,by omega,hst⟩ fun h' eb=>⟨rfl,I.turned (t':=s.toks) (fun b o hb z=>eb b o hb z) f0 f1 f3 f4 f5⟩
 self:=fun _ _ _ _ _ ⟨⟨_,he⟩,_⟩ h=>i7 he h
section
variable {prog:Ψ} {w:θ} {A:ζ} {E:Α->Δ->Prop} {s:Δ}
theorem O9 {it t:Addr} {i:Nat} {its:Array Α} {x:Α} {Q:Α->Δ->Prop} (hit:kg s.heap it t i) (ht:IsTup s.heap t its) (hx:its[i]?=some x)
  (hQ:∀ h',kg h' it t (i+1)->ci it s.heap h'->Q x { s with heap:=h' }):Κ (Ο prog w) A (ς (.ref it)) Q E s:=by
 have hT:=hit.typeIs;obtain ⟨o,ho,hc,hd⟩:=hit;obtain ⟨ot,hot,_,nt,hdt⟩:=ht;unfold ς;refine Β (bv (name:=χ "__next__") hT ia (ck ia hT entry_tupleiter_next ?_ (args_tupleiter_next _)))
 change Κ _ _ (fE (.ref it) 0 >>= _) _ _ s
 refine Β (av (x := .ref t) ho hd rfl ?_)
 change Κ _ _ (if (Ω t==cq)=true then _ else _) _ _ s
 rw [if_neg (show ¬ (Ω t==cq)=true from η)]
 change Κ _ _ (fE (.ref it) 1 >>= _) _ _ s
 refine Β (av (x := .int i 0) ho hd rfl ?_)
 change Κ _ _ (seqItems? (.ref t) >>= _) _ _ s
 refine Β (b8 hot hdt ?_);simp only [hx,et];refine Β (kG ho hd (by simp) (Μ ⟨x,rfl,Μ (hQ _ ⟨_,br _ ho (Obj.isFreed_of_fields (iO hd _)),(Obj.cls_mapFields ..).trans hc,?_⟩ (ib ..))⟩));rw [iO hd];simp [cE]
theorem Pa {it t:Addr} {i:Nat} {its:Array Α} {Q:Α->Δ->Prop} (hh:A.handled=none) (hit:kg s.heap it t i) (ht:IsTup s.heap t its) (hx:its[i]?=none)
  (hE:∀ h' e,lz it s.heap h'->(∃ o,h'.get? e=some o/\o.cls = .type "StopIteration")->E (.ref e) { s with heap:=h' }):Κ (Ο prog w) A (ς (.ref it)) Q E s:=by
 have hT:=hit.typeIs;obtain ⟨o,ho,hc,hd⟩:=hit;obtain ⟨ot,hot,_,nt,hdt⟩:=ht;unfold ς;refine Β (bv (name:=χ "__next__") hT ia (ck ia hT entry_tupleiter_next ?_ (args_tupleiter_next _)))
 change Κ _ _ (fE (.ref it) 0 >>= _) _ _ s
 refine Β (av (x := .ref t) ho hd rfl ?_)
 change Κ _ _ (if (Ω t==cq)=true then _ else _) _ _ s
 rw [if_neg (show ¬ (Ω t==cq)=true from η)]
 change Κ _ _ (fE (.ref it) 1 >>= _) _ _ s
 refine Β (av (x := .int i 0) ho hd rfl ?_)
 change Κ _ _ (seqItems? (.ref t) >>= _) _ _ s
 refine Β (b8 hot hdt ?_);simp only [hx,et];refine Β (kq (Β (kG ho hd (by simp) ?_)))
 change Κ _ _ (newExc (.type "StopIteration") [] >>= _) _ _ _
 refine Β ?_;simp only [newTuple,newExc];refine Β (dk ?_ (by size_fits));refine Β (m:=kK _ _) (wpAny_of_eq (a:=cq) (by first | (simp only [kK];rfl) | rfl) ?_);refine dk ?_ (by size_fits);simp only [raiseNew];refine Β (wpAny_handled ?_)
 first | rw [hh] | rw [show A.in1.handled=none from hh]
 exact Β (Μ (wpAny_throw (hE _ _ (((ib ..).extBut.push _).push _) ⟨_,δ _ rfl,rfl⟩)))
theorem Pb (hh:A.handled=none) (it t:Addr) (ne:t≠it) (its:Array Α):Draws prog w A it [it,t] its.size (fun i v=>its[i]?=some v) (fun i h=>kg h it t i/\IsTup h t its) where
 live:=fun _ _ st=>let ⟨o,ho,_⟩:=st.1;⟨o,ho⟩
 frame:=fun _ _ _ st hk=>⟨let ⟨o,ho,r⟩:=st.1;⟨o,hk it (by simp) o ho,r⟩,let ⟨o,ho,r⟩:=st.2;⟨o,hk t (by simp) o ho,r⟩⟩
 item:=fun i s Q E hi st hQ=>by
  refine O9 st.1 st.2 (x:=its[i]) (by simp [hi]) fun h' hit' hs'=>?_
  exact hQ _ h' s.toks (by simp [hi]) ⟨hit',let ⟨o,ho,r⟩:=st.2;⟨o,hs'.extBut t o ne ho,r⟩⟩ hs'
 done:=fun s Q E st hE=>Pa hh st.1 st.2 (by simp) hE
open AutoSeq1 (wpAny_loadPart') in
theorem Pg (l:Addr) (o:Obj) (its:Array Α) (n:Nat) (hc:o.cls = .type "tuple") (hd:o.data = .seq its n) :
  Meets (Builtin.«enumerate.__new__» ⟨[.type "enumerate",.ref l],[]⟩) (fun _ R s=>s.heap.get? l=some o /\
   R (.ok (.ret (.ref (s.heap.push { cls := .type "tuple_iterator",data := .fields #[.ref l,.int 0 0] }).objs.size)))
    { s with heap:=(s.heap.push { cls := .type "tuple_iterator",data := .fields #[.ref l,.int 0 0] }).push { cls := .type "enumerate",data := .fields #[.none,.bool false,.ref s.heap.objs.size,cE 0,.none,.none] } }) :=
 .of_wp fun prog w A R s h=>by
  obtain ⟨hp,g,d,tk,os⟩:=s;obtain ⟨hl,h⟩:=h;have hsub:=sub_enumerate;have hL:IsTup (Shared.heap ⟨hp,g,d,tk,os⟩) l its:=⟨o,hl,hc,n,hd⟩
  wp_walk using wpAny_loadPart' hl
  refine wpAny_stack_any fun st=>Μ ?_
  split
  ·rename_i c _ _ _ _ _
   cases (c==fN "enumerate")
   ·wp_walk using wpAny_loadPart' hl,iter_tuple hL
    exact ⟨_,rfl,h⟩
   ·wp_walk using wpAny_loadPart' hl,iter_tuple hL
    exact ⟨_,rfl,h⟩
  ·wp_walk using wpAny_loadPart' hl,iter_tuple hL
   exact ⟨_,rfl,h⟩
theorem Ph {l:Addr} {its:Array Α} {Q:Α->Δ->Prop} (hL:IsTup s.heap l its)
  (h:∀ h',IsEnum h' (s.heap.objs.size+1) s.heap.objs.size 0 .none->kg h' s.heap.objs.size l 0->(∀ b o,s.heap.get? b=some o->h'.get? b=some o)->Q (.ref (s.heap.objs.size+1)) { s with heap:=h' }) :
  Κ (Ο prog w) A (call (.type "enumerate") [.ref l]) Q E s:=by
 obtain ⟨o,hl,hc,n,hd⟩:=hL;refine callType_new F.called_enumerate (by decide) (F.typeCall_enumerate_1 _) (F.newCall_enumerate_1 _) (fun obj=>F.args_object_init_2 obj _) F.entry_enumerate_new (Pg l o its n hc hd) ⟨hl,?_⟩;have hz:(s.heap.push { cls := .type "tuple_iterator",data := .fields #[.ref l,.int 0 0] }).objs.size=s.heap.objs.size+1:=dC ..
 change _/\_
 rw [hz];have he:IsEnum ((s.heap.push { cls := .type "tuple_iterator",data := .fields #[.ref l,.int 0 0] }).push { cls := .type "enumerate",data := .fields #[.none,.bool false,.ref s.heap.objs.size,cE 0,.none,.none] }) (s.heap.objs.size+1) s.heap.objs.size 0 .none:=by
  have z:=δ (s.heap.push { cls := .type "tuple_iterator",data := .fields #[.ref l,.int 0 0] }) (o:={ cls := .type "enumerate",data := .fields #[.none,.bool false,.ref s.heap.objs.size,cE 0,.none,.none] }) rfl;rw [hz] at z
  exact z
 exact ⟨⟨_,he,rfl⟩,h _ he ⟨_,Ε _ (δ _ rfl),rfl,rfl⟩ fun b o x=>Ε _ (Ε _ x)⟩
end
section
variable {X:Cx} {elts:List Expr} {kk:Nat} {tpos:Pos}
theorem Pj {P:Ψ} {w:θ} {K:Λ} {pos:Pos} {a e it:Addr} (ne:e≠it) (na:e≠a) (nt:a≠it) :
  Turn P w K (.Tuple elts kk pos) (UV 0 fun H xs=>aA K H a xs) [e,it] e (fun i h=>(∃ old,IsEnum h e it ((i+0:Nat):Int) old)/\kg h it a i):=by
 refine O7 ne na (fun i h ⟨o,q,_,d⟩=>⟨o,q,fun v z=>by rw [d] at z;cases z⟩) (fun i h h' ⟨o,q,r⟩ k=>⟨o,k o q,r⟩) (fun X pins σ H s xs ys hP hw hK I g1 g2=>?_) (fun X pins σ H s xs i hP hw hK hc I g1 hi=>?_)
 ·subst hP hw hK
  exact I.jH g1 g2
 ·subst hP hw hK
  obtain ⟨its,rv,pl,hz⟩:=I.tuple g1;refine ⟨its,rv,fun i h=>kg h it a i/\IsTup h a its.toArray,by simpa using Pb (prog:=X.prog) (w:=X.w) (A:=X.A.in1) (I.ok.hd hc) it a nt its.toArray,⟨hi,pl⟩,fun i h st=>st.1⟩
def EY (K:Λ) (ta:TA):TI:=fun σ H R=>ta σ H fun vs H1=>∃ a xs,vs=[.ref a]/\aA K H1 a xs/\R (UV 0 fun H xs=>aA K H a xs) H1
theorem Pk {a:Expr} {ta:TA} {p pos:Pos} (hg:Gl X "enumerate") (hm:X.mg "enumerate"=none) (ha:PA X [a] ta) (hs:Χ [a] X.env=[(false,eval a X.env)]) :
  PI X (.Tuple elts kk tpos) (.Call (.Name "enumerate" p) [a] [] pos) (EY X.K ta):=by
 intro pins s σ H R I h;refine Call_ (X8 I hg hm boot_enumerate (cw (aD (ha pos pins s σ H _ I h) fun us s1 hz=>?_) hs rfl));obtain ⟨vs,H1,I1,r1,x,xs,e,hx,q⟩:=hz;subst e;obtain ⟨u,rfl,ru⟩:=WC r1
 cases ru
 obtain ⟨i1,_,pl,_⟩:=I1.tuple hx;have l1:x<s1.heap.objs.size:=by obtain ⟨_,e,_⟩:=pl;exact Ν e
 refine Ph pl fun h' he hi keep=>?_
 refine i7 he ?_;have I2:Inv X pins σ H1 { s1 with heap:=h' }:=I1.kept (t':=s1.toks) keep;have l1':@LT.lt Nat _ x s1.heap.objs.size:=l1;refine ⟨_,[s1.heap.objs.size+1,s1.heap.objs.size],_,_,H1,rfl,I2,Pj (by intro z;have z':@Eq Nat _ _:=z;omega) (by intro z;have z':@Eq Nat _ _:=z;omega) (by intro z;have z':@Eq Nat _ _:=z;omega),⟨⟨_,he⟩,hi⟩,fun c hc=>?_,q⟩;have hle:s1.heap.objs.size<=c:=by
  simp only [Υ,ι,or_false] at hc;rcases hc with e | e<;>(have e':@Eq Nat _ _:=e;show @LE.le Nat _ s1.heap.objs.size c;omega)
 exact I1.fB hle (I1.hok.fresh hle)
end
section
variable {g:TG} {tb:TS} {D:Ends} {σ:St} {H:Hp}
theorem Pn {k:Nat} {G:Hp->List V->Prop} {xs:List V} (Pv:Nat->St->Hp->Prop) (h0:Pv 0 σ H) (hl:∀ i σ H,i<=xs.length->Pv i σ H->G H xs)
  (hs:∀ i x σ H T,xs[i]?=some x->Pv i σ H->H T=none->g (.ref T) σ (upd H T (.tup [.int ((i+k:Nat):Int),x])) fun σ2 H2=>tb { D with nx:=Pv (i+1),ct:=Pv (i+1),bk:=D.nx } σ2 H2) (hd:∀ σ H,Pv xs.length σ H->D.nx σ H) :
  ∃ W:Nat->Nat->St->Hp->Prop,(∃ m,W 0 m σ H)/\∀ i m σ H,W i m σ H ->
   ((UV k G).stop i H/\D.nx σ H)\/((UV k G).go i H/\∃ N:St->Hp->Prop,(∀ σ' H',N σ' H'->∃ m',m'<m/\W (i+1) m' σ' H')/\∀ x H',(UV k G).gb i H x H'->g x σ H' fun σ2 H2=>tb { D with nx:=N,ct:=N,bk:=D.nx } σ2 H2):=by
 refine ⟨fun i m σ H=>m=xs.length - i/\i<=xs.length/\Pv i σ H,⟨xs.length,by simp,ay _,h0⟩,?_⟩;rintro i m σ H ⟨rfl,hi,p⟩;have q:=hl i σ H hi p;by_cases hlt:i<xs.length
 ·have hx:xs[i]?=some xs[i]:=Η hlt
  refine .inr ⟨⟨xs,_,q,hx⟩,Pv (i+1),fun σ' H' p'=>⟨xs.length - (i+1),by omega,rfl,hlt,p'⟩,?_⟩;rintro v H' ⟨T,rfl,hT,heq⟩;have e:=heq xs _ q hx;subst e;exact hs i _ σ H T hx p hT
 ·have e:i=xs.length:=by omega
  subst e;exact .inl ⟨⟨xs,q,rfl⟩,hd σ H p⟩
theorem Pq {K:Λ} {ta:TA} {a:Addr} {xs:List V} (Pv:Nat->St->Hp->Prop) (ha:∀ R:List V->Hp->Prop,R [.ref a] H->ta σ H R) (h0:Pv 0 σ H) (hl:∀ i σ H,i<=xs.length->Pv i σ H->aA K H a xs)
  (hs:∀ i x σ H T,xs[i]?=some x->Pv i σ H->H T=none->g (.ref T) σ (upd H T (.tup [.int (i:Int),x])) fun σ2 H2=>tb { D with nx:=Pv (i+1),ct:=Pv (i+1),bk:=D.nx } σ2 H2) (hd:∀ σ H,Pv xs.length σ H->D.nx σ H):Vw (EY K ta) g tb D σ H:=by
 refine ha _ ⟨a,xs,rfl,hl 0 σ H (ay _) h0,?_⟩;exact Pn Pv h0 hl (fun i x σ H T hx p hT=>hs i x σ H T hx p hT) hd
end
def XI (a:Addr) (cls:Α) (dc:Option Addr):HO := .ext fun h=>∃ o vs,h.get? a=some o/\o.cls=cls/\o.data = .fields vs/\o.dict=dc
section
variable {P:Ψ} {w:θ} {l:List Env} {H H':Hp} {h h' h'' B:Heap} {a e:Addr} {cls:Α} {o:HO}
theorem YK.alive (x:YK P w H h a o):∃ u,h.get? a=some u:=by
 cases o with
 | lst xs=>obtain ⟨_,_,_,_,e⟩:=x;exact ⟨_,e⟩
 | tup xs=>obtain ⟨_,_,_,u,e,_⟩:=x;exact ⟨_,e⟩
 | dK kvs=>obtain ⟨_,_,_,_,o,_,_,e,_⟩:=x;exact ⟨_,e⟩
 | dT kvs=>obtain ⟨_,_,_,_,o,_,_,e,_⟩:=x;exact ⟨_,e⟩
 | set S n=>obtain ⟨o,_,_,_,e,_⟩:=x;exact ⟨_,e⟩
 | ins C dx fs=>obtain ⟨_,_,_,e,_⟩:=x;exact ⟨_,e⟩
 | own y=>exact x
 | xd fs=>obtain ⟨_,⟨_,_,_,e,_⟩,_⟩:=x;exact ⟨_,e⟩
 | rng lo hi=>obtain ⟨_,_,_,e⟩:=x;exact ⟨_,e⟩
 | bR ob u=>obtain ⟨e,_⟩:=x;exact ⟨_,e⟩
 | aH ps=>exact ⟨_,(show h.get? a=some _ from x)⟩
 | met f y=>exact ⟨_,(show h.get? a=some _ from x)⟩
 | ext φ=>exact x.2.1
theorem cF.new (F:cF P w l H h e cls H' h' B) (hf:∀ b∈frs l,H b=none) (nf:∀ b∈frs l,∀ o,h.get? b=some o->∀ vs,o.data ≠ .fields vs):h.get? e=none:=by
 obtain ⟨a0,fl⟩:=F.fl
 cases q:h.get? e with
 | none=>rfl
 | some o =>
  by_cases hb:e∈frs l
  ·obtain ⟨sl,z⟩:=F.slot e o q (hf e hb) hb
   obtain ⟨oe,vs,z',_,d,_⟩:=fl.first;rw [z] at z'
   cases z'
   exact absurd d (nf e hb o q vs)
  ·obtain ⟨o',z⟩:=F.al e o q hb
   rw [fl.2.1] at z
   cases z
theorem cF.out (F:cF P w l H h e cls H' h' B):H' e=none:=by
 obtain ⟨a0,fl⟩:=F.fl
 cases q:H' e with
 | none=>rfl
 | some u =>
  obtain ⟨o,z⟩:=(F.hok e u q).alive;rw [fl.2.1] at z
  cases z
theorem cF.track (F:cF P w l H h e cls H' h' B) (hf:∀ b∈frs l,H b=none) (nf:∀ b∈frs l,∀ o,h.get? b=some o->∀ vs,o.data ≠ .fields vs) {dc:Option Addr} (hd:Xv h' e dc) :
  Un (frs l) [] H (upd H' e (XI e cls dc)) h h'/\bA P w (upd H' e (XI e cls dc)) h':=by
 have n1:=F.new hf nf;have n2:=F.out;have u:=F.un hf;have ok:=F.held;obtain ⟨a0,fl⟩:=F.fl;refine ⟨⟨u.keep,u.slot,fun b o q n hx=>?_,u.there,fun b xs q=>?_,fun b o x q=>?_,fun b ps q=>?_⟩,fun b x q=>?_⟩
 ·rw [Ye (fun z=>by rw [z,n1] at q;cases q)]
  exact u.free b o q n hx
 ·rw [Ye (Yk (u.tups b xs q) n2)]
  exact u.tups b xs q
 ·rw [Ye (Yk (u.bB b o x q) n2)]
  exact u.bB b o x q
 ·obtain ⟨m,z⟩:=u.bW b ps q
  exact ⟨m,by rw [Ye (Yk z n2)];exact z⟩
 ·by_cases hb:b=e
  ·subst hb
   rw [Yb] at q
   cases q
   obtain ⟨oe,vs,z1,z2,z3,_⟩:=fl.first;obtain ⟨od,d1,d2⟩:=hd;rw [z1] at d1
   cases d1
   exact ⟨⟨oe,vs,z1,z2,z3,d2⟩,⟨oe,z1⟩,fun h1 h2 p k=>by obtain ⟨o,vs,y1,y2,y3⟩:=p;exact ⟨o,vs,k o y1,y2,y3⟩⟩
  ·rw [Ye hb] at q
   exact (ok b x q).stay (fun c v _ r=>r) (fun c r=>by rw [Ye (Yk r n2)];exact r) fun c xs r=>by rw [Ye (Yk r n2)];exact r
end
section
variable {X:Cx} {pins:List (Addr×Obj)} {σ:St} {H H' H1:Hp} {s s1 s':Δ}
theorem Pr {M:Model} {A:ζ} {E:Α->Δ->Prop} {j:Nat} {n:Str} {pos:Pos} {Q:Unit->Δ->Prop} (I:Inv X pins σ H s) (hN:X.N.Nodup) (hj:X.N[j]?=some n) (hk:X.env.scope.names.lookup n=some .local)
  (h:∀ s',Inv X pins (σ.set j none) H s'->Q () s'):Κ M A (do bindName X.env n .none;unbindBehindTheSuite X.env n pos) Q E s:=by
 obtain ⟨m,hn,hl⟩:=id I.loc;have hcls:(X.env.scope.kind == .class||(X.env.scope.kind == .module&&X.env.locals != X.env.globals))=false:=by rw [I.ok.kind];rfl
 have fO:=I.fO;have tracked:∀ {a:Addr} {h':Heap},(∃ o,s.heap.get? a=some o/\H a=none)->ci a s.heap h'->bA X.prog X.w H h':=fun {a h'} ha hs b ob e=>by
  obtain ⟨_,_,hfree⟩:=ha;refine (I.hok b ob e).stay (fun c w' hc q=>(hs.2 c ?_).trans q) (fun _ q=>q) fun _ _ q=>q
  rintro rfl;rcases hc with rfl | hc
  ·rw [hfree] at e;cases e
  ·rw [hfree] at hc;cases hc
 refine wpAny_nameGoes_keeps hk hn hcls fun h' v hn' hs=>?_
 obtain ⟨oL,_,_,hoL,_⟩:=id hn;refine h _ ⟨I.ok,I.os,I.bare,⟨fun b o e n hb hx=>?_,fun b o e n hb hx=>?_,I.base.free,fun b o e hx=>?_,I.base.tups,I.base.bB,I.base.bW⟩,⟨_,hn',fun i y v' e1 e2 e3=>?_⟩,fun y c e=>?_,I.free,I.aV,fun p hp=>?_,tracked ⟨oL,hoL,I.free⟩ hs,by simpa using I.len⟩
 ·exact (hs.2 b (I.nD e)).trans (I.base.keep b o e n hb hx)
 ·obtain ⟨sl,e1⟩:=I.base.slot b o e n hb hx
  exact ⟨sl,(hs.2 b (I.nD e)).trans e1⟩
 ·obtain ⟨o',e1⟩:=I.base.there b o e hx
  exact ⟨o',(hs.2 b (I.nD e)).trans e1⟩
 ·by_cases hji:i=j
  ·subst hji
   rw [List.getElem?_set] at e2
   split at e2
   ·split at e2<;>cases e2
   ·rename_i z;exact absurd rfl z
  ·rw [List.getElem?_set_ne (ah hji)] at e2
   obtain ⟨u',r',q⟩:=hl i y v' e1 e2 e3;refine ⟨u',r',?_⟩;rcases q with ⟨k,e⟩ | ⟨k,c,e,z⟩
   ·refine .inl ⟨k,?_⟩
    have:y≠n:=fun e=>hji (V4 hN e1 (e▸hj))
    simp [this,e]
   ·exact .inr ⟨k,c,e,z.sameBut hs (fO y c e)⟩
 ·obtain ⟨w',z⟩:=I.cell y c e
  exact ⟨w',z.sameBut hs (fO y c e)⟩
 ·obtain ⟨e,n,ne,nf,d⟩:=I.pin p hp
  exact ⟨(hs.2 p.1 ne).trans e,n,ne,nf,d⟩
end
def Ends.gone (D:Ends) (j:Nat):Ends:={ nx:=fun σ H=>D.nx (σ.set j none) H,rt:=D.rt,bk:=fun σ H=>D.bk (σ.set j none) H,ct:=fun σ H=>D.ct (σ.set j none) H }
section
variable {X:Cx} {pins:List (Addr×Obj)} {σ:St} {H H' H1:Hp} {s s1 s':Δ} {e:Α} {D:Ends} {ts:TS} {b₀:Stmt} {suite:List Stmt} {c n:Str} {cv:Α} {cp hpos:Pos} {j:Nat}
theorem Inv.vh (I:Inv X pins σ H1 s1) (hs:X.stack=X.env::X.outer) (hf:X.env.frame=some X.env.locals) (hN:X.N.Nodup) (hj:X.N[j]?=some n) (hk:X.env.scope.names.lookup n=some .local)
  (hq:fV X.prog X.w X.stack H1 s1 (fun cls dc H2=>PySem.W.exmOne X.K cls cv=some true/\∀ a,H2 a=none->ts (D.gone j) (σ.set j (some (.ref a))) (upd H2 a (XI a cls dc))) e s')
  (wR:∀ a,cR (X.caught a) (b₀::suite) ts) (hc:Gl X c) (hcm:X.mg c=some cv) (hdb:(c==("__debug__":Str))=false) :
  Κ (Ο X.prog X.w) X.A (noteFrame e X.env) (fun _ s₂=>Κ (Ο X.prog X.w) X.A (setFlight e none) (fun _ s₃=>Κ (Ο X.prog X.w) X.A (handleBy e X.env [.ExceptHandler (some (.Name c cp)) (some n) (b₀::suite) hpos]) (SP X pins D) X.xe s₃) X.xe s₂) X.xe s':=by
 obtain ⟨a,cls,H2,B,dc,rfl,os,bare,F,hdc,hm,ht⟩:=hq;obtain ⟨a0,fl⟩:=F.fl;have nf:=I.vg;have Fb:=fl;rw [hs] at Fb
 have hfr:=I.ok.frames;rw [hs] at hfr
 refine ω (Wk (Ve _ _) hdc (wpAny_looks_onW (Q:=fun _ s₂=>∃ h₄ L,s₂={ s' with heap:=h₄ }/\Heap.HeldW B (X.env::X.outer) a cls a0 L h₄/\s'.heap.UpToSlots h₄) (E:=X.xe) hfr hf Fb fun h₄ held wU=>⟨h₄,_,rfl,held,wU⟩)) ?_ fun _ _ z=>z.1
 rintro _ s₂ ⟨⟨h₄,L4,rfl,held,wU⟩,Pu⟩;refine ω (Wk (Wl _ _) Pu (wpAny_landsW (Q:=fun _ s₃=>∃ h₅,s₃={ s' with heap:=h₅ }/\lr B (X.env::X.outer) a cls a0 h₅/\h₄.UpToSlots h₅) (E:=X.xe) held fun h₅ mJ wV=>⟨h₅,rfl,mJ,wV⟩)) ?_ fun _ _ z=>z.1
 rintro _ s₃ ⟨⟨h₅,rfl,mJ,wV⟩,Px⟩;rw [<- hs] at mJ
 have F5:=F.on ⟨a0,mJ⟩ nf (wU.trans wV);have I5:Inv X pins σ H2 { s' with heap:=h₅ }:=I.seen (s':={ s' with heap:=h₅ }) F5 os bare;have Py:=I5.caught a;refine wpAny_handleBy_cons (codeAny_handlers_test (XQ Py hc hcm ?_ hdb)) (by intro q;cases q);obtain ⟨ob,hob,hcl⟩:=mJ.there;have LT:PySem.W.Looks (Ο X.prog X.w) h₅ (typeOf (.ref a)) cls:=by
  subst hcl;exact (PySem.W.Looks.ld hob).andThen .now
 refine PySem.W.exm_one (K:=X.K) (h:=h₅) I5.aX LT hm _ _ _ _ (fun _ _ z=>z) ?_;refine codeAny_handlers_suite_as ?_;refine ω (Wk (Wl _ _) Px (lands_againW (Q:=fun _ s₄=>∃ h₆,s₄={ s' with heap:=h₆ }/\lr B X.stack a cls a0 h₆/\h₅.UpToSlots h₆) (E:=fun _ _=>False) mJ fun h₆ wW wX=>⟨h₆,rfl,wW,wX⟩)) ?_ fun _ _ z=>z.1.elim
 rintro _ s₄ ⟨⟨h₆,rfl,wW,wX⟩,Pz⟩;have F6:=F5.on ⟨a0,wW⟩ nf wX;obtain ⟨u6,PJ⟩:=F6.track I.dN nf Pz;have I6:Inv X pins σ (upd H2 a (XI a cls dc)) { s' with heap:=h₆ }:=I.call' (s':={ s' with heap:=h₆ }) (ch:=[]) os u6 PJ bare fun b z=>nomatch z
 have PK:=I6.caught a;refine Vj (X:=X.caught a) PK hN hj (.inl hk) (v := .ref a) rfl (fun s7 I7=>?_) (.inr hk);refine ω (wR a pins _ _ _ (D.gone j) I7 (ht a F6.out)) (fun f s8 z=>?_) fun _ _ z=>z.elim
 have key:∀ {σ':St} {H':Hp} {Q:St->Hp->Prop},Inv (X.caught a) pins σ' H' s8->Q (σ'.set j none) H'->∀ {R:Unit->Δ->Prop},(∀ s9,Inv X pins (σ'.set j none) H' s9->R () s9)->Κ (Ο X.prog X.w) X.A (do bindName X.env n .none;unbindBehindTheSuite X.env n hpos) R X.xe s8 :=
  fun {σ' H' Q} J _ {R} hR=>Pr (J.uncaught I.ok.hd) hN hj hk hR
 cases f with
 | next=>obtain ⟨σ',H',J,q⟩:=z;exact key (Q:=fun _ _=>True) J trivial fun s9 J9=>⟨_,_,J9,q⟩
 | brk=>obtain ⟨σ',H',J,q⟩:=z;exact key (Q:=fun _ _=>True) J trivial fun s9 J9=>⟨_,_,J9,q⟩
 | cont=>obtain ⟨σ',H',J,q⟩:=z;exact key (Q:=fun _ _=>True) J trivial fun s9 J9=>⟨_,_,J9,q⟩
 | ret u=>obtain ⟨v,σ',H',J,r,q⟩:=z;exact key (Q:=fun _ _=>True) J trivial fun s9 J9=>⟨v,_,_,J9,r,q⟩
end
def Fd (K:Λ) (cv:Α) (sp:Sp) (t:TA) (i j:Nat) (ts:TS):TS:=fun D σ H=>t σ H fun vs H1=>sp (vs++[]) H1 (fun v H2=>D.nx (σ.set i (some v)) H2) (fun cls dc H2=>ix K cls cv=some true/\∀ a,H2 a=none->ts (D.gone j) (σ.set j (some (.ref a))) (upd H2 a (XI a cls dc)))
end L2
namespace PySem.W
open PySem PySem.Calls PyProof.Rows Builtin Builtin.ObjectAttr Builtin.Getset_descriptor
section
variable {prog:Ψ} {w:θ} {A:ζ} {E:Α->Δ->Prop} {K:Frag} {x C:Addr} {ox:Obj} {hh:Heap} {g:Array GenState} {d:Drawn} {t:Nat} {os:OsState}
theorem Qr (v:Α):bindSpecial (.builtin "BaseException.__getattribute__") v=pure (.builtin "BaseException.__getattribute__",[v]):=by
 have h1:withoutEnding? "BaseException.__getattribute__" "#opaque"=none:=by decide +kernel
 have h2:withoutEnding? "BaseException.__getattribute__" "#data"=none:=by decide +kernel
 have h3:builtinKind "BaseException.__getattribute__"=some .slot:=by decide +kernel
 simp only [bindSpecial,typeOf,builtinType,h1,h2,h3];rfl
theorem PL {tp:Α} {R:jp->Δ->Prop} (In:K.In hh) (hx:hh.get? x=some ox) (hc:ox.cls = .ref C) (hm:i3 K C (.type "object")=some true)
  (h:R (.ok (.ret (.ref C))) ⟨hh,g,d,t,os⟩):d6 (Ο prog w) A (.call (.builtin "getset_descriptor.__get__") ⟨[.builtin "object.__class__",.ref x,tp],[]⟩) R ⟨hh,g,d,t,os⟩:=by
 have L0:Looks (Ο prog w) hh (typeOf (.ref x)) (.ref C):=by rw [<- hc];exact (Looks.ld hx).andThen .now
 have L1:=looks_mroIn (M:=Ο prog w) In hm;refine fc KF.slot_gs.plain KF.entry_gs (KF.slot_gs.check _ _ _ _ _ _ _ _ KF.type_class (KF.args_gs _ _ _) ?_);unfold Builtin.«getset_descriptor.__get__»;unfold descrGet;rw [dga_obj];refine Β (Μ ?_);unfold descrGetter;unfold descrCheckInstance descrNameAndClass;unfold isInstance;simp only [KF.owner_class]
 repeat lk
 refine ⟨Code.quiet_builtin _ (by decide +kernel),codeAny_builtin KF.entry_class ?_⟩;unfold Builtin.«object.__class__»;unfold shownTypeOf
 repeat lk
 exact h
theorem PN {tk:Tok} {Q:Fin->Δ->Prop} (In:K.In hh) (hx:hh.get? x=some ox) (hc:ox.cls = .ref C) (hm:i3 K C (.type "object")=some true) (ha:c6 K (.ref C) "__class__"=some (some (.builtin "object.__class__")))
  (hq:Q (.done (.ret (.ref C))) ⟨hh,g,d,t,os⟩):Κ (Ο prog w) A (Builtin.«object.__getattribute__» ⟨[.ref x,.str "__class__" tk],[]⟩) Q E ⟨hh,g,d,t,os⟩:=by
 have hT5:(⟨hh,g,d,t,os⟩:Δ).TypeIs (.builtin "object.__class__") "getset_descriptor":=F.typeOf_object_class;have f5:=F.typeOf_object_class;have f6:=F.slot_gs_get.lookup;have f7:=F.slot_gs_set.lookup;have L3:=gv (M:=Ο prog w) In ha
 repeat (any_goals (first | assumption | (with_reducible refine cy hx ?_;rw [hc]) | with_reducible refine L3.at ?_ | wp_step))
 refine PL In hx hc hm ?_
 repeat (any_goals (first | assumption | wp_step))
theorem V2 {nv:Α} {Q:Unit->Δ->Prop} (In:K.In hh) (hx:hh.get? x=some ox) (hc:ox.cls = .ref C) (hb:i3 K C (.type "BaseException")=some true) (hq:Q () ⟨hh,g,d,t,os⟩) :
  Κ (Ο prog w) A (checkBuiltinCall "BaseException.__getattribute__" ⟨[.ref x,nv],[]⟩) Q E ⟨hh,g,d,t,os⟩:=by
 have k1:builtinKind "BaseException.__getattribute__"=some .slot:=by decide +kernel
 have k2:splitId "BaseException.__getattribute__"=some ("BaseException","__getattribute__"):=by decide +kernel
 have k3:=F.args_bexc_ga (.ref x) nv;have L1:=looks_mroIn (M:=Ο prog w) In hb;simp only [checkBuiltinCall,k1,k2];refine Β ?_;unfold isInstance
 repeat (first | (with_reducible refine cy hx ?_;rw [hc]) | with_reducible refine L1.at ?_ | wp_step)
 exact hq
theorem PX {tk:Tok} {R:jp->Δ->Prop} (In:K.In hh) (hx:hh.get? x=some ox) (hc:ox.cls = .ref C) (hm:i3 K C (.type "object")=some true) (hb:i3 K C (.type "BaseException")=some true) (ha:c6 K (.ref C) "__class__"=some (some (.builtin "object.__class__")))
  (hq:R (.ok (.ret (.ref C))) ⟨hh,g,d,t,os⟩):d6 (Ο prog w) A (.call (.builtin "BaseException.__getattribute__") ⟨[.ref x,.str "__class__" tk],[]⟩) R ⟨hh,g,d,t,os⟩ :=
 fc (by decide +kernel) F.entry_bexc_ga (V2 In hx hc hb (PN In hx hc hm ha hq))
theorem P0 {tk:Tok} {Q:Α->Δ->Prop} (In:K.In hh) (hx:hh.get? x=some ox) (hc:ox.cls = .ref C) (hm:i3 K C (.type "object")=some true) (hb:i3 K C (.type "BaseException")=some true) (ha:c6 K (.ref C) "__class__"=some (some (.builtin "object.__class__")))
  (hga:c6 K (.ref C) "__getattribute__"=some (some (.builtin "BaseException.__getattribute__"))) (hgt:c6 K (.ref C) "__getattr__"=some none) (hbd:bindSpecial (.builtin "BaseException.__getattribute__") (.ref x)=pure (.builtin "BaseException.__getattribute__",[.ref x])) (hq:Q (.ref C) ⟨hh,g,d,t,os⟩) :
  Κ (Ο prog w) A (getAttrBy (.ref x) (.str "__class__" tk) false) Q E ⟨hh,g,d,t,os⟩:=by
 have e2:(dA "BaseException.__getattribute__"==dA "object.__getattribute__")=false:=by decide +kernel
 have e1:(onTheHeap (Ω C)&&dA "BaseException.__getattribute__"==dA "object.__getattribute__")=false:=by rw [e2];rfl
 have e0:(false&&onTheHeap (dA "BaseException.__getattribute__"))=false:=rfl;have L1:=gv (M:=Ο prog w) In hga;have L2:=gv (M:=Ο prog w) In hgt
 repeat (any_goals (first | assumption | (with_reducible refine cy hx ?_;rw [hc]) | with_reducible refine L1.at ?_ | with_reducible refine L2.at ?_ | wp_step))
 refine PX In hx hc hm hb ha ?_
 repeat (any_goals (first | assumption | wp_step))
theorem Ra {Q:Option Α->Δ->Prop} (In:K.In hh) (hx:hh.get? x=some ox) (hc:ox.cls = .ref C) (hm:i3 K C (.type "object")=some true) (hb:i3 K C (.type "BaseException")=some true) (ha:c6 K (.ref C) "__class__"=some (some (.builtin "object.__class__")))
  (hga:c6 K (.ref C) "__getattribute__"=some (some (.builtin "BaseException.__getattribute__"))) (hgt:c6 K (.ref C) "__getattr__"=some none) (hq:Q (some (.ref C)) ⟨hh,g,d,t+1,os⟩) :
  Κ (Ο prog w) A (getAttr? (.ref x) "__class__") Q E ⟨hh,g,d,t,os⟩:=by
 unfold getAttr? getAttrBy?;refine Β (wpAny_mkText (Β (js (P0 In hx hc hm hb ha hga hgt ?_ (Μ hq)))));exact Qr (.ref x)
theorem rG (hd:kS K C=true) (hm:i3 K C (.type "object")=some true) (hb:i3 K C (.type "BaseException")=some true) (ha:c6 K (.ref C) "__class__"=some (some (.builtin "object.__class__")))
  (hga:c6 K (.ref C) "__getattribute__"=some (some (.builtin "BaseException.__getattribute__"))) (hgt:c6 K (.ref C) "__getattr__"=some none):KitX K (.ref x) (.ref C) (fun h=>∃ o,h.get? x=some o/\o.cls = .ref C) where
 ty:=fun M h _ ⟨o,hx,hc⟩=>by rw [<- hc];exact (Looks.ld hx).andThen .now
 it:=fun M h In _=>by
  obtain ⟨cd,e,_⟩:=lj hd;unfold clsIn at e
  split at e
  case h_2=>cases e
  case h_1 q =>
   intro A' Q' E' s' k z;unfold isType;unfold loadHead;exact Β (kH (k _ _ (In _ _ q)) (Μ z))
 ne:=fun h tp dd its n sl In htp=>by
  obtain ⟨cd,e,_⟩:=lj hd;refine jb.mpr fun z=>?_
  have z1:C=tp:=Value.ref.inj (beq_iff_eq.mp z);subst z1;unfold clsIn at e
  split at e
  case h_2=>cases e
  case h_1 q =>
   have y:=(In _ _ q).symm.trans htp
   cases y
 ca:=fun {prog w A E Q s} In ⟨o,hx,hc⟩ k=>by
  obtain ⟨hh,g,d,t,os⟩:=s;exact Ra In hx hc hm hb ha hga hgt k
end
end PySem.W
namespace L2
open PySem PySem.Spec PyProof.Rows
structure cQ (K:Λ) (C:Addr):Prop where
 hd:kS K C=true
 hm:W.mroIn K C (.type "object")=some true
 hb:W.mroIn K C (.type "BaseException")=some true
 ha:c6 K (.ref C) "__class__"=some (some (.builtin "object.__class__"))
 hga:c6 K (.ref C) "__getattribute__"=some (some (.builtin "BaseException.__getattribute__"))
 hgt:c6 K (.ref C) "__getattr__"=some none
section
variable {X:Cx}
theorem We {g:Gx} {x:Str} {C:Addr} {pos:Pos} (h:g.mg x=some (.ref C)) (hX:X.gx=g:=by rfl) (hg:Gl X x:=by rfl) (hd:(x==("__debug__":Str))=false:=by decide):PE X (.Name x pos) (tC (.ref C)):=by
 subst hX;exact Ce hg h rfl hd
end
theorem Rb {X:Cx} {a:Addr}:(X.caught a).K=X.K:=rfl
theorem Qs {K:Λ} {C:Addr} {f:Str} (h:c6 K (.ref C) f=some none):YY K C f:=h
theorem Yt (es:List Expr) (x:Nat) (p:Pos) (es':List Expr) (env:Env):Χ (.Tuple es x p::es') env=(false,eval (.Tuple es x p) env)::Χ es' env:=rfl
theorem YL (es:List Expr) (p:Pos) (es':List Expr) (env:Env):Χ (.List es p::es') env=(false,eval (.List es p) env)::Χ es' env:=rfl
mutual
inductive je:ε->ε->Bool->Prop
 | int (i j:Int):je (.int i) (.int j) (decide (i<j))
 | tup {ds es:List ε} {b:Bool}:jL ds es b->je (.tuple ds) (.tuple es) b
inductive jL:List ε->List ε->Bool->Prop
 | nn:jL [] [] false
 | nc {e:ε} {es:List ε}:jL [] (e::es) true
 | cn {d:ε} {ds:List ε}:jL (d::ds) [] false
 | eq {d e:ε} {ds es:List ε} {b:Bool}:bi d e=true->jL ds es b->jL (d::ds) (e::es) b
 | ne {d e:ε} {ds es:List ε} {b:Bool}:bi d e=false->je d e b->jL (d::ds) (e::es) b
end
def wY (A:ζ) (s:Δ) (u v:Α) (b:Bool):Prop:=∀ (prog:Ψ) (w:θ) (E:Α->Δ->Prop) (Q:Α->Δ->Prop),Q (.bool b) s->Κ (Ο prog w) A (richCompare .Lt u v) Q E s
section
open PySem.SeqAt
open PySem.AutoSeq1 (wpAny_loadPart')
open PySem.MeetsSeq PySem.MeetsSeq2 PySem.MeetsSeq3
inductive Two (A:ζ) (s:Δ):List Α->List Α->Bool->Prop
 | nn:Two A s [] [] false
 | nc {v:Α} {vs:List Α}:Two A s [] (v::vs) true
 | cn {v:Α} {vs:List Α}:Two A s (v::vs) [] false
 | eq {u v:Α} {us vs:List Α} {b:Bool}:EqAt A s u v true->Two A s us vs b->Two A s (u::us) (v::vs) b
 | ne {u v:Α} {us vs:List Α} {b:Bool}:EqAt A s u v false->wY A s u v b->Two A s (u::us) (v::vs) b
theorem Rc (l b:Addr) (items items2:Array Α) (n n2:Nat) (dd dd2:Option Addr) (sl sl2:Array (Option Α)) (r:Bool) :
  Meets (Builtin.«tuple.__lt__» ⟨[.ref l,.ref b],[]⟩)
   (fun A R s=>s.heap.get? l=some { cls := .type "tuple",dict:=dd,data := .seq items n,slots:=sl }/\s.heap.get? b=some { cls := .type "tuple",dict:=dd2,data := .seq items2 n2,slots:=sl2 } /\
    Two A.in1 s items.toList items2.toList r/\R (.ok (.ret (.bool r))) s) :=
 .of_wp fun prog w A R s h=>by
  obtain ⟨hp,g,d,tk,os⟩:=s;obtain ⟨hl,hb,h2,h⟩:=h;have f2:=AutoSeq1.sub_tuple_tuple
  wp_walk using wpAny_loadPart' hl,wpAny_loadPart' hb,j3 _ (fun YQ b s'=>b.1=none/\s'=⟨hp,g,d,tk,os⟩/\∃ (vs ws:List Α),YQ=vs.zip ws /\
   vs.length+items2.size=ws.length+items.size/\Two A.in1 ⟨hp,g,d,tk,os⟩ vs ws r) _
  case turn =>
   rintro ⟨y,x⟩ YQ b s' ⟨hb',rfl,vs,ws,hz,hlen,ht⟩
   cases ht with
   | nn=>cases hz
   | nc=>cases hz
   | cn=>cases hz
   | eq he ht' =>
    rw [b0] at hz
    injection hz with hyx hrest
    injection hyx with hy hx
    subst hy hx;simp only [υ] at hlen;refine Β (he prog w _ _ ?_)
    wp_walk
    exact ⟨rfl,rfl,_,_,hrest,by omega,ht'⟩
   | ne he hlt =>
    rw [b0] at hz
    injection hz with hyx hrest
    injection hyx with hy hx
    subst hy hx;refine Β (he prog w _ _ ?_);have wZ:=hlt prog w
    wp_walk using wZ
    exact ⟨_,rfl,by simpa using h⟩
  case fin =>
   rintro ⟨b1,b2⟩ s' ⟨hb',rfl,vs,ws,hz,hlen,ht⟩;simp only at hb';subst hb';have hv:r=decide (items.size<items2.size):=by
    cases ht with
    | nn=>simp only [da] at hlen;exact (decide_eq_false (by omega)).symm
    | nc=>simp only [da,υ] at hlen;exact (decide_eq_true (by omega)).symm
    | cn=>simp only [da,υ] at hlen;exact (decide_eq_false (by omega)).symm
    | eq _ _=>rw [b0] at hz;cases hz
    | ne _ _=>rw [b0] at hz;cases hz
   rw [hv] at h
   wp_walk
   exact ⟨_,rfl,by simpa [Builtin.Tuple.tupleCompareSizes] using h⟩
  case h =>
   exact ⟨rfl,rfl,items.toList,items2.toList,rfl,by simp;omega,h2⟩
mutual
theorem Uy:∀ {d e:ε} {b:Bool},je d e b->∀ (A:ζ) (s:Δ) (u v:Α) (as bs:List Addr),Reads s.heap u d as->Reads s.heap v e bs->d.canLay0=true->e.canLay0=true->A.units+d.depth+1<fF->wY A s u v b
 | _,_,_,.int i j,A,s,u,v,as,bs,r1,r2,_,_,_=>by
  cases r1
  cases r2
  exact fun prog w E Q h=>HT.qW A s i _ j _ prog w E Q h
 | _,_,b,.tup (ds:=ds) (es:=es) hA,A,s,u,v,as,bs,r1,r2,l1,l2,hu=>by
  rw [fk] at l1 l2
  rw [df] at hu
  cases r1 with
  | @tuple a1 o1 vs1 n1 _ _ h1 c1 d1 q1 =>
  cases r2 with
  | @tuple a2 o2 vs2 n2 _ _ h2 c2 d2 q2 =>
  have ht:=Qt hA A.in1 s _ _ _ _ q1 q2 l1 l2 (show A.units+1+_+1<fF by omega);obtain ⟨cls,dd,data,sl⟩:=o1;obtain ⟨cls2,dd2,data2,sl2⟩:=o2;have c1':cls=fN "tuple":=c1;have c2':cls2=fN "tuple":=c2;have d1':data=lI vs1 n1:=d1;have d2':data2=lI vs2 n2:=d2;subst c1' c2' d1' d2';exact fun prog w E Q h=>richCompare_meets_room (op := .Lt) ⟨_,h1,rfl⟩ ⟨_,h2,rfl⟩ F.slot_tuple_lt F.entry_tuple_lt (F.args_tuple_lt_2 _ _) (Rc _ _ _ _ n1 n2 dd dd2 sl sl2 b)
   ⟨h1,h2,ht,show bo b≠Value.notImplemented/\Q (.bool b) s from ⟨(fun x=>nomatch x),h⟩⟩ (by omega)
theorem Qt:∀ {ds es:List ε} {b:Bool},jL ds es b->∀ (A:ζ) (s:Δ) (us vs:List Α) (as bs:List Addr),ll s.heap us ds as->ll s.heap vs es bs->bE ds=true->bE es=true->A.units+ap ds+1<fF->Two A s us vs b
 | _,_,_,.nn,A,s,us,vs,as,bs,r1,r2,_,_,_=>by cases r1;cases r2;exact .nn
 | _,_,_,.nc,A,s,us,vs,as,bs,r1,r2,_,_,_=>by cases r1;cases r2;exact .nc
 | _,_,_,.cn,A,s,us,vs,as,bs,r1,r2,_,_,_=>by cases r1;cases r2;exact .cn
 | _,_,b,.eq (d:=d) (e:=e) he hA,A,s,us,vs,as,bs,r1,r2,l1,l2,hu=>by
  rw [bE,de] at l1 l2
  rw [ap] at hu
  cases r1 with
  | cons q1 oW =>
  cases r2 with
  | cons q2 oX =>
  have h:=fo d e A s _ _ _ _ q1 q2 l1.1 l2.1 (by omega);rw [he] at h
  exact .eq h (Qt hA A s _ _ _ _ oW oX l1.2 l2.2 (by omega))
 | _,_,b,.ne (d:=d) (e:=e) he hR,A,s,us,vs,as,bs,r1,r2,l1,l2,hu=>by
  rw [bE,de] at l1 l2
  rw [ap] at hu
  cases r1 with
  | cons q1 oW =>
  cases r2 with
  | cons q2 oX =>
  have h:=fo d e A s _ _ _ _ q1 q2 l1.1 l2.1 (by omega);rw [he] at h
  exact .ne h (Uy hR A s _ _ _ _ q1 q2 l1.1 l2.1 (by omega))
end
variable {X:Cx}
theorem Rf (hu:X.A.units+66<fF):bT X (bu .Lt) (fun x y H Q=>∃ d e b,Den X.K H x d/\Den X.K H y e/\je d e b/\d.depth<=64/\Q (.bl b) H):=by
 intro pins s σ H x y v u Q I rx ry h;obtain ⟨d,e,b,hd,he,hc,dp,q⟩:=h;obtain ⟨as,ra⟩:=hd.reads I rx;obtain ⟨bs,rb⟩:=he.reads I ry;exact Uy hc _ _ _ _ _ _ ra rb hd.lay he.lay (by omega) _ _ _ _ ⟨.bl _,H,I,rfl,q⟩
end
end L2
namespace L2
open PySem PySem.Spec PyProof.Rows
mutual
inductive jf:ε->ε->Bool->Prop
 | int (i j:Int):jf (.int i) (.int j) (decide (i<=j))
 | tup {ds es:List ε} {b:Bool}:jM ds es b->jf (.tuple ds) (.tuple es) b
inductive jM:List ε->List ε->Bool->Prop
 | nn:jM [] [] true
 | nc {e:ε} {es:List ε}:jM [] (e::es) true
 | cn {d:ε} {ds:List ε}:jM (d::ds) [] false
 | eq {d e:ε} {ds es:List ε} {b:Bool}:bi d e=true->jM ds es b->jM (d::ds) (e::es) b
 | ne {d e:ε} {ds es:List ε} {b:Bool}:bi d e=false->jf d e b->jM (d::ds) (e::es) b
end
theorem Rg (A:ζ) (s:Δ) (a:Int) (t:Tok) (c:Int) (u:Tok) (prog:Ψ) (w:θ) (E:Α->Δ->Prop) (Q:Α->Δ->Prop) (h:Q (.bool (decide (a<=c))) s) :
  Κ (Ο prog w) A (richCompare .LtE (.int a t) (.int c u)) Q E s :=
 (PyProof.Rows.le_int h:Κ (Ο prog w) A (bu .LtE (.int a t) (.int c u)) Q E s)
def w6 (A:ζ) (s:Δ) (u v:Α) (b:Bool):Prop:=∀ (prog:Ψ) (w:θ) (E:Α->Δ->Prop) (Q:Α->Δ->Prop),Q (.bool b) s->Κ (Ο prog w) A (richCompare .LtE u v) Q E s
section
open PySem.SeqAt
open PySem.AutoSeq1 (wpAny_loadPart')
open PySem.MeetsSeq PySem.MeetsSeq2 PySem.MeetsSeq3
inductive fG (A:ζ) (s:Δ):List Α->List Α->Bool->Prop
 | nn:fG A s [] [] true
 | nc {v:Α} {vs:List Α}:fG A s [] (v::vs) true
 | cn {v:Α} {vs:List Α}:fG A s (v::vs) [] false
 | eq {u v:Α} {us vs:List Α} {b:Bool}:EqAt A s u v true->fG A s us vs b->fG A s (u::us) (v::vs) b
 | ne {u v:Α} {us vs:List Α} {b:Bool}:EqAt A s u v false->w6 A s u v b->fG A s (u::us) (v::vs) b
theorem Rh (l b:Addr) (items items2:Array Α) (n n2:Nat) (dd dd2:Option Addr) (sl sl2:Array (Option Α)) (r:Bool) :
  Meets (Builtin.«tuple.__le__» ⟨[.ref l,.ref b],[]⟩)
   (fun A R s=>s.heap.get? l=some { cls := .type "tuple",dict:=dd,data := .seq items n,slots:=sl }/\s.heap.get? b=some { cls := .type "tuple",dict:=dd2,data := .seq items2 n2,slots:=sl2 } /\
    fG A.in1 s items.toList items2.toList r/\R (.ok (.ret (.bool r))) s) :=
 .of_wp fun prog w A R s h=>by
  obtain ⟨hp,g,d,tk,os⟩:=s;obtain ⟨hl,hb,h2,h⟩:=h;have f2:=AutoSeq1.sub_tuple_tuple
  wp_walk using wpAny_loadPart' hl,wpAny_loadPart' hb,j3 _ (fun YQ b s'=>b.1=none/\s'=⟨hp,g,d,tk,os⟩/\∃ (vs ws:List Α),YQ=vs.zip ws /\
   vs.length+items2.size=ws.length+items.size/\fG A.in1 ⟨hp,g,d,tk,os⟩ vs ws r) _
  case turn =>
   rintro ⟨y,x⟩ YQ b s' ⟨hb',rfl,vs,ws,hz,hlen,ht⟩
   cases ht with
   | nn=>cases hz
   | nc=>cases hz
   | cn=>cases hz
   | eq he ht' =>
    rw [b0] at hz
    injection hz with hyx hrest
    injection hyx with hy hx
    subst hy hx;simp only [υ] at hlen;refine Β (he prog w _ _ ?_)
    wp_walk
    exact ⟨rfl,rfl,_,_,hrest,by omega,ht'⟩
   | ne he hlt =>
    rw [b0] at hz
    injection hz with hyx hrest
    injection hyx with hy hx
    subst hy hx;refine Β (he prog w _ _ ?_);have wZ:=hlt prog w
    wp_walk using wZ
    exact ⟨_,rfl,by simpa using h⟩
  case fin =>
   rintro ⟨b1,b2⟩ s' ⟨hb',rfl,vs,ws,hz,hlen,ht⟩;simp only at hb';subst hb';have hv:r=decide (items.size<=items2.size):=by
    cases ht with
    | nn=>simp only [da] at hlen;exact (decide_eq_true (by omega)).symm
    | nc=>simp only [da,υ] at hlen;exact (decide_eq_true (by omega)).symm
    | cn=>simp only [da,υ] at hlen;exact (decide_eq_false (by omega)).symm
    | eq _ _=>rw [b0] at hz;cases hz
    | ne _ _=>rw [b0] at hz;cases hz
   rw [hv] at h
   wp_walk
   exact ⟨_,rfl,by simpa [Builtin.Tuple.tupleCompareSizes] using h⟩
  case h =>
   exact ⟨rfl,rfl,items.toList,items2.toList,rfl,by simp;omega,h2⟩
mutual
theorem Uz:∀ {d e:ε} {b:Bool},jf d e b->∀ (A:ζ) (s:Δ) (u v:Α) (as bs:List Addr),Reads s.heap u d as->Reads s.heap v e bs->d.canLay0=true->e.canLay0=true->A.units+d.depth+1<fF->w6 A s u v b
 | _,_,_,.int i j,A,s,u,v,as,bs,r1,r2,_,_,_=>by
  cases r1
  cases r2
  exact fun prog w E Q h=>Rg A s i _ j _ prog w E Q h
 | _,_,b,.tup (ds:=ds) (es:=es) hA,A,s,u,v,as,bs,r1,r2,l1,l2,hu=>by
  rw [fk] at l1 l2
  rw [df] at hu
  cases r1 with
  | @tuple a1 o1 vs1 n1 _ _ h1 c1 d1 q1 =>
  cases r2 with
  | @tuple a2 o2 vs2 n2 _ _ h2 c2 d2 q2 =>
  have ht:=UA hA A.in1 s _ _ _ _ q1 q2 l1 l2 (show A.units+1+_+1<fF by omega);obtain ⟨cls,dd,data,sl⟩:=o1;obtain ⟨cls2,dd2,data2,sl2⟩:=o2;have c1':cls=fN "tuple":=c1;have c2':cls2=fN "tuple":=c2;have d1':data=lI vs1 n1:=d1;have d2':data2=lI vs2 n2:=d2;subst c1' c2' d1' d2';exact fun prog w E Q h=>richCompare_meets_room (op := .LtE) ⟨_,h1,rfl⟩ ⟨_,h2,rfl⟩ F.slot_tuple_le F.entry_tuple_le (F.args_tuple_le_2 _ _) (Rh _ _ _ _ n1 n2 dd dd2 sl sl2 b)
   ⟨h1,h2,ht,show bo b≠Value.notImplemented/\Q (.bool b) s from ⟨(fun x=>nomatch x),h⟩⟩ (by omega)
theorem UA:∀ {ds es:List ε} {b:Bool},jM ds es b->∀ (A:ζ) (s:Δ) (us vs:List Α) (as bs:List Addr),ll s.heap us ds as->ll s.heap vs es bs->bE ds=true->bE es=true->A.units+ap ds+1<fF->fG A s us vs b
 | _,_,_,.nn,A,s,us,vs,as,bs,r1,r2,_,_,_=>by cases r1;cases r2;exact .nn
 | _,_,_,.nc,A,s,us,vs,as,bs,r1,r2,_,_,_=>by cases r1;cases r2;exact .nc
 | _,_,_,.cn,A,s,us,vs,as,bs,r1,r2,_,_,_=>by cases r1;cases r2;exact .cn
 | _,_,b,.eq (d:=d) (e:=e) he hA,A,s,us,vs,as,bs,r1,r2,l1,l2,hu=>by
  rw [bE,de] at l1 l2
  rw [ap] at hu
  cases r1 with
  | cons q1 oW =>
  cases r2 with
  | cons q2 oX =>
  have h:=fo d e A s _ _ _ _ q1 q2 l1.1 l2.1 (by omega);rw [he] at h
  exact .eq h (UA hA A s _ _ _ _ oW oX l1.2 l2.2 (by omega))
 | _,_,b,.ne (d:=d) (e:=e) he hR,A,s,us,vs,as,bs,r1,r2,l1,l2,hu=>by
  rw [bE,de] at l1 l2
  rw [ap] at hu
  cases r1 with
  | cons q1 oW =>
  cases r2 with
  | cons q2 oX =>
  have h:=fo d e A s _ _ _ _ q1 q2 l1.1 l2.1 (by omega);rw [he] at h
  exact .ne h (Uz hR A s _ _ _ _ q1 q2 l1.1 l2.1 (by omega))
end
variable {X:Cx}
theorem Ri (hu:X.A.units+66<fF):bT X (bu .LtE) (fun x y H Q=>∃ d e b,Den X.K H x d/\Den X.K H y e/\jf d e b/\d.depth<=64/\Q (.bl b) H):=by
 intro pins s σ H x y v u Q I rx ry h;obtain ⟨d,e,b,hd,he,hc,dp,q⟩:=h;obtain ⟨as,ra⟩:=hd.reads I rx;obtain ⟨bs,rb⟩:=he.reads I ry;exact Uz hc _ _ _ _ _ _ ra rb hd.lay he.lay (by omega) _ _ _ _ ⟨.bl _,H,I,rfl,q⟩
variable {K:Λ}
theorem Rj (hu:X.A.units+66<fF) (h:X.K=K:=by rfl):bT X (bu .Lt) (fun x y H Q=>∃ d e b,Den K H x d/\Den K H y e/\je d e b/\d.depth<=64/\Q (.bl b) H):=by subst h;exact Rf hu
theorem Rk (hu:X.A.units+66<fF) (h:X.K=K:=by rfl):bT X (bu .LtE) (fun x y H Q=>∃ d e b,Den K H x d/\Den K H y e/\jf d e b/\d.depth<=64/\Q (.bl b) H):=by subst h;exact Ri hu
theorem aL.gQ {k:Nat} {A:ζ} (r:aL k A):A.units+66<cLine:=by have:=r.un;omega
end
end L2
namespace L2
open PySem
section
variable {src:List (Option Nat)} {te:TE} {σ:St} {H:Hp} {Q:VK}
theorem UW {J:It} {P:Hp->Prop} {xs:List V} (hJ:XZ J P xs) {H1:Hp} {D:Addr} (Rl:Nat->V->Hp->Prop) (st:∀ i y H H',Rl i y H->Yd H H'->Rl i y H') (su:∀ i y H zs zs',Rl i y H->H D=some (.lst zs)->Rl i y (upd H D (.lst zs')))
  (hP:∀ H',Yd H1 H'->P H') (hD:H1 D=none) (hlen:xs.length<=100000)
  (step:∀ (i:Nat) x H' zs,xs[i]?=some x->Yd H1 H'->H' D=some (.lst zs)->∀ R:VK,(∀ y aF,Yd H' aF->Rl i y aF->R y aF)->te (some x::YG src σ) H' R)
  (fin:∀ (ys:List V) H',Yd H1 H'->H' D=some (.lst ys)->ys.length=xs.length->(∀ (j:Nat) y,ys[j]?=some y->Rl j y H')->Q (.ref D) H'):LC (none::src) J (YF 0) Xy te σ H1 Q D:=by
 have h6:100000<sizeLine:=by decide
 refine Ut hJ (fun i zs σ' H'=>zs.length=i/\(∃ o,σ'=o::YG src σ)/\Yd H1 H'/\H' D=some (.lst zs)/\∀ (j:Nat) y,zs[j]?=some y->Rl j y H')
  ⟨rfl,⟨none,rfl⟩,.aj hD _,Yb,fun j y h=>by simp at h⟩ (fun i zs σ' H' ⟨_,_,p1,p2,_⟩=>⟨hP _ p1,p2⟩) (Wd 0) ?_ ?_
 ·rintro i zs σ' H' x hx ⟨hi',⟨o,rfl⟩,sm,hd,hts⟩
  have hi:=(Ι.mp hx).1
  show te (some x::YG src σ) H' _
  refine step i x H' zs hx sm hd _ fun y aF s2 hy=>⟨s2 _ _ hd,by omega,by simp [hi'],⟨_,rfl⟩,.bC hD (sm.trans s2) _,Yb,fun j z hj=>su _ _ _ _ _ ?_ (s2 _ _ hd)⟩
  rcases Nat.lt_trichotomy j zs.length with h1 | h1 | h1
  ·rw [ar h1] at hj
   exact st _ _ _ _ (hts j z hj) s2
  ·have hb:y=z:=by subst h1;simpa using hj
   subst hb;rw [h1,hi'];exact hy
  ·rw [ef (by rw [Ρ,aa];omega)] at hj;cases hj
 ·rintro zs σ' H' ⟨hn,_,sm,hd,hts⟩
  exact fin zs H' sm hd hn hts
theorem Rm {K:Λ} {tl:TE} {xs:List V} {b:Addr} (Rl:Addr->Nat->V->Hp->Prop) (st:∀ D i y H H',Rl D i y H->Yd H H'->Rl D i y H') (su:∀ D i y H zs zs',Rl D i y H->H D=some (.lst zs)->Rl D i y (upd H D (.lst zs')))
  (ha:∀ R:V->Hp->Prop,R (.ref b) H->tl σ H R) (hS:ao K H b xs) (hlen:xs.length<=100000)
  (step:∀ D (i:Nat) x H' zs,xs[i]?=some x->Yd H H'->H' D=some (.lst zs)->∀ R:VK,(∀ y aF,Yd H' aF->Rl D i y aF->R y aF)->te (some x::YG src σ) H' R)
  (fin:∀ D (ys:List V) H',H D=none->Yd H H'->H' D=some (.lst ys)->ys.length=xs.length->(∀ (j:Nat) y,ys[j]?=some y->Rl D j y H')->Q (.ref D) H'):eX (none::src) (Wc K tl) (YF 0) Xy te σ H Q :=
 ha _ ⟨b,rfl,⟨xs,hS⟩,fun D hD=>UW (XT.imp fun H' (e:Yd H H')=>e.seq hS) (Rl D) (st D) (su D) (fun _ e=>e) hD hlen (fun i x H' zs hx sm hd R r=>step D i x H' zs hx sm hd R r) fun ys H' sm=>fin D ys H' hD sm⟩
theorem Rn {K:Λ} {tl:TE} {xs:List V} {b:Addr} (Rl:Addr->Nat->V->Hp->Prop) (st:∀ D i y H H',Rl D i y H->Yd H H'->Rl D i y H') (su:∀ D i y H zs zs',Rl D i y H->H D=some (.lst zs)->Rl D i y (upd H D (.lst zs')))
  (ha:∀ R:V->Hp->Prop,R (.ref b) H->tl σ H R) (hS:aA K H b xs) (hlen:xs.length<=100000)
  (step:∀ D (i:Nat) x H' zs,xs[i]?=some x->Yd H H'->H' D=some (.lst zs)->∀ R:VK,(∀ y aF,Yd H' aF->Rl D i y aF->R y aF)->te (some x::YG src σ) H' R)
  (fin:∀ D (ys:List V) H',H D=none->Yd H H'->H' D=some (.lst ys)->ys.length=xs.length->(∀ (j:Nat) y,ys[j]?=some y->Rl D j y H')->Q (.ref D) H'):eX (none::src) (qN K tl) (YF 0) Xy te σ H Q :=
 ha _ ⟨b,rfl,⟨xs,hS⟩,fun D hD=>UW (MN.imp fun H' (e:Yd H H')=>e.tup hS) (Rl D) (st D) (su D) (fun _ e=>e) hD hlen (fun i x H' zs hx sm hd R r=>step D i x H' zs hx sm hd R r) fun ys H' sm=>fin D ys H' hD sm⟩
end
mutual
inductive VL (H:Hp):V->ε->List Addr->Prop
 | int (i:Int):VL H (.int i) (.int i) []
 | str (x:Str) (h:dq x=true):VL H (.str x) (.str x) []
 | lst {a:Addr} {vs:List V} {ds:List ε} {L:List Addr}:H a=some (.lst vs)->vs.length<=10000->oY H vs ds L->VL H (.ref a) (.list ds) (a::L)
 | tup {a:Addr} {vs:List V} {ds:List ε} {L:List Addr}:H a=some (.tup vs)->vs.length<=10000->oY H vs ds L->VL H (.ref a) (.tuple ds) L
inductive oY (H:Hp):List V->List ε->List Addr->Prop
 | nil:oY H [] [] []
 | cons {v:V} {d:ε} {L:List Addr} {vs:List V} {ds:List ε} {L':List Addr}:VL H v d L->oY H vs ds L'->oY H (v::vs) (d::ds) (L++L')
end
end L2
namespace L2
open PySem
section
variable {src:List (Option Nat)} {te:TE} {σ:St} {H:Hp} {Q:VK}
theorem Vo {ta:TA} {n:Nat} (I:Addr->Nat->List V->Hp->Prop) (ha:∀ R:List V->Hp->Prop,R [.int n] H->ta σ H R) (hlen:n<=100000)
  (i0:∀ D,H D=none->I D 0 [] (upd H D (.lst []))) (dl:∀ D i zs H',I D i zs H'->zs.length=i/\H' D=some (.lst zs))
  (step:∀ D (i:Nat) zs H',H D=none->i<n->I D i zs H'->∀ R:VK,(∀ y aF,aF D=some (.lst zs)->I D (i+1) (zs++[y]) (upd aF D (.lst (zs++[y])))->R y aF)->te (some (.int i)::YG src σ) H' R)
  (fin:∀ D zs H',H D=none->I D n zs H'->Q (.ref D) H'):eX (none::src) (vL ta) (YF 0) Xy te σ H Q:=by
 refine ha _ ⟨n,rfl,by omega,by omega,fun D hD=>?_⟩;have h6:100000<sizeLine:=by decide
 refine Ut (MP (lo:=0) (n:=n) (P:=fun _=>True)) (fun i zs σ' H'=>(∃ o,σ'=o::YG src σ)/\i<=n/\I D i zs H') ⟨⟨none,rfl⟩,ay _,i0 D hD⟩ (fun i zs σ' H' q=>⟨trivial,(dl _ _ _ _ q.2.2).2⟩) (Wd 0) ?_ ?_
 ·rintro i zs σ' H' x hx ⟨⟨o,rfl⟩,_,hI⟩
  have hi:i<n:=by have:=(Ι.mp hx).1;simpa using this
  rw [Ξ,List.getElem?_range hi] at hx
  have e:V.int (0+(i:Int))=x:=Θ hx;rw [Int.zero_add] at e
  subst e;have hl:=(dl _ _ _ _ hI).1
  show te (some (.int i)::YG src σ) H' _
  exact step D i zs H' hD hi hI _ fun y aF hd hI'=>⟨hd,by omega,⟨_,rfl⟩,hi,hI'⟩
 ·rintro zs σ' H' ⟨_,_,hI⟩
  exact fin D zs H' hD (by simpa using hI)
end
end L2
namespace L2
open PySem PySem.Spec PyProof.Rows
theorem Ww {P:Ψ} {w:θ} {X:Cx}:XX (fV P w) X (fun _ _ _=>False):=by
 intro pins σ H s e s' I h;obtain ⟨_,_,_,_,_,_,_,_,_,_,z⟩:=h;exact z.elim
def Ro (l:List Str) (v:Str):List Str:=if l.any (·==v) then l else l++[v]
def met (val:Nat->Str) (i:Nat):List Str:=((bj i).map val).foldl Ro []
def sg (x:Str) (i:Nat):Str:=⟨#[x.cps.getD i 0]⟩
def Jh (a:Addr) (n:Nat):HO := .ext fun h=>∃ (o:Obj) (es:Array (Int×Α)) (ep:Nat) (t:SetTable),h.get? a=some o/\o.ExactSet/\o.data = .set es ep t/\t.fits es.size=true/\es.size=n/\n<scanBound
section
variable {X:Cx} {e lo st:Expr} {te tl ts:TE} {pos p2:Pos}
def Fe (K:Λ) (te tl ts:TE):TE:=fun σ H Q=>te σ H fun x H1=>tl σ H1 fun y H2=>ts σ H2 fun z H3 =>
 ∃ (a:Addr) (xs:List V) (k n:Int),x = .ref a/\y = .int k/\z = .int n/\0<=k/\0<n/\ao K H3 a xs/\∀ p ys,H3 p=none->(∀ v∈ys,v∈xs)->ys.length<=xs.length->Q (.ref p) (upd H3 p (.lst ys))
end
def Fg:R2:=fun y x H Q=>∃ a o,x = .ref a/\rA H a y o/\Q (.bl (!o.isSome)) H
def xg:R2:=fun y x H Q=>∃ a o,x = .ref a/\rA H a y o/\Q (.bl o.isSome) H
end L2
namespace L2
def UX (a b:TE):TE:=fun σ H Q=>a σ H Q\/b σ H Q
theorem Rp {X:Cx} {e:PySem.Expr} {a b:TE} (ha:PE X e a) (hb:PE X e b):PE X e (UX a b):=fun pins s σ H Q I h=>h.elim (fun z=>ha pins s σ H Q I z) (fun z=>hb pins s σ H Q I z)
end L2
namespace L2
open PySem PySem.Spec PyProof.Rows
section
variable {g:TG} {tb:TS} {D:Ends} {σ:St} {H:Hp}
theorem Rq {K:Λ} {ta:TA} {a:Addr} {xs:List V} (Pv:Nat->St->Hp->Prop) (ha:∀ R:List V->Hp->Prop,R [.ref a] H->ta σ H R) (h0:Pv 0 σ H) (hl:∀ i σ H,i<=xs.length->Pv i σ H->ao K H a xs)
  (hs:∀ i x σ H T,xs[i]?=some x->Pv i σ H->H T=none->g (.ref T) σ (upd H T (.tup [.int (i:Int),x])) fun σ2 H2=>tb { D with nx:=Pv (i+1),ct:=Pv (i+1),bk:=D.nx } σ2 H2) (hd:∀ σ H,Pv xs.length σ H->D.nx σ H):Vw (Ek K ta) g tb D σ H:=by
 refine ha _ ⟨a,xs,rfl,hl 0 σ H (ay _) h0,?_⟩;refine ⟨fun i m σ H=>m=xs.length - i/\i<=xs.length/\Pv i σ H,⟨xs.length,by simp,ay _,h0⟩,?_⟩;rintro i m σ H ⟨rfl,hi,p⟩;have q:=hl i σ H hi p;by_cases hlt:i<xs.length
 ·have hx:xs[i]?=some xs[i]:=Η hlt
  refine .inr ⟨⟨xs,_,q,hx⟩,Pv (i+1),fun σ' H' p'=>⟨xs.length - (i+1),by omega,rfl,hlt,p'⟩,?_⟩;rintro v H' ⟨T,rfl,hT,heq⟩;have e:=heq xs _ q hx;subst e;exact hs i _ σ H T hx p hT
 ·have e:i=xs.length:=by omega
  subst e;exact .inl ⟨⟨xs,q,Φ _⟩,hd σ H p⟩
end
end L2
namespace L2
open PySem
theorem UY {X:Cx} {K:Λ} (h:X.K=K:=by rfl):XM X (.type "tuple") (fun xs H Q=>∃ p ys,xs=[.ref p]/\((ao K H p ys/\∀ l,H l=none->Q (.ref l) (upd H l (.tup ys)))\/aA K H p ys/\Q (.ref p) H)):=by subst h;exact Xs
theorem Rr {K:Λ} {src:List (Option Nat)} {te tl:TE} {σ:St} {H:Hp} {Q:VK} (G:Addr->List V->Hp->Prop) (ha:∀ R:V->Hp->Prop,(∀ b xs H1,ao K H1 b xs->G b xs H1->R (.ref b) H1)->tl σ H R)
  (hb:∀ b xs H1,ao K H1 b xs->G b xs H1->xs.length<=100000/\∃ Rl:Addr->Nat->V->Hp->Prop,(∀ D i y H H',Rl D i y H->Yd H H'->Rl D i y H')/\(∀ D i y H zs zs',Rl D i y H->H D=some (.lst zs)->Rl D i y (upd H D (.lst zs'))) /\
   (∀ D (i:Nat) x H' zs,xs[i]?=some x->Yd H1 H'->H' D=some (.lst zs)->∀ R:VK,(∀ y aF,Yd H' aF->Rl D i y aF->R y aF)->te (some x::YG src σ) H' R) /\
   (∀ D (ys:List V) H',H1 D=none->Yd H1 H'->H' D=some (.lst ys)->ys.length=xs.length->(∀ (j:Nat) y,ys[j]?=some y->Rl D j y H')->Q (.ref D) H')):eX (none::src) (Wc K tl) (YF 0) Xy te σ H Q :=
 ha _ fun b xs H1 hS hG=>by
  obtain ⟨hlen,Rl,st,su,step,fin⟩:=hb b xs H1 hS hG;exact ⟨b,rfl,⟨xs,hS⟩,fun D hD=>UW (XT.imp fun H' (e:Yd H1 H')=>e.seq hS) (Rl D) (st D) (su D) (fun _ e=>e) hD hlen (fun i x H' zs hx sm hd R r=>step D i x H' zs hx sm hd R r) fun ys H' sm=>fin D ys H' hD sm⟩
end L2
namespace L2
open PySem PySem.Spec PyProof.Rows
abbrev cD (f:Addr) (fd:bt):HO := .ext fun h=>h.get? f=some { cls := .type "function",data := .func fd }
abbrev dw (c:Addr) (q:Str):HO := .ext fun h=>h.CodeRec (.ref c) q
abbrev WY (c:Addr) (v:V):HO := .ext fun h=>∃ u,Yx v u/\h.IsCell c (some u)
section
variable {P:Ψ} {w:θ} {H H':Hp} {h h':Heap}
theorem xq {f:Addr} {fd:bt} (e:h.get? f=some { cls := .type "function",data := .func fd }):YK P w H h f (cD f fd):=⟨e,⟨_,e⟩,fun _ _ p k=>k _ p⟩
theorem Rt {c:Addr} {q:Str} (e:h.CodeRec (.ref c) q):YK P w H h c (dw c q):=by
 obtain ⟨c',o,vs,t,e1,e2,e3⟩:=id e
 cases e1
 refine ⟨e,⟨_,e2⟩,fun h1 h2 p k=>?_⟩;obtain ⟨c',o,vs,t,e1,e2,e3⟩:=p
 cases e1
 exact ⟨c,o,vs,t,rfl,k _ e2,e3⟩
theorem Uc {c:Addr} {v:V} {u:Α} (r:Yx v u) (e:h.IsCell c (some u)):YK P w H h c (WY c v):=by
 obtain ⟨o,e1,e2⟩:=id e;refine ⟨⟨u,r,e⟩,⟨_,e1⟩,fun h1 h2 p k=>?_⟩;obtain ⟨u,r,o,e1,e2⟩:=p;exact ⟨u,r,o,k _ e1,e2⟩
theorem bA.track {c:Addr} {o:HO} (x:bA P w H h) (hn:H c=none) (new:YK P w (upd H c o) h c o):bA P w (upd H c o) h:=fun b u e=>by
 by_cases hb:b=c
 ·subst hb;rw [Yb] at e;cases e;exact new
 ·rw [Ye hb] at e
  exact (x b u e).stay (fun _ _ _ q=>q) (fun d q=>by rw [Ye (Yk q hn)];exact q) fun d xs q=>by rw [Ye (Yk q hn)];exact q
end
def off (H:Hp) (cs:List Addr):Hp:=fun b=>if b∈cs then none else H b
def on (H' H:Hp) (cs:List Addr):Hp:=fun b=>if b∈cs then H b else H' b
section
variable {H H':Hp} {cs:List Addr} {b:Addr} {o:HO}
theorem Vf (h:b∈cs):off H cs b=none:=if_pos h
theorem YU (h:b∉cs):off H cs b=H b:=if_neg h
theorem QX (h:b∈cs):on H' H cs b=H b:=if_pos h
theorem Xl (h:b∉cs):on H' H cs b=H' b:=if_neg h
theorem XD (h:H b=none):off H cs b=none:=by unfold off;split<;>first | rfl | exact h
theorem VE (h:off H cs b=some o):H b=some o/\b∉cs:=by
 by_cases hb:b∈cs
 ·rw [Vf hb] at h;cases h
 ·rw [YU hb] at h;exact ⟨h,hb⟩
end
abbrev Yy:=List (Str×Addr×V)
def Yy.cl (l:Yy):List (Str×Addr):=l.map fun p=>(p.1,p.2.1)
def Yy.as (l:Yy):List Addr:=l.map fun p=>p.2.1
def Yy.vs (l:Yy):List V:=l.map fun p=>p.2.2
def Yy.In (l:Yy) (H:Hp):Prop:=∀ p∈l,H p.2.1=some (WY p.2.1 p.2.2)
section
variable {l:Yy} {H:Hp}
theorem Y4 {c:Addr} (h:c∈l.as):∃ p∈l,p.2.1=c:=by
 obtain ⟨p,hp,e⟩:=ψ.mp h;exact ⟨p,hp,e⟩
theorem Wf:∀ {l:Yy} {x:Str} {c:Addr},l.cl.lookup x=some c->∃ p∈l,p.1=x/\p.2.1=c
 | p::l,x,c,h=>by
  rw [Yy.cl,ae,bg] at h
  cases hb:x==p.1 with
  | true=>rw [hb] at h;exact ⟨p,.head _,(eq_of_beq hb).symm,Θ h⟩
  | false =>
   rw [hb] at h
   obtain ⟨q,h1,h2⟩:=Wf (l:=l) h;exact ⟨q,.tail _ h1,h2⟩
theorem VF:∀ {l:Yy},(l.map (·.1)).Nodup->∀ p∈l,l.cl.lookup p.1=some p.2.1
 | a::q,nd,p,hp=>by
  rw [ae,a9] at nd
  rw [Yy.cl,ae,bg];rcases Υ.mp hp with rfl | hp
  ·simp
  ·have:(p.1==a.1)=false:=by
    rw [beq_eq_false_iff_ne];intro z;exact nd.1 (z▸eC hp)
   rw [this];exact VF nd.2 p hp
theorem Fi {b:Addr} {xs:List V} (hl:l.In H) (h:H b=some (.tup xs)):off H l.as b=some (.tup xs):=by
 rw [YU fun hb=>?_]
 ·exact h
 ·obtain ⟨p,hp,rfl⟩:=Y4 hb
  rw [hl p hp] at h;cases h
theorem UZ {b:Addr} {o:HO} (hl:l.In H) (h:H b=some o) (ho:∀ φ,o ≠ .ext φ):off H l.as b=some o:=by
 rw [YU fun hb=>?_]
 ·exact h
 ·obtain ⟨p,hp,rfl⟩:=Y4 hb
  rw [hl p hp] at h
  exact ho _ (Θ h).symm
theorem Ru {P:Ψ} {w:θ} {h:Heap} (hl:l.In H) (x:bA P w H h):bA P w (off H l.as) h:=fun b o e=>by
 obtain ⟨e1,e2⟩:=VE e;refine (x b o e1).stay (fun _ _ _ q=>q) (fun c q=>UZ hl q fun φ z=>by cases z) fun c xs q=>Fi hl q
end
def VG (P:Ψ) (w:θ) (K:Λ) (mg:Str->Option Α) (base:Heap) (N:List Str) (qual:Str) (scope:dL) (f:Addr) (cd:Α) (cl:List (Str×Addr)) (A:ζ) (outer:List Env) (s:Δ) (H:Hp):Cx where
 prog:=P
 w:=w
 K:=K
 mg:=mg
 base:=base
 A:=A.deeper (W.envX qual scope s.heap.objs.size f cd cl)
 N:=N
 s₀:=s
 H₀:=H
 env:=W.envX qual scope s.heap.objs.size f cd cl
 outer:=outer
 stack:=W.envX qual scope s.heap.objs.size f cd cl::outer
 ex:=[]
 calm:=true
 fn:=fun _=>false
 pn:=[]
 xe:=fun _ _=>False
structure cJ (N ps:List Str) (l:List Str) (sc:dL):Prop where
 kind:sc.kind = .function
 co:sc.isCoroutine=false
 gen:sc.isGenerator=false
 nd:N.Nodup
 pre:N.take ps.length=ps
 suf:N.drop (N.length - l.length)=l
 len:ps.length+l.length<=N.length
 par:∀ x∈ps,sc.names.lookup x=some .local
 Rv:∀ x∈l,sc.names.lookup x=some .free
 jg:∀ y∈sc.names,y.2 ≠ .cell
 all:∀ y∈sc.names,y.2 = .free->y.1∈l
def WN (N:List Str) (vs fv:List V):St:=vs.map some++List.replicate (N.length - vs.length - fv.length) none++fv.map some
section
variable {P:Ψ} {w:θ} {K:Λ} {mg:Str->Option Α} {base:Heap} {N ps:List Str} {qual name:Str} {scope:dL} {f c:Addr} {A:ζ} {outer:List Env} {s:Δ} {H:Hp} {us:List Α} {vs:List V} {l:Yy} {cd:Α}
theorem U0:∀ {ps:List Str} {us:List Α} {i:Nat} {x:Str} {u:Α},ps.Nodup->ps[i]?=some x->us[i]?=some u->(ps.zip us).reverse.lookup x=some u:=by
 intro ps us i x u nd h1 h2;have hm:(x,u)∈ps.zip us:=Τ (show (ps.zip us)[i]?=some (x,u) from dm.mpr ⟨h1,h2⟩);have key:∀ (q:List (Str×Α)),(q.map (·.1)).Nodup->(x,u)∈q->q.lookup x=some u:=by
  intro q
  induction q with
  | nil=>intro _ h;cases h
  | cons a q ih =>
   intro nd h;rw [bg];rw [ae,a9] at nd
   rcases Υ.mp h with rfl | h
   ·simp
   ·have:(x==a.1)=false:=by
     rw [beq_eq_false_iff_ne];intro z;exact nd.1 (z▸eC h)
    rw [this];exact ih nd.2 h
 refine key _ ?_ (List.mem_reverse.mpr hm);rw [List.map_reverse];have hz:∀ (ps:List Str) (us:List Α),ps.Nodup->((ps.zip us).map (·.1)).Nodup/\∀ z∈(ps.zip us).map (·.1),z∈ps:=by
  intro ps
  induction ps with
  | nil=>intro us _;simp
  | cons a ps ih =>
   intro us nd
   cases us with
   | nil=>simp
   | cons u us =>
    have nd':=a9.mp nd;obtain ⟨i1,i2⟩:=ih us nd'.2;rw [b0,ae];refine ⟨a9.mpr ⟨fun hm=>nd'.1 (i2 _ hm),i1⟩,fun z hz=>?_⟩;rcases Υ.mp hz with rfl | hz
    ·exact .head _
    ·exact .tail _ (i2 z hz)
 exact List.pairwise_reverse.mpr ((hz ps us nd).1.imp fun h=>ah h)
theorem Vp {h1:Heap} {tk:Nat} (S:cJ N ps (l.map (·.1)) scope) (hnd:l.as.Nodup) (hd:A.handled=none) (e0:dg P w K mg base A outer s H) (hl:vs.length=ps.length) (r:Ym vs us) (cellAt:∀ p∈l,∃ u,Yx p.2.2 u/\s.heap.IsCell p.2.1 (some u)) (hoff:bA P w (off H l.as) s.heap)
  (hns:h1.Ns s.heap.objs.size (fun x=>(ps.zip us).reverse.lookup x)) (hk:∀ b o,s.heap.get? b=some o->h1.get? b=some o) :
  Inv (VG P w K mg base N qual scope f cd l.cl A outer s (off H l.as)) [] (WN N vs l.vs) (off H l.as) { s with heap:=h1,toks:=tk }:=by
 have acn:l.cl.map (·.1)=l.map (·.1):=by rw [Yy.cl,d3];rfl
 have Rx:(l.map (·.1)).Nodup:=by rw [<- S.suf];exact S.nd.sublist (i9 _ _)
 have iY:∀ b:Addr,b∉(VG P w K mg base N qual scope f cd l.cl A outer s (off H l.as)).ex:=fun b z=>absurd (show b∈([]:List Addr) from z) (by simp)
 have lk:=VF Rx;have JG:∀ p∈l,∀ q∈l,p.2.1=q.2.1->p=q:=fun p hp q hq e=>by
  obtain ⟨i,hi,e1⟩:=List.getElem_of_mem hp;obtain ⟨j,hj,e2⟩:=List.getElem_of_mem hq;have h1:l.as[i]?=some p.2.1:=by rw [Yy.as,Ξ,Η hi,e1];rfl
  have h2:l.as[j]?=some p.2.1:=by rw [Yy.as,Ξ,Η hj,e2,e];rfl
  have hij:i=j:=by
   obtain ⟨g1,g2⟩:=Ι.mp h1;obtain ⟨g3,g4⟩:=Ι.mp h2;exact (List.getElem_inj hnd).mp (g2.trans g4.symm)
  subst hij;rw [<- e1,<- e2]
 refine ⟨⟨e0.mod,S.kind,rfl,rfl,Φ _,fun y z c h1 h2=>?_,fun y hy=>?_,fun y c h _=>absurd h (by show ¬ (false=true);decide),fun _=>hd,Around.frames_deeper e0.frames,.inr ⟨rfl,rfl⟩,fun b z=>absurd z (iY b),fun b o e=>⟨(e0.bs b o e).1,XD (e0.bs b o e).2⟩,e0.dG,fun b _ _=>iY b,fun b z=>absurd z (iY b),e0.cu,fun b hb=>XD (e0.eE b hb)⟩,
  rfl,e0.bare,Un.kept hk,⟨_,hns,fun i y v h1 h2 h3=>?_⟩,fun y c h=>?_,XD (e0.hok.fresh (Φ _)),fun y c h=>?_,fun p hp=>absurd (show p∈([]:List (Addr×Obj)) from hp) (by simp),hoff.kept hk,?_⟩
 ·obtain ⟨p,hp,e1,e2⟩:=Wf h1
  obtain ⟨q,hq,e3,e4⟩:=Wf h2;have:=JG p hp q hq (e2.trans e4.symm);rw [<- e1,<- e3,this]
 ·have hy:scope.names.lookup y=some .cell\/scope.names.lookup y=some .free:=hy
  rcases hy with hy | hy
  ·exact absurd rfl (S.jg _ (c9 hy))
  ·obtain ⟨p,hp,e⟩:=ψ.mp (S.all _ (c9 hy) rfl)
   exact ⟨p.2.1,by show l.cl.lookup y=_;rw [<- show p.1=y from e];exact lk p hp⟩
 ·have hvl:l.vs.length=(l.map (·.1)).length:=by rw [Yy.vs,Ζ,Ζ]
  have hsl:=S.len;unfold WN at h2;by_cases hi:i<vs.length
  ·have ha:vs[i]?=some v:=by
    rw [List.append_assoc,ar (by simpa using hi),Ξ] at h2
    cases e:vs[i]? with
    | none=>rw [e] at h2;cases h2
    | some a=>rw [e] at h2;cases h2;rfl
   obtain ⟨u,hu,rv⟩:=r.get ha;have hp:ps[i]?=some y:=by
    rw [<- S.pre,List.getElem?_take_of_lt (by omega)];exact h1
   have tE:ps.Nodup:=by rw [<- S.pre];exact S.nd.sublist (List.take_sublist _ _)
   exact ⟨u,rv,.inl ⟨S.par y (Τ hp),U0 tE hp hu⟩⟩
  ·by_cases hi2:i<vs.length+(N.length - vs.length - l.vs.length)
   ·rw [ar (by rw [Ρ,Ζ,eW];exact hi2),aE (by rw [Ζ];omega),List.getElem?_replicate] at h2
    split at h2<;>cases h2
   ·rw [aE (by rw [Ρ,Ζ,eW];omega),Ρ,Ζ,eW,Ξ] at h2
    obtain ⟨v',hv',e⟩:=ο.mp h2
    cases e
    have hv2:(l.map fun p=>p.2.2)[i - (vs.length+(N.length - vs.length - l.vs.length))]?=some _:=hv';rw [Ξ] at hv2
    obtain ⟨p,hp,rfl⟩:=ο.mp hv2;have hpm:=Τ hp;have hy:(l.map (·.1))[i - (vs.length+(N.length - vs.length - l.vs.length))]?=some y:=by
     rw [<- S.suf,iS];rw [show N.length - (l.map (·.1)).length+(i - (vs.length+(N.length - vs.length - l.vs.length)))=i by omega];exact h1
    rw [Ξ,hp] at hy
    have ey:p.1=y:=Θ hy;obtain ⟨u,ru,hc⟩:=cellAt p hpm;obtain ⟨o,ho,hd'⟩:=hc;refine ⟨u,ru,.inr ⟨.inr ?_,p.2.1,by show l.cl.lookup y=_;rw [<- ey];exact lk p hpm,o,hk _ _ ho,hd'⟩⟩;exact S.Rv y (by rw [<- ey];exact eC hpm)
 ·obtain ⟨p,hp,e1,e2⟩:=Wf (show l.cl.lookup y=some c from h)
  obtain ⟨u,ru,o,ho,hd'⟩:=cellAt p hp;exact ⟨some u,o,by rw [<- e2];exact hk _ _ ho,hd'⟩
 ·obtain ⟨p,hp,e1,e2⟩:=Wf (show l.cl.lookup y=some c from h)
  exact Vf (by rw [<- e2];exact eC hp)
 ·unfold WN
  show _=N.length
  have hvl:l.vs.length=(l.map (·.1)).length:=by rw [Yy.vs,Ζ,Ζ]
  have hsl:=S.len;rw [Ρ,Ρ,Ζ,Ζ,eW];omega
theorem Ry {h1:Heap} {tk:Nat} (S:cJ N ps (l.map (·.1)) scope) (hnd:l.as.Nodup) (hd:A.handled=none) (e0:dg P w K mg base A outer s H) (hl:vs.length=ps.length) (r:Ym vs us) (hin:l.In H)
  (hns:h1.Ns s.heap.objs.size (fun x=>(ps.zip us).reverse.lookup x)) (hk:∀ b o,s.heap.get? b=some o->h1.get? b=some o) :
  Inv (VG P w K mg base N qual scope f cd l.cl A outer s (off H l.as)) [] (WN N vs l.vs) (off H l.as) { s with heap:=h1,toks:=tk } :=
 Vp S hnd hd e0 hl r (fun p hp=>(e0.hok _ _ (hin p hp)).1) (Ru hin e0.hok) hns hk
theorem Fj {Q:VK} {v:V} {u:Α} {σ':St} {H':Hp} {s':Δ} (e0:dg P w K mg base A outer s H) (hin:l.In H) (J:Inv (VG P w K mg base N qual scope f cd l.cl A outer s (off H l.as)) [] σ' H' s') (hlk:∀ p∈l,l.cl.lookup p.1=some p.2.1) (rv:Yx v u) (q:(∀ c∈l.as,H' c=none)->Q v (on H' H l.as)) :
  CE outer P w H s Q u s':=by
 have un:=J.base;have nin:∀ {b:Addr},H b=none->b∉l.as:=fun hb hm=>by
  obtain ⟨p,hp,rfl⟩:=Y4 hm;rw [hin p hp] at hb;cases hb
 have aV:∀ c∈l.as,H' c=none:=fun c hc=>by
  obtain ⟨p,hp,rfl⟩:=Y4 hc;exact J.aV p.1 p.2.1 (hlk p hp)
 refine ⟨v,on H' H l.as,J.os,J.bare,⟨fun b o e n hb hx=>un.keep b o e (XD n) hb hx,fun b o e n hb hx=>un.slot b o e (XD n) hb hx,fun b o e n hx=>?_,fun b o e hx=>un.there b o e hx,fun b xs e=>?_,fun b o u e=>?_,fun b ps e=>?_⟩,fun b o e=>?_,rv,q aV⟩
 ·rw [Xl (nin n)]
  exact un.free b o e (XD n) hx
 ·have h1:=Fi hin e
  rw [Xl (VE h1).2];exact un.tups b xs h1
 ·have h1:=UZ hin e fun φ z=>by cases z
  rw [Xl (VE h1).2];exact un.bB b o u h1
 ·have h1:=UZ hin e fun φ z=>by cases z
  rw [Xl (VE h1).2];exact un.bW b ps h1
 ·by_cases hb:b∈l.as
  ·rw [QX hb] at e
   obtain ⟨p,hp,rfl⟩:=Y4 hb;rw [hin p hp] at e
   cases e
   obtain ⟨⟨u,r,oc,ho,hd'⟩,_⟩:=e0.hok _ _ (hin p hp);refine Uc r ⟨oc,un.keep _ _ ho (Vf hb) (fun hf=>?_) (by intro z;exact absurd (show p.2.1∈([]:List Addr) from z) (by simp)),hd'⟩;have:=e0.eE _ hf;rw [hin p hp] at this;cases this
  ·rw [Xl hb] at e
   refine (J.hok b o e).stay (fun _ _ _ q=>q) (fun c q=>?_) fun c xs q=>?_
   ·rw [Xl fun hc=>?_]
    ·exact q
    ·rw [aV c hc] at q;cases q
   ·rw [Xl fun hc=>?_]
    ·exact q
    ·rw [aV c hc] at q;cases q
end
def rH (H:Hp) (f c:Addr) (fd:bt) (qual:Str) (l:Yy):Prop:=H f=some (cD f fd)/\H c=some (dw c qual)/\l.In H
theorem Fo {P:Ψ} {w:θ} {K:Λ} {mg:Str->Option Α} {base:Heap} {k:Nat} {f c:Addr} {name qual:Str} {params:ki} {body:List Stmt} {scope:dL} {doc pm ctv:Α} {N ps:List Str} {l:Yy} {sp:List V->Hp->VK->Prop}
  (S:cJ N ps (l.map (·.1)) scope) (hnd:l.as.Nodup) (len:∀ vs H Q,sp vs H Q->vs.length=ps.length)
  (hbody:∀ (A:ζ) (outer:List Env) (s:Δ) (H:Hp) (vs:List V) (Q:VK),aL k (A.deeper (W.envX qual scope s.heap.objs.size f (.ref c) l.cl))->sp vs H Q ->
   ∃ t,cR (VG P w K mg base N qual scope f (.ref c) l.cl A outer s H) body t/\t { nx:=fun _ H'=>Q .non H',rt:=Q } (WN N vs l.vs) H) :
  bw P w K mg base cG (k+1) f (W.fnX name qual params body scope l.cl .none .none doc pm none (.ref c) ctv) ps
   (fun vs H Q _=>rH H f c (W.fnX name qual params body scope l.cl .none .none doc pm none (.ref c) ctv) qual l/\sp vs (off H l.as) fun v H'=>(∀ c∈l.as,H' c=none)->Q v (on H' H l.as)):=by
 refine ⟨fun vs H Q E h=>len _ _ _ h.2,fun A outer s H args us vs Q E hr e0 hb r hsp=>?_⟩;obtain ⟨⟨hf,hc,hin⟩,hsp⟩:=hsp;have hl:=len _ _ _ hsp;have lim:s.heap.NoLimit:=e0.mod.nolimit.keeps fun b o e=>(e0.bs b o e).1
 have hfo:=(e0.hok _ _ hf).1;have hco:s.heap.CodeRec (.ref c) qual:=(e0.hok _ _ hc).1;have hlu:ps.length=us.length:=by rw [<- hl];exact r.length
 refine gN hr.depth hfo rfl S.co S.gen rfl hco (hb _ _ _ _ ?_);refine gV S.jg (fun y hy=>S.par y.1 (eh hy).1) (fun h₁ hns hsb=>?_) S.kind;have hk₁:∀ b o,s.heap.get? b=some o->h₁.get? b=some o:=fun b o e=>hsb.extBut b o (ν (Ν e)) (Ε _ e)
 refine ⟨lim.keeps hk₁,lm ?_⟩;obtain ⟨t,ht,hq⟩:=hbody A outer s (off H l.as) vs _ (hr.deeper _) hsp;have I:=Ry (cd := .ref c) (qual:=qual) (f:=f) (tk:=s.toks+(ps.zip us).length) S hnd hr.hd e0 hl r hin hns hk₁;have lk:=VF (l:=l) (by rw [<- S.suf];exact S.nd.sublist (i9 _ _));refine ω (ht [] _ _ _ _ I hq) (fun fl s' hs=>?_) fun e s' hs=>hs.elim
 cases fl with
 | ret u =>
  obtain ⟨v,σ',H',J,rv,q⟩:=hs;exact Fj e0 hin J lk rv q
 | next =>
  obtain ⟨σ',H',J,q⟩:=hs;exact Fj (v:=V.non) (u:=cq) e0 hin J lk rfl q
 | brk =>
  obtain ⟨_,_,_,q⟩:=hs;exact am q
 | cont =>
  obtain ⟨_,_,_,q⟩:=hs;exact am q
def Bm (mg:Str->Option Α) (base:Heap):Prop:=∃ bm ob,mg "__builtins__"=some (.ref bm)/\bm≠i5/\bm≠aI/\base.get? bm=some ob/\ob.cls = .type "module"/\ob.dict=some i5/\ob.data = .plain
section
variable {X:Cx} {pins:List (Addr×Obj)} {σ:St} {H:Hp} {s:Δ}
theorem Inv.tX {P c':Addr} {ps more:Array Α} {h':Heap} {tk:Nat} {fd:bt} {qual:Str} (I:Inv X pins σ H s) (hP:H P=some (.aH ps)) (hx:lz P s.heap h') (hge:s.heap.objs.size<=c') (hlt:c'<h'.objs.size) (hrec:h'.CodeRec (.ref c') qual) (htb:h'.get? P=some (W.tabObj (ps++more))) :
  Inv X pins σ (upd (upd (upd H P (.aH (ps++more))) c' (dw c' qual)) h'.objs.size (cD h'.objs.size fd)) { s with heap:=h'.push { cls := .type "function",data := .func fd },toks:=tk }:=by
 have hPl:P<s.heap.objs.size:=I.hok.lt hP;have hcf:s.heap.objs.size<=h'.objs.size:=az hge (gy hlt);have oZ:∀ {b:Addr},b<s.heap.objs.size->b≠c'/\b≠h'.objs.size:=fun e=>⟨ν (τ e hge),ν (τ e hcf)⟩
 have iB:∀ {b:Addr} {o:HO},H b=some o->b≠c'/\b≠h'.objs.size:=fun e=>oZ (I.hok.lt e)
 have push:∀ b o,h'.get? b=some o->(h'.push { cls := .type "function",data := .func fd }).get? b=some o:=fun b o e=>Ε _ e
 have hget:∀ {b:Addr},b≠P->b≠c'->b≠h'.objs.size->(upd (upd (upd H P (.aH (ps++more))) c' (dw c' qual)) h'.objs.size (cD h'.objs.size fd)) b=H b:=fun h1 h2 h3=>by rw [Ye h3,Ye h2,Ye h1]
 have Fp:(upd (upd (upd H P (.aH (ps++more))) c' (dw c' qual)) h'.objs.size (cD h'.objs.size fd)) P=some (.aH (ps++more)):=by rw [Ye (oZ hPl).2,Ye (oZ hPl).1,Yb]
 refine I.un ⟨fun b o e n _ _=>push b o (hx b o (fun z=>by rw [z,hP] at n;cases n) e),fun b o e n _ _=>⟨o.slots,push b o (hx b o (fun z=>by rw [z,hP] at n;cases n) e)⟩,fun b o e n _=>?_,fun b o e _=>?_,fun b xs e=>?_,fun b o u e=>?_,fun b qs e=>?_⟩ fun b o e=>?_
 ·have:=Ν e
  rw [hget (fun z=>by rw [z,hP] at n;cases n) (oZ this).1 (oZ this).2];exact n
 ·by_cases hb:b=P
  ·subst hb;exact ⟨_,push _ _ htb⟩
  ·exact ⟨o,push b o (hx b o hb e)⟩
 ·rw [hget (YW e hP (by intro z;cases z)) (iB e).1 (iB e).2];exact e
 ·rw [hget (YW e hP (by intro z;cases z)) (iB e).1 (iB e).2];exact e
 ·by_cases hb:b=P
  ·subst hb
   rw [hP] at e;cases e
   exact ⟨more,Fp⟩
  ·exact ⟨#[],by rw [hget hb (iB e).1 (iB e).2,e];simp⟩
 ·by_cases h3:b=h'.objs.size
  ·subst h3
   rw [Yb] at e;cases e
   exact xq (δ _ rfl)
  ·by_cases h2:b=c'
   ·subst h2
    rw [Ye h3,Yb] at e;cases e
    exact Rt (hrec.push _)
   ·by_cases h1:b=P
    ·subst h1
     rw [Fp] at e;cases e
     exact push _ _ htb
    ·rw [hget h1 h2 h3] at e
     refine (I.hok b o e).stay (fun c u hc q=>push c u (hx c u ?_ q)) (fun c q=>?_) fun c xs q=>?_
     ·rcases hc with rfl | hc
      ·exact h1
      ·exact YW hc hP (by intro z;cases z)
     ·rw [hget (YW q hP (by intro z;cases z)) (iB q).1 (iB q).2];exact q
     ·rw [hget (YW q hP (by intro z;cases z)) (iB q).1 (iB q).2];exact q
end
def tY (P:Addr) (pos:Pos) (q:Str) (mk:Addr->bt->Prop) (H:Hp) (Q:VK):Prop:=∃ ps,H P=some (.aH ps)/\TriplesOk ps.toList /\
 ((codeAmong pos ps.toList=none/\∀ f c fd,H f=none->H c=none->f≠c->mk c fd->Q (.ref f) (upd (upd (upd H P (.aH (ps++#[cE pos.line,cE pos.col,.ref c]))) c (dw c q)) f (cD f fd))) \/
  ∃ c,codeAmong pos ps.toList=some (.ref c)/\∀ f fd,H f=none->mk c fd->Q (.ref f) (upd H f (cD f fd)))
section
variable {X:Cx} {c P:Addr} {name qual:Str} {params:ki} {body:List Stmt} {eb:Expr} {scope:dL} {clos:List (Str×Addr)} {pos:Pos} {ln:Nat}
abbrev xr (name qual:Str) (params:ki) (body:List Stmt) (scope:dL) (clos:List (Str×Addr)) (c:Addr) (fd:bt):Prop:=∃ doc pm ctv,fd=W.fnX name qual params body scope clos .none .none doc pm none (.ref c) ctv
abbrev Fq (qual:Str) (params:ki) (body:Expr) (scope:dL) (clos:List (Str×Addr)) (c:Addr) (fd:bt):Prop:=∃ pm ctv,fd=W.kla_fn "<lambda>" qual params body scope clos pm (.ref c) ctv
theorem Qu {pins:List (Addr×Obj)} {σ:St} {H:Hp} {s:Δ} {ps:Array Α} (I:Inv X pins σ H s) (bm:Bm X.mg X.base) (hP:H P=some (.aH ps)):aI≠P/\s.heap.BuiltinsAt X.mg P:=by
 refine ⟨fun z=>?_,?_⟩
 ·obtain ⟨o,es,ep,e,_⟩:=I.mod.glob
  have:=(I.bs _ _ e).2;rw [z,hP] at this;cases this
 ·obtain ⟨b,ob,h1,h2,h3,h4,h5⟩:=bm
  refine ⟨b,ob,h1,h2,h3,fun z=>?_,(I.bs _ _ h4).1,h5⟩;have:=(I.bs _ _ h4).2;rw [z,hP] at this;cases this
theorem Bj {pins:List (Addr×Obj)} {σ:St} {H:Hp} {s:Δ} {Q:VK} (bm:Bm X.mg X.base) (C:iA X.base c P) (hcode:X.env.code = .ref c) (hcl:kr scope X.env=pure clos) (I:Inv X pins σ H s) (h:tY P pos qual (xr name qual params body scope clos) H Q) :
  Κ (Ο X.prog X.w) X.A (makeFunction name qual params (.stmts body) scope X.env [] [] [] pos ln) (EP X pins σ Q) X.xe s:=by
 obtain ⟨ps,hP,ht,h⟩:=h;obtain ⟨hgP,hb⟩:=Qu I bm hP;have pq:s.heap.get? P=some (W.tabObj ps):=I.hok P _ hP;rcases h with ⟨hnf,h⟩ | ⟨c',hf,h⟩
 ·refine W.makeFunction_K (mg:=X.mg) hcl I.ok.glob (I.mod.glob.keeps I.bk) hcode (C.keeps I.bk) pq ht hnf hgP hb fun c' ctv doc h' tk hx hge hlt hrec htb=>?_
  refine ⟨.ref h'.objs.size,_,I.tX hP hx hge hlt hrec htb,rfl,h _ _ _ (I.hok.fresh (az hge (gy hlt))) (I.hok.fresh hge) (du hlt) ⟨_,_,_,rfl⟩⟩
 ·refine W.makeFunction_hit (mg:=X.mg) hcl I.ok.glob (I.mod.glob.keeps I.bk) hcode (C.keeps I.bk) pq ht hf hb fun ctv doc h' tk hk hsz=>?_
  exact ⟨.ref h'.objs.size,_,I.laid (fun b o e=>Ε _ (hk b o e)) hsz (xq (δ _ rfl)),rfl,h _ _ (I.hok.fresh hsz) ⟨_,_,_,rfl⟩⟩
theorem Rz {pins:List (Addr×Obj)} {σ:St} {H:Hp} {s:Δ} {Q:VK} (bm:Bm X.mg X.base) (C:iA X.base c P) (hcode:X.env.code = .ref c) (hcl:kr scope X.env=pure clos) (I:Inv X pins σ H s) (h:tY P pos qual (Fq qual params eb scope clos) H Q) :
  Κ (Ο X.prog X.w) X.A (makeFunction "<lambda>" qual params (.expr eb) scope X.env [] [] [] pos ln) (EP X pins σ Q) X.xe s:=by
 obtain ⟨ps,hP,ht,h⟩:=h;obtain ⟨hgP,hb⟩:=Qu I bm hP;have pq:s.heap.get? P=some (W.tabObj ps):=I.hok P _ hP;rcases h with ⟨hnf,h⟩ | ⟨c',hf,h⟩
 ·refine W.kla_makeFunction (mg:=X.mg) hcl I.ok.glob (I.mod.glob.keeps I.bk) hcode (C.keeps I.bk) pq ht hnf hgP hb fun c' ctv h' tk hx hge hlt hrec htb=>?_
  refine ⟨.ref h'.objs.size,_,I.tX hP hx hge hlt hrec htb,rfl,h _ _ _ (I.hok.fresh (az hge (gy hlt))) (I.hok.fresh hge) (du hlt) ⟨_,_,rfl⟩⟩
 ·refine W.kla_makeFunctionHit (mg:=X.mg) hcl I.ok.glob (I.mod.glob.keeps I.bk) hcode (C.keeps I.bk) pq ht hf hb fun ctv h' tk hk hsz=>?_
  exact ⟨.ref h'.objs.size,_,I.laid (fun b o e=>Ε _ (hk b o e)) hsz (xq (δ _ rfl)),rfl,h _ _ (I.hok.fresh hsz) ⟨_,_,rfl⟩⟩
def rJ (i:Nat) (P:Addr) (pos:Pos) (q:Str) (mk:Addr->bt->Prop):TS:=fun D σ H=>tY P pos q mk H fun v H'=>D.nx (σ.set i (some v)) H'
theorem xu (i:Nat) (bm:Bm X.mg X.base) (C:iA X.base c P) (hcode:X.env.code = .ref c) (hcl:kr scope X.env=pure clos) (hN:X.N.Nodup) (hi:X.N[i]?=some name) (hx:Loc X.env.scope name) (hq:qualnameIn X.env name name=qual)
  (hd0:params.defaults=[]) (hk0:params.kw_defaults=[]) (ha:annTrees params none X.env=[]) (hf:X.fn name=true\/X.env.scope.names.lookup name=some .local) :
  PS X (.FunctionDef name params body [] none [] scope none name pos) (rJ i P pos qual (xr name qual params body scope clos)):=by
 intro pins s σ H D I h;refine W.nestDef_K hd0 hk0 ha ?_;rw [hq];refine aD (Bj bm C hcode hcl I h) fun v s1 ⟨x,H1,I1,r,q⟩=>?_
 exact Vj I1 hN hi hx r (fun s2 I2=>⟨_,H1,I2,q⟩) hf
def JH (P:Addr) (pos:Pos) (q:Str) (mk:Addr->bt->Prop):TE:=fun _ H Q=>tY P pos q mk H Q
theorem RB (bm:Bm X.mg X.base) (C:iA X.base c P) (hcode:X.env.code = .ref c) (hcl:kr scope X.env=pure clos) (hq:X.env.qual++"<lambda>"=qual) (hdef:defaultsOf params X.env=([],[])) :
  PE X (.Lambda params eb scope pos) (JH P pos qual (Fq qual params eb scope clos)):=by
 intro pins s σ H Q I h;refine W.kla_eval hdef ?_;rw [hq];exact Rz bm C hcode hcl I h
end
def lay (H:Hp):Yy->Hp
 | []=>H
 | p::l=>upd (lay H l) p.2.1 (WY p.2.1 p.2.2)
theorem VQ {H:Hp} {b:Addr}:∀ {l:Yy},b∉l.as->lay H l b=H b
 | [],_=>rfl
 | p::l,h=>by
  have h1:b≠p.2.1:=fun z=>h (by rw [z];exact .head _)
  rw [lay,Ye h1];exact VQ fun z=>h (.tail _ z)
def Xk (X:Cx) (σ:St) (l:Yy):Prop:=l.as.Nodup/\∀ p∈l,∃ i:Nat,X.N[i]?=some p.1/\σ[i]?=some (some p.2.2)/\X.env.kindOf p.1=some .cell/\X.env.cells.lookup p.1=some p.2.1
theorem Qv {X:Cx} {pins:List (Addr×Obj)} {σ:St} {H:Hp} {s:Δ} (I:Inv X pins σ H s):∀ {l:Yy},Xk X σ l->bA X.prog X.w (lay H l) s.heap
 | [],_=>I.hok
 | p::l,h=>by
  have nd':=a9.mp h.1;have ih:=Qv I (l:=l) ⟨nd'.2,fun q hq=>h.2 q (.tail _ hq)⟩;obtain ⟨i,h1,h2,h3,h4⟩:=h.2 p (.head _);obtain ⟨m,hn,hl⟩:=I.loc;obtain ⟨u,r,lk⟩:=hl i p.1 p.2.2 h1 h2 (.inr (.inl h3));rcases lk with ⟨k,_⟩ | ⟨_,c,hc,hcell⟩
  ·rw [h3] at k;cases k
  ·rw [h4] at hc
   cases hc
   refine ih.track ?_ (Uc r hcell);rw [VQ nd'.1];exact I.aV p.1 p.2.1 h4
def PR (X:Cx) (b:List Stmt) (t:(St->V->Hp->Prop)->St->Hp->Prop):Prop:=∀ (pins:List (Addr×Obj)) (s:Δ) (σ:St) (H:Hp) (R:St->V->Hp->Prop),Inv X pins σ H s->t R σ H ->
 Κ (Ο X.prog X.w) X.A (execs b X.env) (fun fl s'=>∃ u,fl = .ret u/\∃ v σ' H',Inv X pins σ' H' s'/\Yx v u/\R σ' v H') X.xe s
section
variable {X:Cx} {st:Stmt} {YQ:List Stmt} {t:TS} {u:(St->V->Hp->Prop)->St->Hp->Prop} {e:Expr} {te:TE} {pos:Pos}
def xG (te:TE):(St->V->Hp->Prop)->St->Hp->Prop:=fun R σ H=>te σ H fun v H'=>R σ v H'
theorem RD (he:PE X e te):PR X [.Return (some e) pos] (xG te):=by
 intro pins s σ H R I h;refine d5 (wpAny_Return_some (aD (he pins s σ H _ I h) fun v s1 ⟨x,H1,I1,r1,q1⟩=>⟨v,rfl,x,σ,H1,I1,r1,q1⟩))
def tZ (t:TS) (u:(St->V->Hp->Prop)->St->Hp->Prop):(St->V->Hp->Prop)->St->Hp->Prop:=fun R σ H=>t { nx:=u R,rt:=fun _ _=>False } σ H
theorem Vg (h1:PS X st t) (h2:PR X YQ u):PR X (st::YQ) (tZ t u):=by
 intro pins s σ H R I h;refine d5 (aD (h1 pins s σ H _ I h) fun f s1 q=>?_)
 cases f with
 | next =>
  obtain ⟨σ',H',I',q⟩:=q;exact h2 pins s1 σ' H' R I' q
 | ret v=>obtain ⟨_,_,_,_,_,q⟩:=q;exact q.elim
 | brk=>obtain ⟨_,_,_,q⟩:=q;exact q.elim
 | cont=>obtain ⟨_,_,_,q⟩:=q;exact q.elim
end
theorem eV.RG {P:Ψ} {w:θ} {K:Λ} {mg:Str->Option Α} {base:Heap} {x qual:Str} {st:Stmt} {f:Addr} {fd:bt} {N ps:List Str} {k:Nat} {sp:Sp} (F:eV K x qual st f fd) (S:aB N ps (Yh st)) (len:∀ vs H Q E,sp vs H Q E->vs.length=ps.length)
  (hbody:∀ (cdv:Α) (A:ζ) (outer:List Env) (s:Δ) (H:Hp) (vs:List V) (Q:VK) (E:XK),fd.code=cdv->aL k (A.deeper (km qual (Yh st) s.heap.objs.size f cdv))->sp vs H Q E ->
   ∃ t,PR (Wh cG P w K mg base N qual (Yh st) f cdv A outer s H E).cB (YO st) t /\
    t (fun σ v H'=>∃ l,Xk (Wh cG P w K mg base N qual (Yh st) f cdv A outer s H E).cB σ l/\((∀ c∈l.as,H' c=none)->Q v (lay H' l))) (Xq N vs) H):bw P w K mg base cG (k+1) f fd ps sp:=by
 obtain ⟨oc,od,kV,doc,pm,an,cdv,ct,osl,rfl,lk,hcd⟩:=F.ex;refine ⟨len,fun A outer s H args us vs Q E hr e0 hb r hsp=>?_⟩;have hl:=len _ _ _ _ hsp;have KX:K.In s.heap:=e0.mod.fY.keeps fun b o e=>(e0.bs b o e).1
 have lim:s.heap.NoLimit:=e0.mod.nolimit.keeps fun b o e=>(e0.bs b o e).1
 have hkind:∀ y∈ps.zip us,(Yh st).names.lookup y.1=some .local\/((Yh st).names.lookup y.1=some .cell/\((cellsFrom (s.heap.objs.size+1) (Yh st).names []).lookup y.1).isSome=true):=fun ⟨n,v⟩ hy=>by
  rcases S.par n (eh hy).1 with q | q
  ·exact .inl q
  ·exact .inr ⟨q,PySem.W.cellsFrom_some _ _ _ (.inl q)⟩
 refine gN hr.depth (KX _ _ lk) rfl S.co S.gen rfl (PySem.W.codeRec_of KX hcd) (hb _ _ _ _ ?_);refine wpAny_newFunctionEnv_cells S.kind hkind fun env he s1 xx=>?_
 subst he;refine ⟨lim.keeps xx.toInCall.keep,lm ?_⟩;obtain ⟨t,ht,hq⟩:=hbody cdv A outer s H vs Q E rfl (hr.deeper _) hsp;have I:Inv (Wh cG P w K mg base N qual (Yh st) f cdv A outer s H E).cB [] (Xq N vs) H s1:=(Qj (CX:=cG) (E:=E) S hr.hd e0 hl r xx).wish _;refine ω (ht [] s1 (Xq N vs) H _ I hq) (fun fl s' hs=>?_) fun e s' hs=>hs.elim
 obtain ⟨u,rfl,v,σ',H',J,rv,l,hc,q⟩:=hs;have un:=J.base;have hab:∀ b∈l.as,s.heap.objs.size<=b:=fun b hb=>by
  obtain ⟨p,hp,rfl⟩:=Y4 hb;obtain ⟨i,h1,h2,h3,h4⟩:=hc.2 p hp;exact J.ok.cab p.1 p.2.1 rfl h4
 have hno:∀ b∈l.as,H' b=none:=fun b hb=>by
  obtain ⟨p,hp,rfl⟩:=Y4 hb;obtain ⟨i,h1,h2,h3,h4⟩:=hc.2 p hp;exact J.aV p.1 p.2.1 h4
 have keep:∀ {b:Addr} {o:HO},H' b=some o->lay H' l b=some o:=fun {b o} e=>by
  rw [VQ fun hb=>?_]
  ·exact e
  ·rw [hno b hb] at e;cases e
 refine ⟨v,lay H' l,J.os,J.bare,⟨un.keep,un.slot,fun b o e n hx=>?_,un.there,fun b xs e=>keep (un.tups b xs e),fun b o u e=>keep (un.bB b o u e),fun b qs e=>?_⟩,Qv J hc,rv,q hno⟩
 ·rw [VQ fun hb=>?_]
  ·exact un.free b o e n hx
  ·have h1:=hab b hb
   have h2:=Ν (show s.heap.get? b=some o from e);exact absurd (τ h2 h1) (aS _)
 ·obtain ⟨more,e'⟩:=un.bW b qs e
  exact ⟨more,keep e'⟩
def RJ (g:Gx) (k i:Nat) (t:TA):TE:=fun σ H Q=>∃ f fd ps sp,σ[i]?=some (some (.ref f))/\bw g.P g.w g.K g.mg g.base cG k f fd ps sp/\(∀ us:List Α,us.length=ps.length->iq fd ⟨us,[]⟩=pure (ps.zip us))/\H f=some (cD f fd)/\t σ H fun vs H1=>H1 f=some (cD f fd)/\sp vs H1 Q E0
section
variable {X:Cx} {g:Gx} {k j i:Nat} {x:Str} {p pos:Pos} {e:Expr} {es:List Expr} {t:TA}
theorem Ft {pins:List (Addr×Obj)} {σ:St} {H:Hp} {s:Δ} {f:Addr} {fd:bt} (I:Inv X pins σ H s) (h:H f=some (cD f fd)):W.FnAt f s.heap:=⟨_,_,_,_,(I.hok _ _ h).1⟩
theorem Fv (i:Nat) (hr:aL k X.A) (ha:PA X (e::es) t) (hj:j<=k) (hX:X.gx=g) (hN:X.N[i]?=some x) (hv:sy X.env.scope x) (hdb:(x==("__debug__":Str))=false)
  (hcd:(x==("__classdict__":Str))=false) (he:Χ (e::es) X.env=(false,eval e X.env)::Χ es X.env) (hpl:(bz pos (Χ es X.env)).any (·.1)=false):PE X (.Call (.Name x p) (e::es) [] pos) (RJ g j i t):=by
 subst hX;intro pins s σ H Q I h;obtain ⟨f,fd,ps,sp,hσ,F,b,hf,ht⟩:=h;refine cS (aD (Cd hN hv hdb hcd pins s σ H (fun v H1=>v = .ref f/\H1 f=some (cD f fd)/\t σ H1 fun vs H1=>H1 f=some (cD f fd)/\sp vs H1 Q E0) I (QO hσ ⟨rfl,hf,ht⟩)) fun u s1 ⟨v,H1,I1,r,e,hf1,ht⟩=>?_);subst e;obtain rfl:u=Ω f:=r;refine PySem.W.callWith_F (Ft I1 hf1) (aD (ha pos pins s1 σ H1 _ I1 ht) fun us s2 ⟨vs,H2,I2,r2,hf2,q⟩=>⟨Ft I2 hf2,?_⟩) he hpl;exact vW F (hr.mono hj) (.all b) .nil Uq I2 r2 (by rw [db];exact q)
end
abbrev xH:=List (Str×Addr×Addr)
theorem RL {P:Ψ} {w:θ} {K:Λ} {mg mb:Str->Option Α} {CX:dO} {k:Nat} {fa a:Addr} {fd:bt} {x:Str} {sp:Sp} {s₁:Δ} {vs:List Α} {ns:List Int} (tabs:xH)
  (KX:K.In s₁.heap) (hns:s₁.heap.Ns aI mg) (hb:s₁.heap.Ns i5 mb) (hbb:∀ x:Str,x≠"__name__"->mb x=eL x) (hlim:s₁.heap.NoLimit) (hg:s₁.gens=#[])
  (ha:s₁.heap.get? a=some { cls := .type "list",data := .seq vs.toArray }) (hi:IntsAre vs ns) (hl:ns.length<=sizeLine) (hr:aL k callerA)
  (hT:∀ q∈tabs,iA s₁.heap q.2.1 q.2.2/\s₁.heap.get? q.2.2=some (gz #[])) (hK:∀ q∈tabs,K.lookup q.2.2=none)
  (RM:∃ bm ob,mg "__builtins__"=some (.ref bm)/\bm≠i5/\s₁.heap.get? bm=some ob/\ob.cls = .type "module"/\ob.dict=some i5/\ob.data = .plain)
  (F:∀ base:Heap,K.In base->base.Ns aI mg->Bm mg base->(∀ q∈tabs,iA base q.2.1 q.2.2)->bw P w K mg base CX k fa fd [x] sp) (hbind:∀ (s:Δ) (u:Α),BindsTo s fd ⟨[u],[]⟩ [(x,u)])
  (hsp:∀ H:Hp,(∀ q∈tabs,H q.2.2=some (.aH #[]))->ao K H a (ns.map V.int)->sp [.ref a] H (fun v _=>v = .bl true) fun _ _ _=>False)
  (RN:∀ H e s',CX [] H s₁ (fun _ _ _=>False) e s'->False) :
  d6 (Ο P w) callerA (.call (.ref fa) ⟨[.ref a],[]⟩) (fun r s'=>r = .ok (.ret (.bool true))/\OldK s₁.heap s'.heap/\s'.os=s₁.os/\hU s'.gens) s₁:=by
 have rv:=Ql hi;have lenV:=hi.length;have tobj:∀ b∈tabs.map (·.2.2),s₁.heap.get? b=some (gz #[]):=fun b hb=>by
  obtain ⟨q,hq,rfl⟩:=ψ.mp hb;exact (hT q hq).2
 have aT:a∉tabs.map (·.2.2):=fun hb=>by
  have:=tobj a hb;rw [ha] at this
  cases this
 have core:∀ H:Hp,(∀ b,H b=none\/(∃ o xs,H b=some (.bR o (.lst xs)))\/(b∈tabs.map (·.2.2)/\H b=some (.aH #[])))->ao K H a (ns.map V.int)->bA P w H s₁.heap->(∀ b,H b≠none->b=a\/b∈tabs.map (·.2.2))->(H a≠none->K.lookup a=none)->(∀ q∈tabs,H q.2.2=some (.aH #[])) ->
   d6 (Ο P w) callerA (.call (.ref fa) ⟨[.ref a],[]⟩) (fun r s'=>r = .ok (.ret (.bool true))/\OldK s₁.heap s'.heap/\s'.os=s₁.os/\hU s'.gens) s₁:=by
  intro H hO hS hok hA hKa hTb;have gR:∀ {b:Addr} {o:Obj},s₁.heap.get? b=some o->H b=none->(WH s₁.heap H).get? b=some o:=fun e n=>Kg e n
  have Fw:∀ {b:Addr} {o:Obj},s₁.heap.get? b=some o->o.cls ≠ .type "list"->o≠gz #[]->H b=none:=fun {b o} e d1 d2=>by
   cases q:H b with
   | none=>rfl
   | some u =>
    rcases hA b (by rw [q];simp) with e' | e'
    ·subst e'
     rw [ha] at e;cases e
     exact absurd rfl d1
    ·rw [tobj b e'] at e
     exact absurd (Θ e).symm d2
  have iY:∀ {b:Addr} {o:Obj} {es:Array DictEntry} {ep:Nat},s₁.heap.get? b=some o->o.data = .dict es ep->H b=none:=fun {b o es ep} e d=>by
   cases q:H b with
   | none=>rfl
   | some u =>
    rcases hA b (by rw [q];simp) with e' | e'
    ·subst e'
     rw [ha] at e;cases e
     have d':lI vs.toArray _=Data.dict es ep:=d
     cases d'
    ·rw [tobj b e'] at e
     cases e
     have d':Data.fields #[]=Data.dict es ep:=d
     cases d'
  have uc:∀ {b:Addr} {m:Str->Option Α},s₁.heap.Ns b m->(WH s₁.heap H).Ns b m:=fun {b m} ⟨o,es,ep,e,d,r⟩=>⟨o,es,ep,gR e (iY e d),d,r⟩
  have Fx:K.In (WH s₁.heap H):=fun b o e=>gR (KX b o e) (by
   cases q:H b with
   | none=>rfl
   | some u =>
    rcases hA b (by rw [q];simp) with e' | e'
    ·subst e'
     rw [hKa (by rw [q];simp)] at e;cases e
    ·obtain ⟨z,hz,rfl⟩:=ψ.mp e'
     rw [hK z hz] at e;cases e)
  have hM:Mod K mg (WH s₁.heap H):=⟨Fx,uc hns,⟨mb,uc hb,hbb⟩,let ⟨mc,h1,h2⟩:=hlim;⟨mc,uc h1,h2⟩⟩;have e0:dg P w K mg (WH s₁.heap H) callerA [] s₁ H:=⟨rfl,hM,fun b o e=>Kh e,Nat.le_of_eq (Kf _ _),trivial,fun b hb=>absurd (show b∈([]:List Addr) from hb) (by simp),hok,.of_eq hg⟩;have RP:Bm mg (WH s₁.heap H):=by
   obtain ⟨bm,ob,b1,b2,b3,b4,b5,b6⟩:=RM;refine ⟨bm,ob,b1,b2,fun z=>?_,gR b3 (Fw b3 (by rw [b4];decide) fun z=>by rw [z] at b4;cases b4),b4,b5,b6⟩;obtain ⟨o,es,ep,e,d,_⟩:=hns;rw [z,e] at b3;cases b3
   rw [d] at b6;cases b6
  have RQ:∀ q∈tabs,iA (WH s₁.heap H) q.2.1 q.2.2:=fun q hq=>by
   obtain ⟨o,vs',file,tf,flags,tg,inF,text,tt,e1,e2,r⟩:=(hT q hq).1;exact ⟨o,vs',file,tf,flags,tg,inF,text,tt,gR e1 (Fw e1 (by rw [e2];decide) fun z=>by rw [z] at e2;cases e2),e2,r⟩
  refine fm ((F _ Fx (uc hns) RP RQ).run callerA [] s₁ H ⟨[.ref a],[]⟩ [.ref a] [.ref a] _ _ hr e0 (hbind s₁ (.ref a)) (.cons rfl .nil) (hsp H hTb hS)) fun r s' h=>?_
  cases r with
  | error e=>exact (RN H e s' h).elim
  | ok fl =>
   cases fl with
   | next=>exact am h
   | brk=>exact am h
   | cont=>exact am h
   | ret u =>
    obtain ⟨v,H',os,bare,un,hok',r',q⟩:=h;have q':v = .bl true:=q;subst q';obtain rfl:u=bo true:=r';have each:∀ b o,s₁.heap.get? b=some o->s'.heap.get? b=some o\/((∃ z∈tabs,z.2.2=b)/\o=gz #[]/\∃ ps,s'.heap.get? b=some (gz ps)):=fun b o e=>by
     rcases hO b with q | ⟨ob,xs,z⟩ | ⟨z1,z2⟩
     ·exact .inl (un.keep b o e q (by intro z;exact absurd (show b∈([]:List Addr) from z) (by simp)) (by simp))
     ·have z2:=un.bB b ob _ z
      obtain ⟨e1,_⟩:=hok b _ z;obtain ⟨e2,_⟩:=hok' b _ z2;rw [e] at e1;cases e1
      exact .inl e2
     ·obtain ⟨q,hq,e3⟩:=ψ.mp z1
      obtain ⟨more,e4⟩:=un.bW b _ z2;have e5:s'.heap.get? b=some (gz (#[]++more)):=hok' b _ e4;rw [tobj b z1] at e
      exact .inr ⟨⟨q,hq,e3⟩,(Θ e).symm,_,e5⟩
    refine ⟨rfl,⟨fun b o e=>?_,fun b o e=>?_⟩,os,bare⟩
    ·rcases each b o e with h | ⟨⟨z,hz,rfl⟩,rfl,ps,h⟩
     ·exact .inl h
     ·exact .inr (.inl ⟨((hT z hz).1.tab (hT z hz).2).isCodeTable,rfl,#[],ps,rfl,by rw [Array.empty_append];exact h⟩)
    ·rcases each b o e with h | ⟨_,_,ps,h⟩
     ·exact ⟨o,h⟩
     ·exact ⟨_,h⟩
 have xJ:∀ q∈tabs,q.2.2∈tabs.map (·.2.2):=fun q hq=>eC hq
 have xK:∀ {H:Hp} {b:Addr},b∈tabs.map (·.2.2)->YK P w H s₁.heap b (.aH #[]):=fun hb=>tobj _ hb
 cases hk:K.lookup a with
 | some o =>
  have e:=KX a o hk;rw [ha] at e
  cases e
  refine core (fun b=>if b∈tabs.map (·.2.2) then some (.aH #[]) else none) (fun b=>?_) (.inr ⟨_,vs.toArray,_,hk,rfl,rfl,rfl,by rw [ξ,lenV];exact hl,by simpa using rv⟩) (fun b u z=>?_) (fun b z=>?_) (fun z=>absurd (if_neg aT) z) fun q hq=>if_pos (xJ q hq)
  ·by_cases hb:b∈tabs.map (·.2.2)
   ·exact .inr (.inr ⟨hb,if_pos hb⟩)
   ·exact .inl (if_neg hb)
  ·by_cases hb:b∈tabs.map (·.2.2)
   ·have z':=(if_pos hb).symm.trans z
    cases z'
    exact xK hb
   ·have z':=(if_neg hb).symm.trans z
    cases z'
  ·by_cases hb:b∈tabs.map (·.2.2)
   ·exact .inr hb
   ·exact absurd (if_neg hb) z
 | none =>
  refine core (fun b=>if b∈tabs.map (·.2.2) then some (.aH #[]) else if b=a then some (.bR { cls := .type "list",data := .seq vs.toArray } (.lst (ns.map V.int))) else none) (fun b=>?_) (.inl (.inr ⟨{ cls := .type "list",data := .seq vs.toArray },(if_neg aT).trans (if_pos rfl)⟩)) (fun b u z=>?_) (fun b z=>?_) (fun _=>hk) fun q hq=>if_pos (xJ q hq)
  ·by_cases hb:b∈tabs.map (·.2.2)
   ·exact .inr (.inr ⟨hb,if_pos hb⟩)
   ·by_cases hb2:b=a
    ·exact .inr (.inl ⟨_,_,(if_neg hb).trans (if_pos hb2)⟩)
    ·exact .inl ((if_neg hb).trans (if_neg hb2))
  ·by_cases hb:b∈tabs.map (·.2.2)
   ·have z':=(if_pos hb).symm.trans z
    cases z'
    exact xK hb
   ·have z1:=(if_neg hb).symm.trans z
    by_cases hb2:b=a
    ·have z':=(if_pos hb2).symm.trans z1
     cases z'
     subst hb2;exact ⟨ha,by rw [Ζ];exact hl,vs,_,rv,ha⟩
    ·have z':=(if_neg hb2).symm.trans z1
     cases z'
  ·by_cases hb:b∈tabs.map (·.2.2)
   ·exact .inr hb
   ·by_cases hb2:b=a
    ·exact .inl hb2
    ·exact absurd ((if_neg hb).trans (if_neg hb2)) z
def VR (K:Λ) (tabs:xH):Sp:=fun vs H Q _=>∃ (a:Addr) (ns:List Int),vs=[.ref a]/\ao K H a (ns.map V.int)/\ns.length<=63/\(∀ q∈tabs,H q.2.2=some (.aH #[]))/\∀ H',Q (.bl true) H'
theorem RT {l:PySem.W.OpenLaw} {q:Ψ} {loose:List Str} {XP:(Str->Option Α)->Heap->Prop} {YP:θ->Heap->Prop} {d:DefRec} {K:Params->Λ} (tabs:xH) (k:Nat) (x:Str) (st:Stmt) (N:List Str) (hn:l.most=some 63) (hdf:d.params.defaults=[]) (hk:aL (k+1) callerA) (S:aB N [x] (Yh st))
  (hY:∀ (w:θ) (h:Heap),YP w h->(K w.params).In h)
  (hrec:∀ p∈tabs,∃ d',(recsOf q).find? (fun e=>e.name==p.1)=some d')
  (htab:∀ (w:θ),∀ p∈tabs,PySem.W.tabIn (K w.params) p.1=some p.2)
  (hno:∀ (w:θ),∀ p∈tabs,(K w.params).lookup p.2.2=none)
  (F:∀ (w:θ) (mg:Str->Option Α) (h:Heap),(K w.params).In h->h.Ns aI mg->Ed (K w.params) mg st x d.name/\∀ base,Bm mg base->(∀ p∈tabs,iA base p.2.1 p.2.2)->Ua (Gx.mk l.prog w (K w.params) mg base) k N d.name st (VR (K w.params) tabs)) :
  PySem.W.WalkO q loose XP YP l.row.toRowW d [] (fun f vs=>PySem.call f vs):=by
 refine Dp.lW hn hdf fun w s₀ s₁ mg mb fa o pm cd doc a vs ns G Y ho hd hcd hmg hobj hints hlen hg=>?_
 have KX:=hY w _ Y;obtain ⟨⟨f,fd,Fu,hb,hm⟩,B⟩:=F w mg _ KX G.T.g;have e:=hmg.symm.trans hm
 cases e
 refine RL (CX:=cG) (sp:=VR (K w.params) tabs) tabs KX G.T.g G.T.b G.T.builtins G.T.nolimit hg hobj hints (az hlen (by decide)) hk (fun p hp=>?_) (hno w) G.T.bmain
  (fun base _ _ hB hC=>Fu.ok S (fun vs H Q E h=>by obtain ⟨a,ns,rfl,_⟩:=h;rfl) fun cdv A outer s H vs Q E hr h=>B base hB hC fa cdv A outer s H vs Q E hr h) hb (fun H hT hS=>⟨a,ns,rfl,hS,hlen,hT,fun _=>rfl⟩) fun H e s' z=>z
 obtain ⟨d',hd'⟩:=hrec p hp;exact PySem.W.tab_of G.T KX hd' (htab w p hp)
def QY (s:Stmt) (j:Nat):Stmt:=(YO s).getD j (.Pass ⟨0,0,0,0⟩)
def Gx.dW (g:Gx) (x qual:Str) (st:Stmt) (ps:List Str) (c:Addr):Prop:=∃ f fd,eV g.K x qual st f fd/\Xf g.K fd ps []/\g.mg x=some (.ref f)/\fd.code = .ref c
theorem Gx.dW.RW {g:Gx} {k:Nat} {x qual:Str} {st:Stmt} {N ps:List Str} {c:Addr} {sp:Sp} (R:g.dW x qual st ps c) (S:aB N ps (Yh st)) (len:∀ vs H Q E,sp vs H Q E->vs.length=ps.length)
  (b:∀ (f:Addr) (A:ζ) (outer:List Env) (s:Δ) (H:Hp) (vs:List V) (Q:VK) (E:XK),aL k (g.cx N qual st f (.ref c) A outer s H E).A->sp vs H Q E ->
   ∃ t,PR (g.cx N qual st f (.ref c) A outer s H E) (YO st) t/\t (fun σ v H'=>∃ l,Xk (g.cx N qual st f (.ref c) A outer s H E) σ l/\((∀ c∈l.as,H' c=none)->Q v (lay H' l))) (Xq N vs) H):g.Fn (k+1) x ps sp:=by
 obtain ⟨f,fd,F,bd,hm,hc⟩:=R;refine ⟨f,fd,F.RG S len fun cdv A outer s H vs Q E e hr h=>?_,bd,F.kp,hm⟩;have e':cdv = .ref c:=e.symm.trans hc;subst e';exact b f A outer s H vs Q E hr h
theorem U3 {K:Λ} {h:Heap} {mg:Str->Option Α} {f:Addr} {x:Str} {st:Stmt} {c:Addr} {oc kV dc pm cd ct:Α} {od an:Option Addr} {sl:Array (Option Α)} (X:K.In h) (G:h.Ns aI mg) (ps:List Str)
  (a:lp K aI x=some (some (.ref f))) (l:K.lookup f=some ⟨oc,od,.func (dQ x x (Y3 st) (YO st) (Yh st) .none kV dc pm an cd ct),sl⟩) (cc:i6 K cd x=true) (k:ee K (.ref f)=true) (e:cd = .ref c)
  (b:∀ (kV doc pm:Α) (an:Option Addr) (cdv ct:Α) (us:List Α),us.length=ps.length->iq (dQ x x (Y3 st) (YO st) (Yh st) .none kV doc pm an cdv ct) ⟨us,[]⟩=pure (ps.zip us)) :
  ∀ P w base,(Gx.mk P w K mg base).dW x x st ps c:=fun P w base =>
 have F:=Va (st:=st) l cc k
 ⟨f,_,F,F.binds b,jv X G a,e⟩
end L2
namespace HT
open PySem PySem.Spec PyProof.Rows
variable {prog:Ψ} {w:θ} {A:ζ} {E:Α->Δ->Prop} {s:Δ}
end HT
namespace L2
open PySem PySem.Spec PyProof.Rows
def RX (e:Expr):Arguments:=match e with
 | .Lambda a _ _ _=>a
 | _=>{ posonlyargs:=[],args:=[],vararg:=none,kwonlyargs:=[],kw_defaults:=[],kwarg:=none,defaults:=[] }
def RZ (e:Expr):Expr:=match e with
 | .Lambda _ b _ _=>b
 | e=>e
def Fy (e:Expr):Scope:=match e with
 | .Lambda _ _ sc _=>sc
 | _=>{ kind := .function,names:=[],isGenerator:=false,isCoroutine:=false }
section
variable {src:List (Option Nat)} {te:TE} {σ:St} {H:Hp} {Q:VK}
theorem R0 {K:Λ} {tl:TE} {xs:List V} {b:Addr} (I:Addr->Nat->List V->Hp->Prop) (ha:∀ R:V->Hp->Prop,R (.ref b) H->tl σ H R) (hS:ao K H b xs) (hlen:xs.length<=100000)
  (i0:∀ D,H D=none->I D 0 [] (upd H D (.lst []))) (dl:∀ D i zs H',H D=none->I D i zs H'->zs.length=i/\H' D=some (.lst zs)/\ao K H' b xs)
  (step:∀ D (i:Nat) x zs H',H D=none->xs[i]?=some x->I D i zs H'->∀ R:VK,(∀ y aF,aF D=some (.lst zs)->I D (i+1) (zs++[y]) (upd aF D (.lst (zs++[y])))->R y aF)->te (some x::YG src σ) H' R)
  (fin:∀ D zs H',H D=none->I D xs.length zs H'->Q (.ref D) H'):eX (none::src) (Wc K tl) (YF 0) Xy te σ H Q:=by
 refine ha _ ⟨b,rfl,⟨xs,hS⟩,fun D hD=>?_⟩;have h6:100000<sizeLine:=by decide
 refine Ut XT (fun i zs σ' H'=>(∃ o,σ'=o::YG src σ)/\i<=xs.length/\I D i zs H') ⟨⟨none,rfl⟩,ay _,i0 D hD⟩ (fun i zs σ' H' q=>⟨(dl _ _ _ _ hD q.2.2).2.2,(dl _ _ _ _ hD q.2.2).2.1⟩) (Wd 0) ?_ ?_
 ·rintro i zs σ' H' x hx ⟨⟨o,rfl⟩,_,hI⟩
  have hi:i<xs.length:=(Ι.mp hx).1;have hl:=(dl _ _ _ _ hD hI).1
  show te (some x::YG src σ) H' _
  exact step D i x zs H' hD hx hI _ fun y aF hd hI'=>⟨hd,by omega,⟨_,rfl⟩,hi,hI'⟩
 ·rintro zs σ' H' ⟨_,_,hI⟩
  exact fin D zs H' hD hI
end
mutual
inductive RK (h:Heap):Α->ε->Prop
 | int (i:Int) (t:Tok):RK h (.int i t) (.int i)
 | str (x:Str) (t:Tok) (hx:dq x=true):RK h (.str x t) (.str x)
 | tup {a:Addr} {o:Obj} {vs:Array Α} {n:Nat} {ds:List ε}:h.get? a=some o->o.cls = .type "tuple"->o.data = .seq vs n->dI h vs.toList ds->RK h (.ref a) (.tuple ds)
inductive dI (h:Heap):List Α->List ε->Prop
 | nil:dI h [] []
 | cons {v:Α} {d:ε} {vs:List Α} {ds:List ε}:RK h v d->dI h vs ds->dI h (v::vs) (d::ds)
end
mutual
inductive KO:ε->Prop
 | int (i:Int):KO (.int i)
 | str (x:Str):KO (.str x)
 | tup {ds:List ε}:iC ds->KO (.tuple ds)
inductive iC:List ε->Prop
 | nil:iC []
 | cons {d:ε} {ds:List ε}:KO d->iC ds->iC (d::ds)
end
mutual
theorem RK.ko {h:Heap}:∀ {v:Α} {d:ε},RK h v d->KO d
 | _,_,.int i t => .int i
 | _,_,.str x t _ => .str x
 | _,_,.tup _ _ _ hs => .tup hs.ko
theorem dI.ko {h:Heap}:∀ {vs:List Α} {ds:List ε},dI h vs ds->iC ds
 | _,_,.nil => .nil
 | _,_,.cons a b => .cons a.ko b.ko
end
mutual
theorem RK.reads {h:Heap}:∀ {v:Α} {d:ε},RK h v d->(∃ as,Reads h v d as)/\d.canLay0=true
 | _,_,.int i t=>⟨⟨_,.int i t⟩,rfl⟩
 | _,_,.str x t hx=>⟨⟨_,.str x t⟩,by simpa [fk] using hx⟩
 | _,_,.tup h1 h2 h3 hs=>by
  obtain ⟨⟨as,r⟩,l⟩:=hs.reads;exact ⟨⟨_,.tuple h1 h2 h3 r⟩,by rw [fk];exact l⟩
theorem dI.reads {h:Heap}:∀ {vs:List Α} {ds:List ε},dI h vs ds->(∃ as,ll h vs ds as)/\bE ds=true
 | _,_,.nil=>⟨⟨_,.nil⟩,rfl⟩
 | _,_,.cons a b=>by
  obtain ⟨⟨as,r⟩,l⟩:=a.reads;obtain ⟨⟨bs,r'⟩,l'⟩:=b.reads;exact ⟨⟨_,.cons r r'⟩,by rw [bE,l,l'];rfl⟩
end
theorem RK.inj {h:Heap} {d:ε} {v:Α} {e:ε} (a:RK h v d) (b:RK h v e):d=e:=by
 obtain ⟨⟨_,r⟩,l⟩:=a.reads;obtain ⟨⟨_,r'⟩,_⟩:=b.reads;exact (r.unique _ _ r').1
mutual
theorem RK.keeps {h h':Heap} {x:Addr} {o:Obj} {es:Array DictEntry} {ep:Nat} (ho:h.get? x=some o) (hd:o.data = .dict es ep) (hs:ci x h h'):∀ {v:Α} {d:ε},RK h v d->RK h' v d
 | _,_,.int i t => .int i t
 | _,_,.str y t hy => .str y t hy
 | _,_,.tup (a:=a) h1 h2 h3 ks=>by
  have hne:a≠x:=by
   rintro rfl;rw [ho] at h1
   cases h1
   rw [hd] at h3
   exact nomatch h3
  exact .tup ((hs.2 a hne).trans h1) h2 h3 (dI.keeps ho hd hs ks)
theorem dI.keeps {h h':Heap} {x:Addr} {o:Obj} {es:Array DictEntry} {ep:Nat} (ho:h.get? x=some o) (hd:o.data = .dict es ep) (hs:ci x h h'):∀ {vs:List Α} {ds:List ε},dI h vs ds->dI h' vs ds
 | _,_,.nil => .nil
 | _,_,.cons a b => .cons (RK.keeps ho hd hs a) (dI.keeps ho hd hs b)
end
noncomputable instance acg:DecidableEq PyData:=fun a b=>Classical.propDecidable (a=b)
mutual
theorem KO.eqv:∀ {d e:ε},KO d->KO e->d.eqv e=decide (d=e)
 | .int a,.int b,_,_=>by
  by_cases h:a=b
  ·subst h;simp [bi]
  ·simp [bi,h]
 | .str a,.str b,_,_=>by
  by_cases h:a=b
  ·subst h;simp [bi]
  ·simp [bi,h]
 | .int a,.str b,_,_=>by simp [bi]
 | .str a,.int b,_,_=>by simp [bi]
 | .int a,.tuple b,_,_=>by simp [bi]
 | .str a,.tuple b,_,_=>by simp [bi]
 | .tuple a,.int b,_,_=>by simp [bi]
 | .tuple a,.str b,_,_=>by simp [bi]
 | .tuple a,.tuple b,.tup x,.tup y=>by
  rw [bi,iC.eqv x y];by_cases h:a=b
  ·subst h;simp
  ·simp [h]
theorem iC.eqv:∀ {ds es:List ε},iC ds->iC es->e7 ds es=decide (ds=es)
 | [],[],_,_=>by simp [e7]
 | [],_::_,_,_=>by simp [e7]
 | _::_,[],_,_=>by simp [e7]
 | d::ds,e::es,.cons x xs,.cons y ys=>by
  rw [e7,KO.eqv x y,iC.eqv xs ys];by_cases h:d=e
  ·subst h
   by_cases h2:ds=es
   ·subst h2;simp
   ·simp [h2]
  ·simp [h]
end
section
variable {P:Ψ} {w:θ}
mutual
def kh (P:Ψ) (w:θ):ε->Int
 | .int i=>(XG P w).hash (.inl i)
 | .str x=>(XG P w).hash (.inr x)
 | .tuple ds=>reduceHash (dn (dX P w ds))
 | _=>0
def dX (P:Ψ) (w:θ):List ε->List Int
 | []=>[]
 | d::ds=>kh P w d::dX P w ds
end
mutual
def kdr:ε->Nat
 | .int _=>1
 | .str _=>1
 | .tuple ds=>Wm ds+1
 | _=>0
def Wm:List ε->Nat
 | []=>0
 | d::ds=>kdr d+Wm ds
end
theorem R3 (a b:List ε):dX P w (a++b)=dX P w a++dX P w b:=by
 induction a with
 | nil=>simp [dX]
 | cons x a ih=>simp [dX,ih]
theorem R4 (a b:List ε):Wm (a++b)=Wm a+Wm b:=by
 induction a with
 | nil=>simp [Wm]
 | cons x a ih=>simp [Wm,ih,lc]
theorem R5 (a b:List ε):ap (a++b)=max (ap a) (ap b):=by
 induction a with
 | nil=>simp [ap]
 | cons x a ih=>simp [ap,ih,Nat.max_assoc]
theorem UB {s:Δ} {a:Addr} {o:Obj} (h1:s.heap.get? a=some o) (h2:o.cls = .type "tuple"):s.TypeIs (.ref a) "tuple":=⟨o,h1,h2⟩
theorem Fz:∀ (n:Nat) {A:ζ} {E:Α->Δ->Prop} {s:Δ} {v:Α} {d:ε} {Q:Int->Δ->Prop},RK s.heap v d->d.depth<=n->A.units+n<fF->Q (kh P w d) { s with toks:=s.toks+kdr d }->Κ (Ο P w) A (pyHash v) Q E s
 | n,A,E,s,_,_,Q,.int i t,_,_,h=>(XG P w).pyHash (Dq (k := .inl i) (show Yx (.int i) (.int i t) from ⟨t,rfl⟩)) (by simpa [kh,kdr] using h)
 | n,A,E,s,_,_,Q,.str x t _,_,_,h=>(XG P w).pyHash (Dq (k := .inr x) (show Yx (.str x) (.str x t) from ⟨t,rfl⟩)) (by simpa [kh,kdr] using h)
 | 0,A,E,s,_,_,Q,.tup _ _ _ _,hd,_,h=>by simp [df] at hd
 | n+1,A,E,s,_,_,Q,.tup (a:=a) (ds:=ds) h1 h2 h3 ks,hd,hu,h=>by
  have hT:=UB h1 h2;unfold pyHash
  first | unfold pyHashByItsType | skip
  first | refine Β (wpAny_cRoomFor_or (.inr (by omega)) ?_) | skip
  refine Β (ij hT F.slot_tuple_hash.lookup ?_)
  show Κ _ _ (if (some (dA "tuple.__hash__")==some cq)=true then _ else _) Q E s
  rw [if_neg (by rw [beq_builtin_none];exact η)];refine Β (ij hT F.slot_tuple_hash.lookup ?_);refine Β (wpAny_callSpecialIfBoundUnlessNone?_slot hT F.slot_tuple_hash (ck F.slot_tuple_hash hT F.entry_tuple_hash ?_ (F.args_tuple_hash_1 _)))
  show Κ _ _ (Builtin.Tuple.tupleItemsOf (.ref a) >>= _) _ _ s
  refine Β (wpAny_tupleItemsOf h1 h3 ?_);refine Β ?_;rw [<- iX];have hdd:ap ds<=n:=by simp only [df] at hd;omega
  refine j3 _ (fun YQ (b:Array Int) s'=>∃ done left,ds=done++left/\dI s.heap YQ left/\b.toList=dX P w done/\s'={ s with toks:=s.toks+Wm done }) _ ?_ ?_ _ _ ⟨[],ds,rfl,ks,by simp [dX],by simp [Wm]⟩
  ·rintro x YQ b s' ⟨done,left,e,hl,hb,rfl⟩
   cases hl with
   | @cons _ d _ ds' hk hl' =>
    have hdk:d.depth<=n:=by
     rw [e,R5] at hdd
     simp only [ap] at hdd;omega
    have hin:A.in1.units+n<cLine:=by
     have:A.in1.units=A.units+1:=rfl;omega
    refine Β (Fz n (s:={ s with toks:=s.toks+Wm done }) hk hdk hin ?_);have fin:∃ nG left',ds=nG++left'/\dI s.heap YQ left'/\(b.push (kh P w d)).toList=dX P w nG/\({ s with toks:=s.toks+Wm done+kdr d }:Δ)={ s with toks:=s.toks+Wm nG } :=
     ⟨done++[d],ds',by rw [e];simp,hl',by rw [R3,Array.toList_push,hb];simp [dX],by rw [R4];simp [Wm,lc]⟩
    first
     | exact Μ fin
     | exact Β (Μ (Μ fin))
  ·rintro b s' ⟨done,left,e,hl,hb,rfl⟩
   cases hl
   rw [db] at e
   subst e
   show Κ _ _ (retInt (dn b.toList)) _ _ _
   rw [hb];refine wpAny_ret_mkInt ?_;simp only [kh,kdr] at h;unfold reduceHash at h
   show Κ _ _ (if (decide (-(2:Int)^63<=dn (dX P w ds))&&decide (dn (dX P w ds)<2^63))=true then _ else _) Q E _
   by_cases hr:(decide (-(2:Int)^63<=dn (dX P w ds))&&decide (dn (dX P w ds)<2^63))=true
   ·rw [if_pos hr]
    rw [if_pos hr] at h
    exact Μ (by simpa [lc] using h)
   ·rw [if_neg hr]
    rw [if_neg hr] at h
    exact Β (kq (Μ (by simpa [lc] using h)))
theorem FJ:∀ (n:Nat) {A:ζ} {E:Α->Δ->Prop} {s:Δ} {v:Α} {d:ε} {Q:Bool->Δ->Prop},RK s.heap v d->d.depth<=n->Q true s->Κ (Ο P w) A (eqIsQuiet n v) Q E s
 | n,A,E,s,_,_,Q,.int i t,_,h=>by rw [eqIsQuiet_byValue _ (by rfl)];exact Μ h
 | n,A,E,s,_,_,Q,.str x t _,_,h=>by rw [eqIsQuiet_byValue _ (by rfl)];exact Μ h
 | 0,A,E,s,_,_,Q,.tup _ _ _ _,hd,h=>by simp [df] at hd
 | n+1,A,E,s,_,_,Q,.tup (a:=a) (ds:=ds) h1 h2 h3 ks,hd,h=>by
  have hT:=UB h1 h2;have hdd:ap ds<=n:=by simp only [df] at hd;omega
  unfold eqIsQuiet;refine Β (ij hT F.slot_tuple_eq.lookup ?_);refine Β (j0 hT isSubtype_tuple_tuple ?_);simp only [Bool.not_true,c5,if_false];refine Β (b8 h1 h3 ?_);refine Β ?_;rw [Option.getD_some,<- iX];refine j3 _ (fun YQ r s'=>r.1=none/\s'=s/\∃ left,dI s.heap YQ left/\ap left<=n) _ ?_ ?_ _ _ ⟨rfl,rfl,ds,ks,hdd⟩
  ·rintro v YQ r s' ⟨hr,rfl,left,hl,hdl⟩
   cases hl with
   | @cons _ d _ ds' hk hl' =>
    simp only [ap] at hdl;refine Β (FJ n hk (by omega) ?_);simp only [Bool.not_true,c5,if_false];exact Μ ⟨rfl,rfl,ds',hl',by omega⟩
  ·rintro ⟨r1,r2⟩ s' ⟨hr,rfl,_⟩
   simp only at hr;subst hr;exact Μ h
noncomputable def lg (P:Ψ) (w:θ):HeapKind P w ε where
 is:=fun h d a=>RK h (.ref a) d/\d.depth<=8
 hash:=kh P w
 draws:=kdr
 room:=fun A=>A.units+8<fF
 inj:=fun hx hy=>hx.1.inj hy.1
 keeps:=fun x ho hd hs=>⟨x.1.keeps ho hd hs,x.2⟩
 pyHash:=fun hu hk h=>Fz 8 hk.1 hk.2 hu h
 eqBool:=fun {A E s x y a b Q} hu hx hy h=>by
  obtain ⟨⟨as,r1⟩,l1⟩:=hx.1.reads;obtain ⟨⟨bs,r2⟩,l2⟩:=hy.1.reads;have hm:min x.depth y.depth<=8:=az (Nat.min_le_left _ _) hx.2;exact fo x y A s _ _ _ _ r1 r2 l1 l2 (by omega) P w E Q (by rw [KO.eqv hx.1.ko hy.1.ko];exact h)
 quiet:=fun hk h=>FJ 8 hk.1 hk.2 h
end
abbrev Dx:=List (ε×Addr×Addr)
def FN (x:ε×Addr×Addr):ε×Addr×Value:=(x.1,x.2.1,.ref x.2.2)
noncomputable def ud (P:Ψ) (w:θ) (a:Addr) (xs:Dx):HO := .ext fun h=>(a==i4)=false/\∃ o es ep,h.get? a=some o/\o.ExactDict/\o.data = .dict es ep/\es.toList=(xs.map FN).map (entryOfKey (lg P w))
theorem R6 {P:Ψ} {w:θ} {H:Hp} {h:Heap} {a:Addr} {xs:Dx} (hd:(a==i4)=false) (e:∃ o es ep,h.get? a=some o/\o.ExactDict/\o.data = .dict es ep/\es.toList=(xs.map FN).map (entryOfKey (lg P w))):YK P w H h a (ud P w a xs):=by
 refine ⟨⟨hd,e⟩,?_,fun h1 h2 p k=>?_⟩
 ·obtain ⟨o,es,ep,h1,_⟩:=e
  exact ⟨o,h1⟩
 ·obtain ⟨q,o,es,ep,g1,g2⟩:=p
  exact ⟨q,o,es,ep,k _ g1,g2⟩
def R7 (P:Ψ) (w:θ):TE:=fun _ H Q=>∀ p,H p=none->Q (.ref p) (upd H p (ud P w p []))
section
variable {X:Cx} {o i e value:Expr} {pos pos' tpos:Pos} {td ty tv:TE} {k:Nat}
theorem R8:PE X (.Dict [] [] pos) (R7 X.prog X.w):=fun pins s σ H Q I h =>
 wpAny_Dict_empty ⟨.ref s.heap.objs.size,_,I.laid (a:=s.heap.objs.size) (o:=ud X.prog X.w s.heap.objs.size []) (t':=s.toks) (fun _ _ q=>Ε _ q) (Φ _) (R6 (beq_eq_false_iff_ne.mpr (ah (ν I.big))) ⟨_,#[],0,δ _ rfl,⟨rfl,rfl,rfl⟩,rfl,rfl⟩),rfl,h _ (I.hok.fresh (Φ _))⟩
end
section
variable {X:Cx} {e:Expr} {f:Str} {pos:Pos} {ta:TE}
theorem R9 {K:Λ} (he:PE X e ta) (hb:fA e f X.env (eval e X.env)=eval e X.env) (h:X.K=K):PE X (.Attribute e f pos) (tu K ta f):=by subst h;exact vV he hb
end
end L2
namespace PySem.W
open PySem PyProof.Rows
open Builtin Builtin.ObjectAttr
section
variable {prog:Ψ} {w:θ} {A:ζ} {E:Α->Δ->Prop} {hh:Heap} {g:Array GenState} {d:Drawn} {t:Nat} {os:OsState} {K:Frag} {x C D:Addr} {ox:Obj} {mA:Str->Option Α} {f:Str} {v:Α}
theorem Sd {tk:Tok} {Q:Fin->Δ->Prop} (In:K.In hh) (hd:kS K C=true) (hx:hh.get? x=some ox) (hc:ox.cls = .ref C) (hnc:∀ c,ox.data ≠ .cls c) (hdc:ox.dict=some D) (hns:hh.Ns D mA) (hv:mA f=some v) (ha:c6 K (.ref C) f=some none)
  (hq:Q (.done (.ret v)) ⟨hh,g,d,t,os⟩):Κ (Ο prog w) A (Builtin.«object.__getattribute__» ⟨[.ref x,.str f tk],[]⟩) Q E ⟨hh,g,d,t,os⟩:=by
 have L3:=gv (M:=Ο prog w) In ha;unfold Builtin.«object.__getattribute__»
 repeat (any_goals (first | assumption | (with_reducible refine cy hx ?_;rw [hc]) | with_reducible refine L3.at ?_ | wp_step))
 obtain ⟨cd,e,hcd⟩:=lj hd;have L4:=looks_clsIn (M:=Ο prog w) In e
 split
 ·rename_i c JK
  exact absurd JK (hnc c)
 unfold instanceDict
 repeat (any_goals (first | assumption | (with_reducible refine cy hx ?_;simp only [hc]) | with_reducible refine L4.at ?_ | wp_step))
 rw [hdc]
 repeat (any_goals (first | assumption | (with_reducible refine wpAny_nsGet hns ?_;rw [hv]) | wp_step))
theorem Sg {tk:Tok} {R:jp->Δ->Prop} (In:K.In hh) (hd:kS K C=true) (hx:hh.get? x=some ox) (hc:ox.cls = .ref C) (hnc:∀ c,ox.data ≠ .cls c) (hdc:ox.dict=some D) (hns:hh.Ns D mA) (hv:mA f=some v) (hb:i3 K C (.type "BaseException")=some true) (ha:c6 K (.ref C) f=some none)
  (hq:R (.ok (.ret v)) ⟨hh,g,d,t,os⟩):d6 (Ο prog w) A (.call (.builtin "BaseException.__getattribute__") ⟨[.ref x,.str f tk],[]⟩) R ⟨hh,g,d,t,os⟩ :=
 fc (by decide +kernel) F.entry_bexc_ga (V2 In hx hc hb (Sd In hd hx hc hnc hdc hns hv ha hq))
theorem nH {b:Bool} {Q:Α->Δ->Prop} (In:K.In hh) (hd:kS K C=true) (hx:hh.get? x=some ox) (hc:ox.cls = .ref C) (hnc:∀ c,ox.data ≠ .cls c) (hdc:ox.dict=some D) (hns:hh.Ns D mA) (hv:mA f=some v) (hh':handedOut v=pure v) (hb:i3 K C (.type "BaseException")=some true) (ha:c6 K (.ref C) f=some none)
  (hga:c6 K (.ref C) "__getattribute__"=some (some (.builtin "BaseException.__getattribute__"))) (hgt:c6 K (.ref C) "__getattr__"=some none) (hq:Q v ⟨hh,g,d,t+1,os⟩) :
  Κ (Ο prog w) A (getAttr (.ref x) f b) Q E ⟨hh,g,d,t,os⟩:=by
 have hbd:=Qr (.ref x);have e2:(dA "BaseException.__getattribute__"==dA "object.__getattribute__")=false:=by decide +kernel
 have e1:(onTheHeap (Ω C)&&dA "BaseException.__getattribute__"==dA "object.__getattribute__")=false:=by rw [e2];rfl
 have L1:=gv (M:=Ο prog w) In hga;have L2:=gv (M:=Ο prog w) In hgt;unfold getAttr getAttrBy
 repeat (any_goals (first | assumption | (with_reducible refine cy hx ?_;rw [hc]) | with_reducible refine L1.at ?_ | with_reducible refine L2.at ?_ | wp_step))
 have e0:(b&&onTheHeap (dA "BaseException.__getattribute__"))=false:=by cases b<;>rfl
 rw [if_neg (by rw [e0];decide)];unfold boundAndCalled
 repeat (any_goals (first | assumption | wp_step))
 refine Sg In hd hx hc hnc hdc hns hv hb ha ?_
 repeat (any_goals (first | assumption | wp_step))
end
section
variable {prog:Ψ} {w:θ} {A:ζ} {E:Α->Δ->Prop} {s:Δ} {K:Frag} {x C C' D:Addr} {ox:Obj} {od:Option Obj} {mA:Str->Option Α} {name:Str} {v:Α} {R:jp->Δ->Prop}
def gU (K:Frag) (C C':Addr):Bool:=(clsIn K C).any fun cd=>cd.mro==[.ref C,.ref C',.type "ValueError",.type "Exception",.type "BaseException",.type "object"]
theorem UC {tk:Tok} (X:K.In s.heap) (I:InstAt s.heap x ox C od) (hm:gU K C C'=true) (ha:c6 K (.ref C) name=some none)
  (h:Κ (Ο prog w) A.in1 (storeInOwnDict (.ref x) (.ref C) (.str name tk) name v false)
   (fun fin s'=>match fin with | .done f=>R (.ok f) s' | .again c'=>c'.quiet=true/\d6 (Ο prog w) A c' R s') (fun e s'=>R (.error e) s') s) :
  d6 (Ο prog w) A (.call (.builtin "object.__setattr__") ⟨[.ref x,.str name tk,v],[]⟩) R s:=by
 have SF:=PySem.F.store_object;obtain ⟨cd,hc,ho⟩:=lj hm;have ho:=eq_of_beq ho;have sub:Looks (Ο prog w) s.heap (isInstance (.ref x) (.type "object")) true:=I.type.andThen (looks_mroIn X (by unfold i3;rw [hc,Option.bind_some,ho];rfl));refine fc SF.slot.plain SF.entry (@check_slot (Ο prog w) _ _ s "object.__setattr__" "object" "__setattr__" (.ref x) [.str name tk,v] [] _ SF.kind SF.split sub (SF.args (.ref x) (.str name tk) v) ?_);have hmro:Looks (Ο prog w) s.heap (mroOf (.ref C)) cd.mro:=(looks_clsIn X hc).andThen .now;rw [osa_eq,refuse_eq];refine Β (Β (I.type.here (Β (hmro.here ?_))));rw [ho,refuseLoop_ref,refuseLoop_ref,PySem.F.store_ValueError.passes];refine Μ (Β (I.type.here (Β ((gv X ha).here (Β (Μ ?_))))));exact h
end
section
variable {prog:Ψ} {w:θ} {A:ζ} {E:Α->Δ->Prop} {s:Δ} {K:Frag} {x C C' D:Addr} {ox:Obj} {od:Option Obj} {mA:Str->Option Α} {name:Str} {v:Α} {vs:Array Α} {Q:Unit->Δ->Prop}
theorem FP (hf:ox.data = .fields vs):notCls ox=true:=by unfold notCls;rw [hf]
theorem nJ {ns:List Str} (X:K.In s.heap) (hx:s.heap.get? x=some ox) (hc:ox.cls = .ref C) (hf:ox.data = .fields vs) (hdc:ox.dict=some D) (hn:s.heap.Ns1 D mA) (hne:D≠x) (hd:kS K C=true) (hm:gU K C C'=true) (ha:c6 K (.ref C) name=some none)
  (hs:c6 K (.ref C) "__setattr__"=some (some (.builtin "object.__setattr__"))) (hw:iL mA ns) (hsz:ns.length<=sizeLine)
  (h:∀ h',h'.Ns1 D (fun y=>if y=name then some v else mA y)->ci D s.heap h'->Q () { s with heap:=h',toks:=s.toks+2 }):Κ (Ο prog w) A (setAttr (.ref x) name v) Q E s:=by
 obtain ⟨oD,_,_,JL,_⟩:=id hn;have J:InstAt s.heap x ox C (some oD):=⟨hx,hc,FP hf,by rw [hdc];exact JL⟩;refine set_plain X J hs (UC (s:={ s with toks:=s.toks+1 }) (C':=C') X J hm ha ?_);obtain ⟨cd,hcd,hd'⟩:=lj hd;refine Β (Μ (Β (Β (kH hx ?_))));simp only [hc];refine Β (Looks.here (s:={ s with toks:=s.toks+1 }) (looks_clsIn X hcd) ?_);rw [hd',hdc];refine Μ (a:=some D) (Β (Μ (Β ?_)));refine wpAny_nsSet1 (s:={ s with toks:=s.toks+1 }) hn fun h' hn2 hs2=>?_
 obtain ⟨oD,esD,epD,hoD,hdD,hcD⟩:=hn2.count (PySem.Within.cons name v hw);refine Β (wpAny_lookBehind hoD (by rw [hdD];exact pastItsLine_dict (az hcD (by rw [υ];omega))) ?_);exact Μ (h _ hn2 hs2)
theorem pA (X:K.In s.heap) (hx:s.heap.get? x=some ox) (hc:ox.cls = .ref C) (hf:ox.data = .fields vs) (hdc:ox.dict=none) (hd:kS K C=true) (hm:gU K C C'=true) (ha:c6 K (.ref C) name=some none)
  (hs:c6 K (.ref C) "__setattr__"=some (some (.builtin "object.__setattr__")))
  (h:∀ h',h'.Ns1 s.heap.objs.size (fun y=>if y=name then some v else none)->h'.get? x=some { ox with dict:=some s.heap.objs.size }->(∀ b o,b≠x->s.heap.get? b=some o->h'.get? b=some o)->Q () { s with heap:=h',toks:=s.toks+2 }):Κ (Ο prog w) A (setAttr (.ref x) name v) Q E s:=by
 have J:InstAt s.heap x ox C none:=⟨hx,hc,FP hf,by rw [hdc];exact eJ⟩;refine set_plain X J hs (UC (s:={ s with toks:=s.toks+1 }) (C':=C') X J hm ha ?_);obtain ⟨cd,hcd,hd'⟩:=lj hd;refine Β (Μ (Β (Β (kH hx ?_))));simp only [hc];refine Β (Looks.here (s:={ s with toks:=s.toks+1 }) (looks_clsIn X hcd) ?_);rw [hd',hdc,hf];rw [if_neg (by decide)];dsimp only;rw [if_neg (by simp [typeHasDict])];have hx₁:(s.heap.push { cls := .type "dict",data := .dict #[] }).get? x=some ox:=Ε _ hx;have hxs:x≠s.heap.objs.size:=ν (Ν hx);refine Β (wpAny_alloc' (Β (wpAny_update' hx₁ (Μ ?_))));generalize hH:(s.heap.push { cls := .type "dict",data := .dict #[] }).update x (fun o=>{ cls:=o.cls,dict:=some s.heap.objs.size,data:=o.data,slots:=o.slots })=H2;have hgd:H2.get? s.heap.objs.size=some { cls := .type "dict",data := .dict #[] }:=by
  rw [<- hH];exact (Heap.get?_update_ne _ _ _ _ hxs.symm).trans (Heap.get?_push_at rfl rfl)
 have hx2:H2.get? x=some { cls:=ox.cls,dict:=some s.heap.objs.size,data:=ox.data,slots:=ox.slots }:=by
  rw [<- hH];refine br _ hx₁ ?_;have hfr:=(Heap.get?_some_iff.mp hx).2;obtain ⟨oc,od,odt,osl⟩:=ox
  cases odt<;>first | rfl | exact hfr
 have hko:∀ b o,b≠x->s.heap.get? b=some o->H2.get? b=some o:=fun b o hb e=>by
  rw [<- hH];exact (Heap.get?_update_ne _ _ _ _ hb).trans (Ε _ e)
 have hnd:H2.Ns s.heap.objs.size (fun _=>none):=⟨_,#[],_,hgd,rfl,fun e he=>absurd he (by simp),fun _=>rfl⟩;refine Β (Μ (Β ?_));refine wpAny_nsSet1 (s:={ s with heap:=H2,toks:=s.toks+1 }) (Heap.Ns1.of_empty hnd) fun h' hn2 hs2=>?_
 obtain ⟨oD,esD,epD,hoD,hdD,hcD⟩:=hn2.count (PySem.Within.cons name v PySem.Within.nil);refine Β (wpAny_lookBehind hoD (by rw [hdD];exact pastItsLine_dict (az hcD (by rw [υ,da,kP];omega))) ?_);exact Μ (h _ hn2 ((hs2.2 x hxs).trans hx2) fun b o hb e=>(hs2.2 b (ν (Ν e))).trans (hko b o hb e))
end
end PySem.W
namespace PySem.W
open PySem PyProof.Rows
theorem Sh {K:Frag} {h:Heap} {N:Addr} {mg:Str->Option Α} {n:Str} {v:Α} (X:K.In h) (G:h.Ns N mg) (e:nsIn K N n=some (some v)):mg n=some v:=by
 obtain ⟨o,es,ep,ho,hd,_,hf⟩:=G;unfold nsIn at e
 split at e
 ·rename_i c d es' n' sl q
  have:=X _ _ q;rw [ho] at this
  cases this
  cases hd
  split at e
  ·rename_i he
   rw [<- hf];unfold nsFind findBy;rw [<- Array.find?_toList,he]
   cases e
   rfl
  ·split at e<;>cases e
 ·cases e
def eY (K:Frag) (C:Addr) (tl:List Α) (nw:String) (f:Addr):Bool:=match K.lookup C with
 | some ⟨.type "type",_,.cls cd,sl⟩=>(match cd.mro,sl.toList with
  | .ref c::bm,[_,_,_,_,some (.builtin n),_]=>(c==C&&n==nw)&&((!cd.hasDel&&tailIn K tl bm)&&(nsOkIn K cd.ns&&nsIn K cd.ns "__init__"==some (some (.ref f))))
  | _,_=>false)
 | _=>false
theorem fH {K:Frag} {h:Heap} {C f:Addr} {tl:List Α} {nw:String} (In:K.In h) (q:eY K C tl nw f=true) :
  ∃ (bm:List Α) (ns:Addr) (nm qn:Str) (bs:List Α) (hd:Bool) (sn:List Str) (sub:List Α) (ab:Bool) (col:Option Bool) (dd:Option Addr) (k0 k1 k2 k3 k5:Option Α) (mN:Str->Option Α),
   h.get? C=some (f8 nm qn C ns bs bm hd sn sub ab col dd k0 k1 k2 k3 k5 nw)/\h.Ns ns mN/\mN "__init__"=some (.ref f)/\OwnTail h tl bm:=by
 unfold eY at q
 split at q
 case h_2=>exact absurd q (by decide)
 case h_1 dd cd sl lk =>
  split at q
  case h_2=>exact absurd q (by decide)
  case h_1 c2 bm k0 k1 k2 k3 n k5 em es =>
   simp only [beq_iff_eq,de,Bool.not_eq_true'] at q;obtain ⟨⟨q1,q2⟩,⟨q3,q4⟩,q5,q6⟩:=q;obtain ⟨nm,bs,mro,ns,qn,hd,sn,sub,ab,col,del⟩:=cd;obtain ⟨lst⟩:=sl;dsimp only at em q3 q5 q6 es;subst q1 q2 em q3 es;have hN:h.Ns ns _ := .of_isNs (isNs_of_in In q5);exact ⟨bm,ns,nm,qn,bs,hd,sn,sub,ab,col,dd,k0,k1,k2,k3,k5,_,In _ _ lk,hN,Sh In hN q6,tail_of_in In q4⟩
abbrev WZ (a0:Α):Array Value:=#[a0,.none,.none,.none,.bool false,.none]
section
variable {prog:Ψ} {w:θ} {A:ζ} {E:Α->Δ->Prop} {h:Heap} {g:Array GenState} {d:Drawn} {t:Nat} {os:OsState}
variable {nm q:Str} {C N:Addr} {bs bm bmB:List Α} {hdct:Bool} {sn:List Str} {sub:List Α} {ab:Bool} {col:Option Bool} {dd:Option Addr} {k0 k1 k2 k3 k5:Option Α} {B newId initId:String}
theorem QF (F:ExcBaseFacts B newId initId bmB) (T:OwnTail h bmB bm) {mN:Str->Option Α} {YQ:List Α} {fI:Addr} {oI:Obj} {Q:Fin->Δ->Prop}
  (hC:h.get? C=some (f8 nm q C N bs bm hdct sn sub ab col dd k0 k1 k2 k3 k5 newId)) (hn:h.Ns N mN) (hi:mN "__init__"=some (.ref fI))
  (hfI:h.get? fI=some oI) (hfc:oI.cls = .type "function")
  (hq:∀ h' e,kN h h' e (.ref C) YQ->e=h.objs.size+1 ->
   Κ (Ο prog w) A (call (.ref fI) (.ref e::YQ)) (fun r s'=>r = .none/\Q (.done (.ret (.ref e))) s') E ⟨h',g,d,t,os⟩) (hrest:YQ.length<=sizeLine) :
  Κ (Ο prog w) A (Builtin.«type.__call__» ⟨.ref C::YQ,[]⟩) Q E ⟨h,g,d,t,os⟩:=by
 repeat (first | with_reducible refine cy hC ?_ | with_reducible refine wpAny_madeBy_exc hC ?_ | wp_step)
 refine codeAny_call_builtin_code (Code.quiet_builtin _ F.quiet) (wpAny_check_new_subT F T hC ?_);refine codeAny_exc_new_subT F T hC ?_ hrest
 show Κ _ _ _ _ _ _
 have keep:∀ b o,h.get? b=some o->((h.push { cls := .type "tuple",data := .seq YQ.toArray }).push { cls := .ref C,data := .fields #[.ref h.objs.size,.none,.none,.none,.bool false,.none] }).get? b=some o :=
  fun b o e=>Ε _ (Ε _ e)
 have hget:((h.push { cls := .type "tuple",data := .seq YQ.toArray }).push
   { cls := .ref C,data := .fields #[.ref h.objs.size,.none,.none,.none,.bool false,.none] }).get? (h.objs.size+1)=some
   { cls := .ref C,data := .fields #[.ref h.objs.size,.none,.none,.none,.bool false,.none] }:=by heap_get
 have hC₁:=keep _ _ hC;have hn₁:=hn.keeps keep;have hcC:(Ω C::bm).contains (.ref C)=true:=by simp
 have T₁:=T.keeps keep;unfold isInstance
 repeat (first | with_reducible refine cy hget ?_ | (with_reducible refine wpAny_isSubtype_exc hC₁ ?_;rw [hcC]) | wp_step)
 show Κ _ _ (typeLookup (.ref C) _) _ _ _
 refine wpAny_typeLookup_tail hC₁ hn₁ T₁ F.mroIs F.init.lookup ?_;rw [hi];refine dy (Β ?_);unfold bindSpecial;refine Β (wpAny_typeOf (T:="function") ⟨_,keep _ _ hfI,hfc⟩ ?_);rw [if_pos (by decide)];refine Μ (Β (ω (hq _ (h.objs.size+1) ⟨keep,Heap.get?_none_of_le (ly _),h.objs.size,hget,Heap.get?_none_of_le (Φ _),?_⟩ rfl) (fun r s' hr=>?_) fun _ _ x=>x))
 ·exact Ε _ (Heap.get?_push_at rfl rfl)
 ·obtain ⟨rfl,hQ⟩:=hr
  wp_walk
  exact hQ
theorem jT (F:ExcBaseFacts B newId initId bmB) (T:OwnTail h bmB bm) {mN:Str->Option Α} {YQ:List Α} {fI:Addr} {oI:Obj} {Q:Α->Δ->Prop}
  (hC:h.get? C=some (f8 nm q C N bs bm hdct sn sub ab col dd k0 k1 k2 k3 k5 newId)) (hn:h.Ns N mN) (hi:mN "__init__"=some (.ref fI))
  (hfI:h.get? fI=some oI) (hfc:oI.cls = .type "function")
  (hq:∀ h' e,kN h h' e (.ref C) YQ->e=h.objs.size+1 ->
   Κ (Ο prog w) (A.under (.builtin "type.__call__" ⟨.ref C::YQ,[]⟩)) (call (.ref fI) (.ref e::YQ)) (fun r s'=>r = .none/\Q (.ref e) s') E ⟨h',g,d,t,os⟩) (hrest:YQ.length<=sizeLine) :
  Κ (Ο prog w) A (call (.ref C) YQ) Q E ⟨h,g,d,t,os⟩:=by
 have f1:=tc_lookup;have f2:=tc_bind (.ref C);have hT:(⟨h,g,d,t,os⟩:Δ).TypeIs (.ref C) "type":=⟨_,hC,rfl⟩;refine gS (codeAny_of_tree ?_)
 show Κ _ _ (callAny (.ref C) _) _ _ _
 repeat (any_goals (first | assumption | with_reducible refine cy hC ?_ | wp_step))
 refine ⟨rfl,?_⟩;exact codeAny_call_builtin_at (Code.quiet_builtin _ (by decide +kernel)) entry_typeCall (wpAny_check_type_call_sub hC (QF F T hC hn hi hfI hfc (fun h' e hm he=>hq h' e hm he) hrest))
theorem jU (F:ExcBaseFacts B newId initId bmB) (T:OwnTail h bmB bm) {e:Addr} {dc:Option Addr} {sl:Array (Option Α)} {t0:Addr} {m:Α} {Q:Α->Δ->Prop}
  (hC:h.get? C=some (f8 nm q C N bs bm hdct sn sub ab col dd k0 k1 k2 k3 k5 newId)) (he:h.get? e=some ⟨.ref C,dc,.fields (WZ (.ref t0)),sl⟩)
  (hq:∀ h' T,h'.get? e=some ⟨.ref C,dc,.fields (WZ (.ref T)),sl⟩->(∀ b o,b≠e->h.get? b=some o->h'.get? b=some o)->Q .none ⟨h',g,d,t,os⟩) :
  Κ (Ο prog w) A (call (.builtin initId) [.ref e,m]) Q E ⟨h,g,d,t,os⟩:=by
 refine gS (fc F.init.plain F.initEntry (wpAny_check_init_subT F T hC he rfl ?_));have xM:(h.push { cls := .type "tuple",data := .seq [m].toArray }).get? e=some ⟨.ref C,dc,.fields (WZ (.ref t0)),sl⟩:=Ε _ he
 wp_walk
 refine hq _ h.objs.size ((br _ xM rfl).trans rfl) fun b o hb eb=>?_
 exact (c8 _ _ (ah hb)).trans (Ε _ eb)
end
section
variable {M:Model} {A:ζ} {E:Α->Δ->Prop} {env:Env}
variable {nm q:Str} {C N:Addr} {bs bm bmB:List Α} {hdct:Bool} {sn:List Str} {sub:List Α} {ab:Bool} {col:Option Bool} {dd:Option Addr} {k0 k1 k2 k3 k5:Option Α} {B newId initId:String}
theorem Vh {s:Δ} {x:Sem Α} {Q:Flow->Δ->Prop} (hbase:bm.contains (.type "BaseException")=true) (hh:A.handled=none)
  (h:Κ M A x (fun v s₁=>∃ e dc t0 sl,v = .ref e/\s₁.heap.get? C=some (f8 nm q C N bs bm hdct sn sub ab col dd k0 k1 k2 k3 k5 newId)/\s₁.heap.get? e=some ⟨.ref C,dc,.fields (WZ (.ref t0)),sl⟩/\E (.ref e) s₁) E s) :
  Κ M A (raiseStmt env (some x) none) Q E s:=by
 have hcB:(Ω C::bm).contains (.type "BaseException")=true:=by rw [List.contains_cons,hbase,Bool.or_true]
 unfold raiseStmt;refine Β (ω h (fun v s₁ h₁=>?_) fun _ _ x=>x);obtain ⟨e,dc,t0,sl,rfl,hC,he,hE⟩:=h₁;obtain ⟨hp,g,d,tk,os⟩:=s₁
 repeat (first | with_reducible refine cy he ?_ | with_reducible refine cy hC ?_ | (with_reducible refine wpAny_isSubtype_exc hC ?_;rw [hcB]) | wp_step)
 exact wpAny_raiseNew_none hh hE
end
section
variable {prog:Ψ} {w:θ} {A:ζ} {E:Α->Δ->Prop} {s:Δ} {env:Env}
variable {nm q:Str} {C N:Addr} {bs bm bmB:List Α} {hdct:Bool} {sn:List Str} {sub:List Α} {ab:Bool} {col:Option Bool} {dd:Option Addr} {k0 k1 k2 k3 k5:Option Α} {B newId initId:String}
theorem jB {x:Str} {np cpos pos:Pos} {args:List Expr} {Q:Flow->Δ->Prop}
  (hbase:bm.contains (.type "BaseException")=true) (hh:A.handled=none) (hplain:(bz cpos (Χ args env)).any (·.1)=false)
  (h:Κ (Ο prog w) A (eval (.Name x np) env) (fun f s₁=>f = .ref C/\Κ (Ο prog w) A (evalArgs (.ref C) true (bz cpos (Χ args env)) [])
   (fun a s₂=>a.kw=[]/\s₂.heap.get? C=some (f8 nm q C N bs bm hdct sn sub ab col dd k0 k1 k2 k3 k5 newId) /\
    Κ (Ο prog w) A (call (.ref C) a.pos) (fun v s₃=>∃ e dc t0 sl,v = .ref e/\s₃.heap.get? C=some (f8 nm q C N bs bm hdct sn sub ab col dd k0 k1 k2 k3 k5 newId)/\s₃.heap.get? e=some ⟨.ref C,dc,.fields (WZ (.ref t0)),sl⟩/\E (.ref e) s₃) E s₂) E s₁) E s) :
  Κ (Ο prog w) A (exec (.Raise (some (.Call (.Name x np) args [] cpos)) none pos) env) Q E s:=by
 rw [arm_exec_Raise]
 first
  | refine Β (fz (Vh (C:=C) (nm:=nm) (q:=q) (N:=N) (bs:=bs) (bm:=bm) (hdct:=hdct) (sn:=sn) (sub:=sub) (ab:=ab) (col:=col) (dd:=dd) (k0:=k0) (k1:=k1) (k2:=k2) (k3:=k3) (k5:=k5) (newId:=newId) hbase hh (Β (ω (wpAny_Call_ofName (ω h (fun f s₁ h₁=>?_) fun _ _ x=>x)) (fun v s₃ h₃=>Β (fz (Μ h₃))) fun _ _ x=>x))))
  | (refine Β (fz (Vh (C:=C) (nm:=nm) (q:=q) (N:=N) (bs:=bs) (bm:=bm) (hdct:=hdct) (sn:=sn) (sub:=sub) (ab:=ab) (col:=col) (dd:=dd) (k0:=k0) (k1:=k1) (k2:=k2) (k3:=k3) (k5:=k5) (newId:=newId) hbase hh ?_));refine Β (ω (wpAny_Call_ofName (ω h (fun f s₁ h₁=>?_) fun _ _ x=>x)) (fun v s₃ h₃=>Β (fz (Μ h₃))) fun _ _ x=>x))
 obtain ⟨rfl,h₁⟩:=h₁;unfold callWith;refine Β (dy (ω h₁ (fun a s₂ h₂=>Β (fz ?_)) fun _ _ x=>x));obtain ⟨apos,akw⟩:=a;obtain ⟨hkw,hC,h₂⟩:=h₂;obtain rfl:akw=[]:=hkw;obtain ⟨hp,g,d,tk,os⟩:=s₂;simp only [hplain];refine Β (wpAny_keeperOf_exc hC ?_);exact Β (ω h₂ (fun v s₃ h₃=>Β (dy (wpAny_point (Μ h₃)))) fun _ _ x=>x)
end
end PySem.W
namespace L2
open PySem PySem.Spec PyProof.Rows
open PySem.W (WZ)
def XJ (a:Addr) (cls:Α) (dc:Option Addr):HO := .ext fun h=>∃ t0 sl,h.get? a=some ⟨cls,dc,.fields (WZ (.ref t0)),sl⟩
def del (H:Hp) (a:Addr):Hp:=fun b=>if b=a then none else H b
theorem Sq {H:Hp} {a:Addr}:del H a a=none:=by unfold del;rw [if_pos rfl]
theorem WO {H:Hp} {a b:Addr} (h:b≠a):del H a b=H b:=by unfold del;rw [if_neg h]
theorem Ss {H:Hp} {a b:Addr} {o:HO} (h:del H a b=some o):b≠a/\H b=some o:=by
 unfold del at h
 split at h
 ·cases h
 ·exact ⟨‹_›,h⟩
section
variable {P:Ψ} {w:θ} {H:Hp} {h:Heap} {a t0:Addr} {cls:Α} {dc:Option Addr} {sl:Array (Option Α)}
theorem U4 (q:h.get? a=some ⟨cls,dc,.fields (WZ (.ref t0)),sl⟩):YK P w H h a (XJ a cls dc):=⟨⟨t0,sl,q⟩,⟨_,q⟩,fun h1 h2 ⟨t,sl,p⟩ k=>⟨t,sl,k _ p⟩⟩
end
section
variable {X:Cx} {pins:List (Addr×Obj)} {σ:St} {H:Hp} {s:Δ} {e:Addr} {cls:Α} {M:Model} {A:ζ} {Q:Unit->Δ->Prop} {EE:Α->Δ->Prop} {dc:Option Addr}
theorem Inv.nM (I:Inv X pins σ H s) (hs:X.stack=X.env::X.outer) (hf:X.env.frame=some X.env.locals) (hex:X.ex=[]) (hA:A.frames=some (X.env::X.outer)) (he:H e=some (XJ e cls dc)) (hnew:X.s₀.heap.get? e=none)
  (hQ:∀ h'' B,cF X.prog X.w X.outer X.H₀ X.s₀.heap e cls (del H e) h'' B->Xv h'' e dc->Q () { s with heap:=h'' }):Κ M A (leaving X.env (.ref e)) Q EE s:=by
 have nx:∀ b:Addr,b∉X.ex:=by
  rw [hex];intro b z
  cases z
 have st:=I.stack;have sf:=I.dN;rw [hs] at st sf
 obtain ⟨⟨t0,sl,q0⟩,_,_⟩:=I.hok e _ he;have hne:∀ b o,X.s₀.heap.get? b=some o->b≠e:=fun b o q z=>by rw [z,hnew] at q;cases q
 have hd0:Xv s.heap e dc:=⟨_,q0,rfl⟩;have xO:(im s.heap (e::frs (X.env::X.outer))).StaysIn s.heap:=fun b o q=>PySem.W.of_hideAll _ q
 refine ω (Wk (WL _ _) hd0 (wpAny_leaving_firstW (Q:=fun _ s'=>∃ h'',s'={ s with heap:=h'' }/\cF X.prog X.w X.outer X.H₀ X.s₀.heap e cls (del H e) h'' (im s.heap (e::frs (X.env::X.outer)))) (a0 := .ref t0) (base:=im s.heap (e::frs (X.env::X.outer))) hA (PySem.W.funFrames_hide st fun env he a ha=>bS _ (iP.mpr ⟨env,he,ha⟩)) hf q0 xO (PySem.W.hideAll_none _ (eP ..)) rfl rfl rfl fun h'' hL=>⟨h'',rfl,?_⟩)) (fun _ s' z=>by
  obtain ⟨⟨h'',rfl,F⟩,d⟩:=z;exact hQ h'' _ F d) fun _ _ z=>z.1
 obtain ⟨k1,⟨_,_,k2⟩,k3,k4⟩:=hL;have uf:∀ b o,X.s₀.heap.get? b=some o->b∉frs X.outer->b∉e::frs (X.env::X.outer):=fun b o q nb z=>by
  rcases Υ.mp z with z | z
  ·exact hne b o q z
  ·exact I.gk hf q nb z
 refine ⟨⟨_,k1,PySem.W.hideAll_none _ (eP ..),k2,k3⟩,fun b u q=>?_,fun b o q n nb=>eB _ (I.base.keep b o q n nb (nx b)) (uf b o q nb),fun b o q n hb=>?_,fun b o q nb=>?_,fun b o q n=>?_,fun b xs q=>?_,fun b o u q=>?_,fun b ps q=>?_⟩
 ·obtain ⟨nb,q⟩:=Ss q
  refine (I.hok b u q).stay (fun c v hc r=>eB _ r fun z=>?_) (fun c r=>?_) fun c xs r=>?_
  ·rcases Υ.mp z with z | z
   ·subst z
    rcases hc with hc | hc
    ·exact nb hc.symm
    ·rw [he] at hc;cases hc
   ·have n:=sf c z
    rcases hc with rfl | hc
    ·rw [n] at q;cases q
    ·rw [n] at hc;cases hc
  ·rw [WO fun z=>by rw [z,he] at r;cases r];exact r
  ·rw [WO fun z=>by rw [z,he] at r;cases r];exact r
 ·obtain ⟨sl,e1⟩:=I.base.slot b o q n hb (nx b)
  obtain ⟨_,o',e',d⟩:=I.ok.cu.mem hb;rw [q] at e'
  cases e'
  obtain ⟨sl',e2⟩:=k4 b _ e1 d;exact ⟨sl',e2⟩
 ·obtain ⟨o',e1⟩:=I.base.there b o q (nx b)
  exact ⟨o',eB _ e1 (uf b o q nb)⟩
 ·rw [WO (hne b o q)];exact I.base.free b o q n (nx b)
 ·have z:=I.base.tups b xs q
  rw [WO fun y=>by rw [y,he] at z;cases z];exact z
 ·have z:=I.base.bB b o u q
  rw [WO fun y=>by rw [y,he] at z;cases z];exact z
 ·obtain ⟨m,z⟩:=I.base.bW b ps q
  exact ⟨m,by rw [WO fun y=>by rw [y,he] at z;cases z];exact z⟩
end
def FQ (X:Cx) (E:XK):Prop:=∀ (pins:List (Addr×Obj)) (σ:St) (H:Hp) (s:Δ) (e:Addr) (cls:Α) (dc:Option Addr),Inv X pins σ H s->H e=some (XJ e cls dc)->(∀ o,X.s₀.heap.get? e=some o->e∈X.ex)->E cls dc (del H e)->X.xe (.ref e) s
section
variable {g:Gx} {N:List Str} {qual:Str} {st:Stmt} {f:Addr} {cdv:Α} {A:ζ} {outer:List Env} {s:Δ} {H:Hp} {E:XK}
theorem Sv:FQ (g.cH N qual st f cdv A outer s H E) E:=by
 intro pins σ H1 s1 e cls dc I he hn q;exact I.nM rfl rfl rfl I.ok.frames he (by
  cases hq:s.heap.get? e with
  | none=>exact hq
  | some o=>exact absurd (hn o hq) (by simp [Wh])) fun h'' B F hd=>⟨e,cls,del H1 e,B,dc,rfl,I.os,I.bare,F,hd,q⟩
end
def Xx (a:Addr) (fs:List (Str×V)):HO := .ext fun h=>∃ mA,h.Ns1 a mA/\(∀ f,X7 (fs.lookup f) (mA f))/\iL mA (fs.map (·.1))
structure xP (K:Λ) (C f:Addr):Prop where
 own:W.eY K C WM "ValueError.__new__" f=true
 fn:W.isFn K (.ref f)=true
section
variable {X:Cx} {pins:List (Addr×Obj)} {σ:St} {H:Hp} {s:Δ} {C f:Addr} {k:Nat} {fd:bt} {ps:List Str} {sp:Sp} {ds:List Α} {bx:List V} {E:XK} {CX:dO}
theorem Sw {Q:VK} {us:List Α} {vs:List V} (M:xP X.K C f) (F:bw X.prog X.w X.K X.mg X.base CX k f fd ps sp) (hr:aL (k+1) X.A) (hb:Xf X.K fd ps ds) (hd:Ym bx ds)
  (hx:XX CX X E) (I:Inv X pins σ H s) (r:Ym vs us) (hz:us.length<=sizeLine)
  (h:∀ x,H x=none->s.heap.get? x=none->sp (.ref x::(vs++bx)) (upd H x (XJ x (.ref C) none)) (fun v H2=>v = .non/\Q (.ref x) H2) E) :
  Κ (Ο X.prog X.w) X.A (call (.ref C) us) (EP X pins σ Q) X.xe s:=by
 obtain ⟨bm,ns,nm,qn,bs,hdd,sn,sub,ab,col,dd,k0,k1,k2,k3,k5,mN,hO,hN,hi,T⟩:=PySem.W.fH I.aX M.own;obtain ⟨oI,ho,hoc⟩:=ο.mp (beq_iff_eq.mp M.fn);obtain ⟨hh,gg,dr,tk,os⟩:=s;refine PySem.W.jT PySem.F.excBase_ValueError T hO hN hi (I.aX _ _ ho) hoc (fun h' x hm ex=>?_) hz;obtain ⟨t0,he,_,_⟩:=hm.there;have hq:=h x (I.hok.fresh (by rw [ex];exact ly _)) hm.new;have I2:Inv X pins σ (upd H x (XJ x (.ref C) none)) ⟨h',gg,dr,tk,os⟩:=I.laid (t':=tk) (a:=x) (o:=XJ x (.ref C) none) (fun b u q=>hm.keeps b u q) (by rw [ex];exact ly _) (U4 he);have r2:Ym (V.ref x::(vs++bx)) (Ω x::(us++ds)) := .cons rfl (r.append hd);have hl:(Ω x::us++ds).length=ps.length:=by
  have e:=r2.length;rw [F.len _ _ _ _ hq] at e
  exact e.symm
 refine gS (fm (F.run _ X.stack _ _ ⟨Ω x::us,[]⟩ (Ω x::(us++ds)) _ _ E (hr.make C us []) (I2.env0.make C us []) (hb _ (Ω x::us) I2.aX hl) r2 hq) fun r s' hq'=>?_)
 cases r with
 | error e=>exact hx pins σ _ _ e s' I2 hq'
 | ok fl =>
  cases fl with
  | ret u =>
   obtain ⟨v,H',I3,rv,ev,q3⟩:=I2.after hq';subst ev;exact ⟨rv,⟨V.ref x,H',I3,rfl,q3⟩⟩
  | next=>exact am hq'
  | brk=>exact am hq'
  | cont=>exact am hq'
end
structure lq (K:Λ) (C C':Addr):Prop where
 hd:kS K C=true
 ln:W.gU K C C'=true
 sa:c6 K (.ref C) "__setattr__"=some (some (.builtin "object.__setattr__"))
section
variable {P:Ψ} {w:θ} {H:Hp} {h:Heap} {a:Addr} {fs:List (Str×V)} {mA:Str->Option Α}
theorem FT (n:h.Ns1 a mA) (r:∀ f,X7 (fs.lookup f) (mA f)) (wi:iL mA (fs.map (·.1))):YK P w H h a (Xx a fs):=by
 obtain ⟨od,es,ep,e,c⟩:=id n;exact ⟨⟨mA,n,r,wi⟩,⟨od,e⟩,fun h1 h2 ⟨mB,⟨od,es,ep,e,c⟩,r,wi⟩ k=>⟨mB,⟨od,es,ep,k _ e,c⟩,r,wi⟩⟩
end
section
variable {X:Cx} {pins:List (Addr×Obj)} {σ:St} {H:Hp} {s:Δ} {C C' a d:Addr} {f:Str} {y:V} {u:Α} {Q:Unit->Δ->Prop} {A:ζ} {E:Α->Δ->Prop} {fs:List (Str×V)}
theorem Sx (I:Inv X pins σ H s) (c:lq X.K C C') (na:c6 X.K (.ref C) f=some none) (e:H a=some (XJ a (.ref C) none)) (ry:Yx y u)
  (h:∀ d s',H d=none->d≠a->Inv X pins σ (upd (upd H d (Xx d [(f,y)])) a (XJ a (.ref C) (some d))) s'->Q () s'):Κ (Ο X.prog X.w) A (setAttr (.ref a) f u) Q E s:=by
 obtain ⟨⟨t0,sl,q0⟩,_,_⟩:=I.hok a _ e;refine W.pA I.aX q0 rfl rfl rfl c.hd c.ln na c.sa fun h' n1 ha hk=>?_
 have hfr:H s.heap.objs.size=none:=I.hok.fresh (Φ _);have hne:s.heap.objs.size≠a:=fun z=>by rw [z,e] at hfr;cases hfr
 have Sy:∀ b o,s.heap.get? b=some o->b≠s.heap.objs.size:=fun b o q=>ν (Ν q)
 have xQ:∀ b,H b=none->b≠a:=fun b q z=>by rw [z,e] at q;cases q
 have oth:∀ b o,H b=some o->b≠a->(upd (upd H s.heap.objs.size (Xx s.heap.objs.size [(f,y)])) a (XJ a (.ref C) (some s.heap.objs.size))) b=some o:=fun b o q n=>by
  rw [Ye n,Ye (Yk q hfr)];exact q
 refine h _ _ hfr hne (I.un (t':=s.toks+2) ⟨fun b o q n _ _=>hk b o (xQ b n) q,fun b o q n _ _=>⟨o.slots,hk b o (xQ b n) q⟩,fun b o q n _=>?_,fun b o q _=>?_,fun b xs q=>?_,fun b o u q=>?_,fun b ps q=>?_⟩ fun b o q=>?_)
 ·rw [Ye (xQ b n),Ye (Sy b o q)];exact n
 ·by_cases z:b=a
  ·subst z;exact ⟨_,ha⟩
  ·exact ⟨o,hk b o z q⟩
 ·exact oth b _ q fun z=>by rw [z,e] at q;cases q
 ·exact oth b _ q fun z=>by rw [z,e] at q;cases q
 ·exact ⟨#[],by rw [Array.append_empty];exact oth b _ q fun z=>by rw [z,e] at q;cases q⟩
 ·by_cases z:b=a
  ·subst z
   rw [Yb] at q
   cases q
   exact U4 ha
  ·rw [Ye z] at q
   by_cases z2:b=s.heap.objs.size
   ·subst z2
    rw [Yb] at q
    cases q
    refine FT n1 (fun g=>?_) fun g hg=>?_
    ·by_cases eg:g=f
     ·subst eg
      rw [if_pos rfl]
      show X7 (di g [(g,y)]) _
      simp only [di,beq_self_eq_true];exact ry
     ·rw [if_neg eg]
      have:(g==f)=false:=by simp [eg]
      simp only [di,this];exact eJ
    ·by_cases eg:g=f
     ·subst eg;simp
     ·rw [if_neg eg] at hg;exact absurd rfl hg
   ·rw [Ye z2] at q
    refine (I.hok b o q).stay (fun c v hc r=>hk c v (fun zc=>?_) r) (fun c r=>?_) fun c xs r=>?_
    ·subst zc
     rcases hc with hc | hc
     ·exact z hc.symm
     ·rw [e] at hc;cases hc
    ·exact oth c _ r fun zc=>by rw [zc,e] at r;cases r
    ·exact oth c _ r fun zc=>by rw [zc,e] at r;cases r
theorem SJ (I:Inv X pins σ H s) (c:lq X.K C C') (na:c6 X.K (.ref C) f=some none) (e:H a=some (XJ a (.ref C) (some d))) (ed:H d=some (Xx d fs)) (hl:fs.length<1000) (hne:d≠a) (ry:Yx y u)
  (h:∀ s',Inv X pins σ (upd H d (Xx d (Xi f y fs))) s'->Q () s'):Κ (Ο X.prog X.w) A (setAttr (.ref a) f u) Q E s:=by
 obtain ⟨⟨t0,sl,q0⟩,_,_⟩:=I.hok a _ e;obtain ⟨⟨mA,n1,r,wi⟩,_,_⟩:=I.hok d _ ed;have hz:(fs.map (·.1)).length<=sizeLine:=by rw [Ζ,kP];omega
 refine W.nJ I.aX q0 rfl rfl rfl n1 hne c.hd c.ln na c.sa wi hz fun h' n2 sb=>?_
 obtain ⟨od,es,ep,eo,co⟩:=id n2;refine h _ (I.write (t':=s.toks+2) (x:=d) (e:=d) (by rw [ed];exact eJ) (.inl rfl) (fun b q hb z=>(sb.2 b hb).trans z) ⟨od,eo⟩ (FT n2 (fun g=>?_) fun g hg=>?_))
 ·rw [W2]
  by_cases q:g=f
  ·rw [if_pos q,if_pos q];exact ry
  ·rw [if_neg q,if_neg q];exact r g
 ·by_cases q:g=f
  ·rw [q];exact (Ws f y fs).1
  ·refine (Ws f y fs).2 g (wi g fun z=>hg ?_)
   show (if g=f then some u else mA g)=none
   rw [if_neg q];exact z
end
structure j6 (g:Gx) (x:Str) (B:Addr):Prop where
 bound:g.mg x=some (.ref B)
 ga:W.specialIn g.K (.ref B) "__getattribute__"=some (some (.builtin "type.__getattribute__"))
 rd:W.readsIn g.K B (.type "type")=true
 at_:W.findCls g.K (.ref B) (.type "type") "__init__"=some (.val (.builtin "ValueError.__init__"))
def FW (C:Addr) (t:TA):TE:=fun σ H Q=>t σ H fun vs H1=>∃ a m dc,vs=[.ref a,m]/\H1 a=some (XJ a (.ref C) dc)/\Q .non H1
def FZ (C:Addr) (ta tv:TE) (f:Str):TS:=fun D σ H=>tv σ H fun y H1=>ta σ H1 fun x H2=>∃ a,x = .ref a/\((H2 a=some (XJ a (.ref C) none)/\∀ d,H2 d=none->d≠a->D.nx σ (upd (upd H2 d (Xx d [(f,y)])) a (XJ a (.ref C) (some d)))) \/
 ∃ d fs,H2 a=some (XJ a (.ref C) (some d))/\H2 d=some (Xx d fs)/\fs.length<1000/\d≠a/\D.nx σ (upd H2 d (Xx d (Xi f y fs))))
def Ga (C:Addr) (ta:TE) (f:Str):TE:=fun σ H Q=>ta σ H fun x H1=>∃ a d fs v,x = .ref a/\H1 a=some (XI a (.ref C) (some d))/\H1 d=some (Xx d fs)/\fs.lookup f=some v/\Q v H1
def pB (C:Addr) (fs:List Str):Sp:=fun vs H Q _=>∃ e us,vs = .ref e::us/\us.length=fs.length/\H e=some (XJ e (.ref C) none)/\∀ d,H d=none->d≠e->Q .non (upd (upd H d (Xx d (fs.zip us))) e (XJ e (.ref C) (some d)))
def Gx.iK (g:Gx) (x:Str) (C:Addr) (qual:Str) (st:Stmt) (ps:List Str):Prop:=∃ f fd,eV g.K "__init__" qual st f fd/\Xf g.K fd ps []/\xP g.K C f/\g.mg x=some (.ref C)
def Gx.ug (g:Gx) (x:Str) (C:Addr) (ps fs:List Str):Prop:=∃ f fd,bw g.P g.w g.K g.mg g.base cG 1 f fd ps (pB C fs)/\Xf g.K fd ps []/\xP g.K C f/\g.mg x=some (.ref C)
theorem Gx.iK.maX {g:Gx} {x qual:Str} {C:Addr} {st:Stmt} {N ps fs:List Str} (R:g.iK x C qual st ps) (S:aB N ps (Yh st)) (len:∀ vs H Q E,pB C fs vs H Q E->vs.length=ps.length) (b:Ua g 0 N qual st (pB C fs)):g.ug x C ps fs:=by
 obtain ⟨f,fd,F,bd,hm,hg⟩:=R;exact ⟨f,fd,F.ok S len fun cdv A outer s H vs Q E hr h=>b f cdv A outer s H vs Q E hr h,bd,hm,hg⟩
theorem SM {K:Λ} {h:Heap} {mg:Str->Option Α} {f C:Addr} {x qual:Str} {st:Stmt} {oc kV dc pm cd ct:Α} {od an:Option Addr} {sl:Array (Option Α)} (X:K.In h) (G:h.Ns aI mg) (ps:List Str) (aC:lp K aI x=some (some (.ref C)))
  (a:PySem.W.findIn K (.ref C) "__init__"=some (some (.ref f))) (o:PySem.W.eY K C WM "ValueError.__new__" f=true) (i:PySem.W.isFn K (.ref f)=true) (l:K.lookup f=some ⟨oc,od,.func (dQ "__init__" qual (Y3 st) (YO st) (Yh st) .none kV dc pm an cd ct),sl⟩) (c:i6 K cd qual=true) (k:ee K (.ref f)=true)
  (b:∀ (kV doc pm:Α) (an:Option Addr) (cdv ct:Α) (us:List Α),us.length=ps.length->iq (dQ "__init__" qual (Y3 st) (YO st) (Yh st) .none kV doc pm an cdv ct) ⟨us,[]⟩=pure (ps.zip us)) :
  ∀ P w base,(Gx.mk P w K mg base).iK x C qual st ps:=fun P w base =>
 have F:=Va (st:=st) l c k
 ⟨f,_,F,F.binds b,⟨o,i⟩,jv X G aC⟩
theorem Gx.iK.own {g:Gx} {x qual:Str} {C:Addr} {st:Stmt} {ps:List Str} (R:g.iK x C qual st ps):∃ f,W.eY g.K C WM "ValueError.__new__" f=true:=by
 obtain ⟨f,_,_,_,M,_⟩:=R;exact ⟨f,M.own⟩
section
variable {g:Gx} {X:Cx} {k j:Nat} {x m f:Str} {ps:List Str} {sp:Sp} {e o value:Expr} {es:List Expr} {t:TA} {ta tv:TE} {p pos apos pos' np cpos:Pos} {C C' B:Addr} {E:XK} {fs:List Str}
theorem SN {pl:Sem Bool} (b:j6 g x B) (M:∃ fI,W.eY g.K C WM "ValueError.__new__" fI=true) (ha:PA X (e::es) t) (hX:X.gx=g:=by rfl) (hg:Gl X x:=by rfl) (hdb:(x==("__debug__":Str))=false:=by decide)
  (hst:Χ (e::es) X.env=(false,eval e X.env)::Χ es X.env:=by rfl) (hpl:(bz pos (Χ es X.env)).any (·.1)=false:=by rfl)
  (ht:eval (.Call (.Attribute (.Name x p) "__init__" apos) (e::es) [] pos) X.env=(do
   let ov <- eval (.Name x p) X.env
   standAt apos.atName
   let (f,first) <- holding [ov] (getMethod ov "__init__" pl)
   callWith pos f first (bz pos (Χ (e::es) X.env)) (backToKw pos (kQ [] X.env))):=by rfl):PE X (.Call (.Attribute (.Name x p) "__init__" apos) (e::es) [] pos) (FW C t):=by
 subst hX;obtain ⟨fI,M⟩:=M;intro pins s σ H Q I h;refine W.methodCall_KW (pl:=pl) (aD (We (g:=X.gx) (pos:=p) b.bound rfl hg hdb pins s σ H (fun v H1=>v = .ref B/\H1=H) I ⟨rfl,rfl⟩) fun u s1 ⟨v,H1,I1,rv,e1,e2⟩=>?_) ht;subst e1 e2;obtain rfl:u=Ω B:=rv;refine W.method_cls I1.aX b.ga (W.cls_value I1.aX b.rd b.at_ rfl ?_);have I2:=I1.tok (s1.toks+1);refine PyProof.Rows.callWith_builtin1 (aD (ha pos pins _ σ H1 _ I2 h) fun us s2 ⟨vs,H2,I3,r,a,mm,dc,ev,he,q⟩=>?_) hst hpl;subst ev;obtain ⟨u1,u2,rfl,r1,r2⟩:=vU r;obtain rfl:u1=Ω a:=r1;obtain ⟨bm,ns,nm,qn,bs,hdd,sn,sub,ab,col,dd,k0,k1,k2,k3,k5,mN,hO,hN,hi,T⟩:=W.fH I3.aX M;obtain ⟨⟨t0,sl,q0⟩,_,_⟩:=I3.hok a _ he;obtain ⟨hh,gg,dr,tk,os⟩:=s2;refine W.jU F.excBase_ValueError T hO q0 fun h' T' e1 hk=>⟨.non,H2,?_,rfl,q⟩
 have I4:=I3.write (t':=tk) (h':=h') (x:=a) (e:=a) (o:=XJ a (.ref C) dc) (by rw [he];exact eJ) (.inl rfl) (fun b u hb z=>hk b u hb z) ⟨_,e1⟩ (U4 e1);rw [Ni he] at I4
 exact I4
theorem SQ (c:lq g.K C C') (na:c6 g.K (.ref C) f=some none) (ha:PE X o ta) (hv:PE X value tv) (hX:X.gx=g:=by rfl) (hs:kT value (some (.Attribute o f pos')) pos.line X.env=pure false:=by rfl):PS X (.Assign [.Attribute o f pos'] value pos) (FZ C ta tv f):=by
 subst hX;intro pins s σ H D I h;refine plainObj_wpAny_Assign_Attribute (aD (hv pins s σ H _ I h) fun u s1 ⟨y,H1,I1,ry,q⟩=>aD (ha pins s1 σ H1 _ I1 q) fun ov s2 ⟨x,H2,I2,rx,a,ex,q2⟩=>?_) hs;subst ex;obtain rfl:ov=Ω a:=rx;rcases q2 with ⟨e0,q2⟩ | ⟨d,fs,e0,e1,l,ne,q2⟩
 ·exact Sx I2 c na e0 ry fun d s3 n1 n2 I3=>⟨σ,_,I3,q2 d n1 n2⟩
 ·exact SJ I2 c na e0 e1 l ne ry fun s3 I3=>⟨σ,_,I3,q2⟩
theorem Bk (T:cQ g.K C) (na:c6 g.K (.ref C) f=some none) (he:PE X e ta) (hX:X.gx=g) (hb:fA e f X.env (eval e X.env)=eval e X.env):PE X (.Attribute e f pos) (Ga C ta f):=by
 subst hX;intro pins s σ H Q I h;refine Dd hb (aD (he pins s σ H _ I h) fun u s1 ⟨x,H1,I1,rx,a,d,fs,v,ex,ea,ed,l,q⟩=>?_);subst ex;obtain rfl:u=Ω a:=rx;obtain ⟨⟨o,vs,h1,h2,h3,h4⟩,_⟩:=(show YK X.prog X.w H1 s1.heap a (XI a (.ref C) (some d)) from I1.hok a _ ea);obtain ⟨⟨mA,n1,r,wi⟩,_⟩:=(show YK X.prog X.w H1 s1.heap d (Xx d fs) from I1.hok d _ ed);obtain ⟨u,hu,ru⟩:=X7.some_of (v:=v) (o:=mA f) (by rw [<- l];exact r f);obtain ⟨hh,gg,dr,tk,os⟩:=s1;exact W.nH I1.aX T.hd h1 h2 (fun c z=>by rw [h3] at z;cases z) h4 n1.ns hu (W.handedOut_of (Qe ru)) T.hb na T.hga T.hgt ⟨v,H1,I1.tok _,ru,q⟩
theorem QG {K:Λ} (T:cQ K C) (h:X.K=K:=by rfl):XM X (.builtin "isinstance") (fun xs H Q=>∃ a c cv b dc,xs=[.ref a,c]/\Vl c=some cv/\H a=some (XI a (.ref C) dc)/\aw K (.ref C) cv=some b/\Q (.bl b) H):=by
 subst h;intro pins s σ H xs us Q I r h;obtain ⟨a,c,cv,b,dc,rfl,ec,ha,e,q⟩:=h;obtain ⟨u,w',rfl,ru,dR⟩:=vU r;have ew:w'=cv:=by
  cases c with
  | ty n=>cases (show w'=fN n from dR);simpa [Vl] using ec
  | ref a=>cases (show w'=Ω a from dR);simpa [Vl] using ec
  | _=>simp [Vl] at ec
 subst ew
 cases (show u=Ω a from ru)
 obtain ⟨⟨o,vs,h1,h2,_⟩,_⟩:=(show YK X.prog X.w H s.heap a (XI a (.ref C) dc) from I.hok a _ ha);exact eK (W.rG T.hd T.hm T.hb T.ha T.hga T.hgt) I.aX ⟨o,h1,h2⟩ e (fun z=>nomatch z) fun tk=>⟨.bl b,H,I.tok tk,rfl,q⟩
def Gb (C:Addr) (fs:List Str) (E:XK) (t:TA):TS:=fun _ σ H=>t σ H fun vs H1=>vs.length=fs.length/\vs.length<=1000/\∀ d,H1 d=none->E (.ref C) (some d) (upd H1 d (Xx d (fs.zip vs)))
theorem SX (F:g.ug x C ps fs) (hr:aL k X.A) (hR:FQ X E) (ha:PA X (e::es) t) (hj:2<=k) (hc:X.calm=true) (hX:X.gx=g) (hg:Gl X x) (hdb:(x==("__debug__":Str))=false)
  (he:Χ (e::es) X.env=(false,eval e X.env)::Χ es X.env) (hpl:(bz cpos (Χ es X.env)).any (·.1)=false) :
  PS X (.Raise (some (.Call (.Name x np) (e::es) [] cpos)) none pos) (Gb C fs E t):=by
 subst hX;obtain ⟨f,fd,F,bd,M,hm⟩:=F;intro pins s σ H D I h;obtain ⟨bm,ns,nm,qn,bs,hd,sn,sub,ab,col,dd,k0,k1,k2,k3,k5,mN,hO,hN,hi,T⟩:=PySem.W.fH I.mod.fY M.own;refine PySem.W.jB (C:=C) (nm:=nm) (q:=qn) (N:=ns) (bs:=bs) (bm:=bm) (hdct:=hd) (sn:=sn) (sub:=sub) (ab:=ab) (col:=col) (dd:=dd) (k0:=k0) (k1:=k1) (k2:=k2) (k3:=k3) (k5:=k5) (newId:="ValueError.__new__")
  (T.hasType PySem.F.excBase_ValueError.hasBase) (I.ok.hd hc) ?_ (XQ I hg hm ⟨rfl,?_⟩ hdb)
 ·rw [he]
  show (false||(bz cpos (Χ es X.env)).any (·.1))=false
  rw [hpl];rfl
 ·have a1:=ha cpos pins s σ H _ I h
  rw [he] at a1 ⊢
  refine Calls.evalArgs_plain (ω a1 (fun us s2 hz=>?_) fun _ _ y=>y);obtain ⟨vs,H2,I2,r,q0,q1,q2⟩:=hz;refine ⟨rfl,I2.bk _ _ hO,ω (Sw (Q:=fun v H3=>∃ e dc,v = .ref e/\(∀ o,X.s₀.heap.get? e=some o->e∈X.ex)/\H3 e=some (XJ e (.ref C) dc)/\E (.ref C) dc (del H3 e)) (bx:=[]) M F (hr.mono hj) bd .nil Uq I2 r (by rw [<- r.length,kP];omega) fun e n1 n2=>?_) (fun v s3 z=>?_) fun _ _ y=>y⟩
  ·have hs0:∀ o,X.s₀.heap.get? e=some o->e∈X.ex:=fun o hq=>Classical.byContradiction fun z=>by
    obtain ⟨o',z⟩:=I2.base.there e o hq z;rw [n2] at z
    cases z
   refine ⟨e,vs,by rw [db],q0,Yb,fun d m1 m2=>⟨rfl,e,some d,rfl,hs0,Yb,?_⟩⟩;rw [Ye m2] at m1
   have:=q2 d m1;refine Eq.mp (congrArg (E (.ref C) (some d)) (funext fun b=>?_)) this;by_cases hb:b=e
   ·subst hb
    rw [Sq,Ye (ah m2)];exact n1
   ·rw [WO hb,Ye hb]
    by_cases hbd:b=d
    ·subst hbd;rw [Yb,Yb]
    ·rw [Ye hbd,Ye hbd,Ye hb]
  ·obtain ⟨v',H3,I3,rv,e,dc,ev,hs0,Gd,q3⟩:=z
   subst ev;obtain rfl:v=Ω e:=rv;obtain ⟨⟨t0,sl,q5⟩,_,_⟩:=I3.hok e _ Gd;exact ⟨e,dc,t0,sl,rfl,I3.bk _ _ hO,q5,hR pins σ H3 s3 e _ dc I3 Gd hs0 q3⟩
end
theorem S5 {C:Addr} {fs ps:List Str} {vs:List V} {H:Hp} {Q:VK} {E:XK} (h:pB C fs vs H Q E) (hp:ps.length=fs.length+1:=by rfl):vs.length=ps.length:=by
 obtain ⟨e,us,rfl,l,_⟩:=h;rw [hp,υ,l]
theorem Bl {C:Addr} {f n0 n1 m:Str} {vs:List V} {H:Hp} {Q:VK} {E:XK} (h:pB C [f] vs H Q E) :
  WI (QP (FW C (Ul (Wy 0) (Ul (tC (.str m)) tD)))) (FZ C (Wy 0) (Wy 1) f) { nx:=fun _ H'=>Q .non H',rt:=Q } (Xq [n0,n1] vs) H:=by
 obtain ⟨e,us,rfl,l,he,q⟩:=h;obtain ⟨u,rfl⟩:∃ u,us=[u]:=by
  match us,l with
  | [u],_=>exact ⟨u,rfl⟩
 refine ⟨e,_,_,rfl,he,?_⟩;refine ⟨e,rfl,.inl ⟨he,fun d m1 m2=>q d m1 m2⟩⟩
end L2
namespace L2
open PySem PySem.Spec PyProof.Rows
theorem S6 {K:Λ} {h:Heap} {mg:Str->Option Α} {x:Str} {B:Addr} (X:K.In h) (G:h.Ns aI mg) (a:W.nsIn K aI x=some (some (.ref B))) (ga:W.specialIn K (.ref B) "__getattribute__"=some (some (.builtin "type.__getattribute__"))) (rd:W.readsIn K B (.type "type")=true) (at_:W.findCls K (.ref B) (.type "type") "__init__"=some (.val (.builtin "ValueError.__init__"))) :
  ∀ P w base,j6 (Gx.mk P w K mg base) x B:=fun _ _ _=>⟨W.mg_of X G a,ga,rd,at_⟩
structure dh (H Hz:Hp) (h:Heap) (cs:List Addr):Prop where
 one:∀ b∈cs,∃ o u,Hz b=some (.bR o u)/\h.get? b=some o/\H b=none
 oth:∀ b,b∉cs->Hz b=H b
section
variable {P:Ψ} {w:θ} {H Hz H':Hp} {h h' B:Heap} {cs fs:List Addr}
theorem dh.out (L:dh H Hz h cs) {b:Addr} {o:HO} (e:H b=some o):b∉cs:=fun z=>by
 obtain ⟨_,_,_,_,n⟩:=L.one b z;rw [n] at e
 cases e
theorem dh.get (L:dh H Hz h cs) {b:Addr} {o:HO} (e:H b=some o):Hz b=some o:=by rw [L.oth b (L.out e)];exact e
theorem WP (x:bA P w H' h') (z:∀ b∈cs,∃ o u,H' b=some (.bR o u)):bA P w (off H' cs) h':=fun b o e=>by
 obtain ⟨e1,e2⟩:=VE e;refine (x b o e1).stay (fun _ _ _ q=>q) (fun c q=>?_) fun c xs q=>?_
 ·rw [YU fun hc=>by obtain ⟨_,_,y⟩:=z c hc;rw [y] at q;cases q]
  exact q
 ·rw [YU fun hc=>by obtain ⟨_,_,y⟩:=z c hc;rw [y] at q;cases q]
  exact q
theorem dh.un (L:dh H Hz h cs) (u:Un fs [] Hz H' h h') (hok:bA P w H' h') (nf:∀ b∈cs,b∉fs):Un fs [] H (off H' cs) h h':=by
 have z:∀ {b:Addr} {o:HO},H b=some o->b∉cs:=fun e=>L.out e
 refine ⟨fun b o e n hf hx=>?_,fun b o e n hf hx=>?_,fun b o e n hx=>?_,u.there,fun b xs e=>?_,fun b o x e=>?_,fun b ps e=>?_⟩
 ·by_cases hb:b∈cs
  ·obtain ⟨o1,u1,y1,y2,_⟩:=L.one b hb
   rw [e] at y2
   cases y2
   exact (hok b _ (u.bB b _ _ y1)).1
  ·exact u.keep b o e ((L.oth b hb).trans n) hf hx
 ·exact u.slot b o e ((L.oth b fun hb=>nf b hb hf).trans n) hf hx
 ·by_cases hb:b∈cs
  ·exact Vf hb
  ·rw [YU hb]
   exact u.free b o e ((L.oth b hb).trans n) hx
 ·rw [YU (z e)]
  exact u.tups b xs (L.get e)
 ·rw [YU (z e)]
  exact u.bB b o x (L.get e)
 ·rw [YU (z e)]
  exact u.bW b ps (L.get e)
theorem dh.behind (L:dh H Hz h cs) (u:Un fs [] Hz H' h h'):∀ b∈cs,∃ o v,H' b=some (.bR o v):=fun b hb=>by
 obtain ⟨o1,u1,y1,_⟩:=L.one b hb;exact ⟨o1,u1,u.bB b _ _ y1⟩
theorem dh.fly {l:List Env} {e:Addr} {cls:Α} (L:dh H Hz h cs) (F:cF P w l Hz h e cls H' h' B) (nf:∀ b∈cs,b∉frs l):cF P w l H h e cls (off H' cs) h' B:=by
 have z:∀ {b:Addr} {o:HO},H b=some o->b∉cs:=fun e=>L.out e
 have bh:∀ b∈cs,∃ o v,H' b=some (.bR o v):=fun b hb=>by
  obtain ⟨o1,u1,y1,_⟩:=L.one b hb;exact ⟨o1,u1,F.bB b _ _ y1⟩
 refine ⟨F.fl,WP F.hok bh,fun b o q n hf=>?_,fun b o q n hf=>F.slot b o q ((L.oth b fun hb=>nf b hb hf).trans n) hf,F.al,fun b o q n=>?_,fun b xs q=>?_,fun b o x q=>?_,fun b ps q=>?_⟩
 ·by_cases hb:b∈cs
  ·obtain ⟨o1,u1,y1,y2,_⟩:=L.one b hb
   rw [q] at y2
   cases y2
   exact (F.hok b _ (F.bB b _ _ y1)).1
  ·exact F.keep b o q ((L.oth b hb).trans n) hf
 ·by_cases hb:b∈cs
  ·exact Vf hb
  ·rw [YU hb]
   exact F.free b o q ((L.oth b hb).trans n)
 ·rw [YU (z q)]
  exact F.tups b xs (L.get q)
 ·rw [YU (z q)]
  exact F.bB b o x (L.get q)
 ·rw [YU (z q)]
  exact F.bW b ps (L.get q)
end
def X1 (H Hz:Hp) (l:Yy):Prop:=(∀ p∈l,∃ o,Hz p.2.1=some (.bR o (WY p.2.1 p.2.2))/\H p.2.1=none)/\∀ b,b∉l.as->Hz b=H b
def Wg (H:Hp) (h:Heap):Yy->Hp
 | []=>H
 | p::l=>match h.get? p.2.1 with
  | some o=>upd (Wg H h l) p.2.1 (.bR o (WY p.2.1 p.2.2))
  | none=>Wg H h l
section
variable {X:Cx} {pins:List (Addr×Obj)} {σ:St} {H:Hp} {s:Δ}
theorem X3 {h:Heap} {b:Addr}:∀ {l:Yy},b∉l.as->Wg H h l b=H b
 | [],_=>rfl
 | p::l,hb=>by
  have h1:b≠p.2.1:=fun z=>hb (by rw [z];exact .head _)
  have h2:b∉Yy.as l:=fun z=>hb (.tail _ z)
  cases e:h.get? p.2.1 with
  | some o =>
   have hz:Wg H h (p::l)=upd (Wg H h l) p.2.1 (.bR o (WY p.2.1 p.2.2)):=by
    show (match h.get? p.2.1 with | some o=>_ | none=>_)=_
    rw [e]
   rw [hz,Ye h1];exact X3 h2
  | none =>
   have hz:Wg H h (p::l)=Wg H h l:=by
    show (match h.get? p.2.1 with | some o=>_ | none=>_)=_
    rw [e]
   rw [hz];exact X3 h2
theorem U5 (I:Inv X pins σ H s) {l:Yy} (hc:Xk X σ l) {p:Str×Addr×V} (hp:p∈l):H p.2.1=none/\∃ o u,s.heap.get? p.2.1=some o/\Yx p.2.2 u/\s.heap.IsCell p.2.1 (some u):=by
 obtain ⟨i,h1,h2,h3,h4⟩:=hc.2 p hp;obtain ⟨m,hn,hl⟩:=I.loc;obtain ⟨u,r,lk⟩:=hl i p.1 p.2.2 h1 h2 (.inr (.inl h3));rcases lk with ⟨k,_⟩ | ⟨_,c,hc,hcell⟩
 ·rw [h3] at k;cases k
 ·rw [h4] at hc
  cases hc
  obtain ⟨o,e1,e2⟩:=id hcell;exact ⟨I.aV p.1 p.2.1 h4,o,u,e1,r,hcell⟩
theorem U6 (I:Inv X pins σ H s):∀ {l:Yy},Xk X σ l->X1 H (Wg H s.heap l) l/\dh H (Wg H s.heap l) s.heap l.as/\bA X.prog X.w (Wg H s.heap l) s.heap
 | [],_=>⟨⟨(fun p hp=>nomatch hp),fun _ _=>rfl⟩,⟨(fun b hb=>nomatch hb),fun _ _=>rfl⟩,I.hok⟩
 | p::l,h=>by
  have nd':=a9.mp h.1;obtain ⟨⟨a1,a2⟩,⟨b1,b2⟩,ok⟩:=U6 I (l:=l) ⟨nd'.2,fun q hq=>h.2 q (.tail _ hq)⟩;obtain ⟨n,o,u,e,r,hcell⟩:=U5 I h (.head _);have hz:Wg H s.heap (p::l)=upd (Wg H s.heap l) p.2.1 (.bR o (WY p.2.1 p.2.2)):=by
   show (match s.heap.get? p.2.1 with | some o=>_ | none=>_)=_
   rw [e]
  have hne:∀ q∈l,q.2.1≠p.2.1:=fun q hq z=>nd'.1 (by
   have:q.2.1∈Yy.as l:=eC (f:=fun p:Str×Addr×V=>p.2.1) hq;rw [z] at this
   exact this)
  rw [hz];refine ⟨⟨fun q hq=>?_,fun b hb=>?_⟩,⟨fun b hb=>?_,fun b hb=>?_⟩,ok.track ((X3 nd'.1).trans n) ⟨e,Uc r hcell⟩⟩
  ·rcases Υ.mp hq with rfl | hq
   ·exact ⟨o,Yb,n⟩
   ·obtain ⟨o',y1,y2⟩:=a1 q hq
    exact ⟨o',by rw [Ye (hne q hq)];exact y1,y2⟩
  ·rw [Ye fun z=>hb (by rw [z];exact .head _)]
   exact a2 b fun z=>hb (.tail _ z)
  ·by_cases z:b=p.2.1
   ·subst z
    exact ⟨o,_,Yb,e,n⟩
   ·rw [Ye z]
    have:b∈Yy.as l:=by
     rcases Υ.mp (show b∈p.2.1::Yy.as l from hb) with y | y
     ·exact absurd y z
     ·exact y
    exact b1 b this
  ·rw [Ye fun z=>hb (by rw [z];exact .head _)]
   exact b2 b fun z=>hb (.tail _ z)
theorem Ud (I:Inv X pins σ H s) {l:Yy} (hc:Xk X σ l) (hfn:∀ x,X.fn x=true) {b:Addr} (hb:b∈l.as):X.s₀.heap.objs.size<=b/\b≠X.env.locals:=by
 obtain ⟨p,hp,rfl⟩:=Y4 hb;obtain ⟨i,h1,h2,h3,h4⟩:=hc.2 p hp;exact ⟨I.ok.cab _ _ (hfn _) h4,I.fO _ _ h4⟩
theorem Ge (I:Inv X pins σ H s) (hs:X.stack=X.env::X.outer) (hf:X.env.frame=some X.env.locals) {l:Yy} (hc:Xk X σ l) (hfn:∀ x,X.fn x=true):∀ b∈l.as,b∉frs X.stack:=fun b hb z=>by
 obtain ⟨n1,n2⟩:=Ud I hc hfn hb;rw [hs] at z
 unfold frs at z;rw [eI,hf] at z
 rcases Υ.mp z with z | z
 ·exact n2 z
 ·obtain ⟨_,o,e,_⟩:=I.ok.cu.mem z
  exact absurd (τ (Ν e) n1) (aS _)
end
section
variable {X:Cx} {CX:dO} {k:Nat} {f:Addr} {fd:bt} {ps:List Str} {sp:Sp} {E:XK} {pins:List (Addr×Obj)} {σ:St} {H:Hp} {s:Δ} {Q:VK} {us:List Α} {vs:List V} {l:Yy}
theorem S7 (F:bw X.prog X.w X.K X.mg X.base CX k f fd ps sp) (hr:aL k X.A) (hb:Xf X.K fd ps []) (hs:X.stack=X.env::X.outer) (hf:X.env.frame=some X.env.locals) (hfn:∀ x,X.fn x=true)
  (hx:∀ Hz e s',dh H Hz s.heap l.as->(∀ b∈l.as,b∉frs X.stack)->CX X.stack Hz s (fun c d H'=>E c d (off H' l.as)) e s'->X.xe e s')
  (I:Inv X pins σ H s) (hc:Xk X σ l) (r:Ym vs us) (h:∀ Hz,X1 H Hz l->sp vs Hz (fun v H'=>Q v (off H' l.as)) fun c d H'=>E c d (off H' l.as)):Κ (Ο X.prog X.w) X.A (call (.ref f) us) (EP X pins σ Q) X.xe s:=by
 obtain ⟨L1,L2,ok⟩:=U6 I hc;have nf:=Ge I hs hf hc hfn;have hsp:=h _ L1;have hl:us.length=ps.length:=by rw [<- r.length];exact F.len _ _ _ _ hsp
 have e0:dg X.prog X.w X.K X.mg X.base X.A X.stack s (Wg H s.heap l):=by
  have e:=I.env0;refine ⟨e.frames,e.mod,fun b o q=>⟨(e.bs b o q).1,?_⟩,e.dG,e.cu,fun b q=>?_,ok,e.bare⟩
  ·rw [X3 fun z=>?_]
   ·exact (e.bs b o q).2
   ·have n1:=(Ud I hc hfn z).1
    have:=I.ok.dG;exact absurd (τ (Ν q) (az this n1)) (aS _)
  ·rw [X3 fun z=>nf b z q]
   exact e.eE b q
 refine gS (fm (F.run X.A X.stack s _ ⟨us,[]⟩ us vs _ _ hr e0 (by have:=hb s us I.aX (by rw [db];exact hl);rwa [db] at this) r hsp) fun r s' hq=>?_)
 cases r with
 | error e=>exact hx _ e s' L2 nf hq
 | ok fl =>
  cases fl with
  | ret u =>
   obtain ⟨v,H',os,bare,un,hok,rv,q⟩:=hq;exact I.after ⟨v,off H' l.as,os,bare,L2.un un hok nf,WP hok (L2.behind un),rv,q⟩
  | next=>exact am hq
  | brk=>exact am hq
  | cont=>exact am hq
end
theorem S8 {g:Gx} {N:List Str} {qual:Str} {st:Stmt} {f:Addr} {cdv:Α} {A:ζ} {outer:List Env} {s0:Δ} {H0:Hp} {E:XK} {pins:List (Addr×Obj)} {σ:St} {H:Hp} {s:Δ} {cs:List Addr}
  (I:Inv (g.cH N qual st f cdv A outer s0 H0 E) pins σ H s):∀ Hz e s',dh H Hz s.heap cs->(∀ b∈cs,b∉frs (g.cH N qual st f cdv A outer s0 H0 E).stack)->fV g.P g.w (g.cH N qual st f cdv A outer s0 H0 E).stack Hz s (fun c d H'=>E c d (off H' cs)) e s'->(g.cH N qual st f cdv A outer s0 H0 E).xe e s':=by
 rintro Hz e s' L nf ⟨a,cls,H',B,dc,rfl,os,bare,F,hd,q⟩;exact Ux pins σ H s _ s' I ⟨a,cls,off H' cs,B,dc,rfl,os,bare,L.fly F nf,hd,q⟩
def Yy.Z (l:Yy) (H:Hp):Prop:=∀ p∈l,∃ o,H p.2.1=some (.bR o (WY p.2.1 p.2.2))
theorem X1.z {H Hz:Hp} {l:Yy} (h:X1 H Hz l):l.Z Hz:=fun p hp=>by
 obtain ⟨o,z,_⟩:=h.1 p hp;exact ⟨o,z⟩
theorem Yy.Z.keep {l:Yy} {H H':Hp} (h:l.Z H) (s:Yd H H'):l.Z H':=fun p hp=>by
 obtain ⟨o,z⟩:=h p hp;exact ⟨o,s _ _ z⟩
def uh (H:Hp) (f c:Addr) (fd:bt) (qual:Str) (l:Yy):Prop:=H f=some (cD f fd)/\H c=some (dw c qual)/\l.Z H
section
variable {P:Ψ} {w:θ} {K:Λ} {mg:Str->Option Α} {base:Heap} {N ps:List Str} {qual:Str} {scope:dL} {f c:Addr} {A:ζ} {outer:List Env} {s:Δ} {H:Hp} {l:Yy} {cd:Α}
theorem xR {Q:VK} {v:V} {u:Α} {σ':St} {H':Hp} {s':Δ} (e0:dg P w K mg base A outer s H) (hin:l.Z H) (J:Inv (VG P w K mg base N qual scope f cd l.cl A outer s (off H l.as)) [] σ' H' s') (hlk:∀ p∈l,l.cl.lookup p.1=some p.2.1) (rv:Yx v u) (q:(∀ c∈l.as,H' c=none)->Q v (on H' H l.as)) :
  CE outer P w H s Q u s':=by
 have un:=J.base;have zc:∀ {b:Addr},b∈l.as->∃ o u,H b=some (.bR o u):=fun hm=>by
  obtain ⟨p,hp,rfl⟩:=Y4 hm;obtain ⟨o,z⟩:=hin p hp;exact ⟨o,_,z⟩
 have nin:∀ {b:Addr},H b=none->b∉l.as:=fun hb hm=>by
  obtain ⟨o,u,z⟩:=zc hm;rw [z] at hb;cases hb
 have out:∀ {b:Addr} {o:HO},H b=some o->(∀ x u,o ≠ .bR x u)->b∉l.as:=fun hb no hm=>by
  obtain ⟨o,u,z⟩:=zc hm;rw [z] at hb
  exact no _ _ (Θ hb).symm
 have aV:∀ c∈l.as,H' c=none:=fun c hc=>by
  obtain ⟨p,hp,rfl⟩:=Y4 hc;exact J.aV p.1 p.2.1 (hlk p hp)
 refine ⟨v,on H' H l.as,J.os,J.bare,⟨fun b o e n hb hx=>un.keep b o e (XD n) hb hx,fun b o e n hb hx=>un.slot b o e (XD n) hb hx,fun b o e n hx=>?_,fun b o e hx=>un.there b o e hx,fun b xs e=>?_,fun b o u e=>?_,fun b ps e=>?_⟩,fun b o e=>?_,rv,q aV⟩
 ·rw [Xl (nin n)]
  exact un.free b o e (XD n) hx
 ·have h1:=out e fun _ _ z=>by cases z
  rw [Xl h1];exact un.tups b xs ((YU h1).trans e)
 ·by_cases hb:b∈l.as
  ·rw [QX hb];exact e
  ·rw [Xl hb]
   exact un.bB b o u ((YU hb).trans e)
 ·have h1:=out e fun _ _ z=>by cases z
  rw [Xl h1];exact un.bW b ps ((YU h1).trans e)
 ·by_cases hb:b∈l.as
  ·rw [QX hb] at e
   obtain ⟨p,hp,rfl⟩:=Y4 hb;obtain ⟨ob,z⟩:=hin p hp;rw [z] at e
   cases e
   obtain ⟨ho,y1,y2,y3⟩:=e0.hok _ _ z;have hk:=un.keep _ _ ho (Vf hb) (fun hf=>by have:=e0.eE _ hf;rw [z] at this;cases this) (by intro z;exact absurd (show p.2.1∈([]:List Addr) from z) (by simp));exact ⟨hk,y3 _ _ y1 fun o q=>by rw [ho] at q;cases q;exact hk,⟨ob,hk⟩,y3⟩
  ·rw [Xl hb] at e
   refine (J.hok b o e).stay (fun _ _ _ q=>q) (fun c q=>?_) fun c xs q=>?_
   ·rw [Xl fun hc=>?_]
    ·exact q
    ·rw [aV c hc] at q;cases q
   ·rw [Xl fun hc=>?_]
    ·exact q
    ·rw [aV c hc] at q;cases q
end
theorem S9 {P:Ψ} {w:θ} {K:Λ} {mg:Str->Option Α} {base:Heap} {k:Nat} {f c:Addr} {qual:Str} {params:ki} {body:Expr} {scope:dL} {pm ctv:Α} {N ps:List Str} {l:Yy} {sp:List V->Hp->VK->Prop}
  (S:cJ N ps (l.map (·.1)) scope) (hnd:l.as.Nodup) (len:∀ vs H Q,sp vs H Q->vs.length=ps.length)
  (hbody:∀ (A:ζ) (outer:List Env) (s:Δ) (H:Hp) (vs:List V) (Q:VK),aL k (A.deeper (W.envX qual scope s.heap.objs.size f (.ref c) l.cl))->sp vs H Q ->
   ∃ t,PE (VG P w K mg base N qual scope f (.ref c) l.cl A outer s H) body t/\t (WN N vs l.vs) H Q) :
  bw P w K mg base cG (k+1) f (W.kla_fn "<lambda>" qual params body scope l.cl pm (.ref c) ctv) ps
   (fun vs H Q _=>uh H f c (W.kla_fn "<lambda>" qual params body scope l.cl pm (.ref c) ctv) qual l/\sp vs (off H l.as) fun v H'=>(∀ c∈l.as,H' c=none)->Q v (on H' H l.as)):=by
 refine ⟨fun vs H Q E h=>len _ _ _ h.2,fun A outer s H args us vs Q E hr e0 hb r hsp=>?_⟩;obtain ⟨⟨hf,hc,hin⟩,hsp⟩:=hsp;have hl:=len _ _ _ hsp;have lim:s.heap.NoLimit:=e0.mod.nolimit.keeps fun b o e=>(e0.bs b o e).1
 have hfo:=(e0.hok _ _ hf).1;have hco:s.heap.CodeRec (.ref c) qual:=(e0.hok _ _ hc).1;refine W.kla_callFunE hr.depth hfo rfl S.co S.gen rfl hco (hb _ _ _ _ ?_);refine gV S.jg (fun y hy=>S.par y.1 (eh hy).1) (fun h₁ hns hsb=>?_) S.kind;have hk₁:∀ b o,s.heap.get? b=some o->h₁.get? b=some o:=fun b o e=>hsb.extBut b o (ν (Ν e)) (Ε _ e)
 refine ⟨lim.keeps hk₁,W.kla_codeExpr ?_⟩;obtain ⟨t,ht,hq⟩:=hbody A outer s (off H l.as) vs _ (hr.deeper _) hsp;have zc:∀ b∈l.as,∃ o u,H b=some (.bR o u):=fun b hm=>by
  obtain ⟨p,hp,rfl⟩:=Y4 hm;obtain ⟨o,z⟩:=hin p hp;exact ⟨o,_,z⟩
 have I:=Vp (cd := .ref c) (qual:=qual) (f:=f) (tk:=s.toks+(ps.zip us).length) S hnd hr.hd e0 hl r (fun p hp=>by
  obtain ⟨o,z⟩:=hin p hp;exact (e0.hok _ _ z).2.1) (WP e0.hok zc) hns hk₁
 have lk:=VF (l:=l) (by rw [<- S.suf];exact S.nd.sublist (i9 _ _));refine ω (ht [] _ _ _ _ I hq) (fun u s' hs=>?_) fun e s' hs=>hs.elim
 obtain ⟨v,H',J,rv,q⟩:=hs;exact xR e0 hin J lk rv q
def Gf (X:Cx) (sp:Sp) (E:XK) (t:TA):TE:=fun σ H Q=>t σ H fun vs H1=>∃ l,Xk X σ l/\((∀ c∈l.as,H1 c=none)->∀ Hz,X1 H1 Hz l->sp vs Hz (fun v H'=>Q v (off H' l.as)) fun c d H'=>E c d (off H' l.as))
theorem Tc {g:Gx} {N:List Str} {qual:Str} {st:Stmt} {f:Addr} {cdv:Α} {A:ζ} {outer:List Env} {s0:Δ} {H0:Hp} {E:XK} {j k:Nat} {x:Str} {ps:List Str} {sp:Sp} {e:Expr} {es:List Expr} {t:TA} {p pos:Pos} (F:g.bY j x ps sp) (hr:aL k (g.cH N qual st f cdv A outer s0 H0 E).A) (ha:PA (g.cH N qual st f cdv A outer s0 H0 E) (e::es) t) (hj:j<=k) (hg:Gl (g.cH N qual st f cdv A outer s0 H0 E) x) (hdb:(x==("__debug__":Str))=false)
  (he:Χ (e::es) (g.cH N qual st f cdv A outer s0 H0 E).env=(false,eval e (g.cH N qual st f cdv A outer s0 H0 E).env)::Χ es (g.cH N qual st f cdv A outer s0 H0 E).env) (hpl:(bz pos (Χ es (g.cH N qual st f cdv A outer s0 H0 E).env)).any (·.1)=false) :
  PE (g.cH N qual st f cdv A outer s0 H0 E) (.Call (.Name x p) (e::es) [] pos) (Gf (g.cH N qual st f cdv A outer s0 H0 E) sp E t):=by
 obtain ⟨f',fd,F,b,kp,hm⟩:=F;intro pins s σ H Q I h;refine cS (XQ I hg hm ?_ hdb);refine eM (h₀:=(g.cH N qual st f cdv A outer s0 H0 E).base) I.ok.mod.fY kp (aD (ha pos pins s σ H _ I h) fun us s1 ⟨vs,H1,I1,r,l,hc,q⟩=>⟨I1.aX,?_⟩) he hpl;exact S7 F (hr.mono hj) b rfl rfl (fun _=>rfl) (S8 I1) I1 hc r (q fun c hcc=>by
  obtain ⟨p,hp,rfl⟩:=Y4 hcc;exact (U5 I1 hc hp).1)
theorem Gx.dW.fnX {g:Gx} {k:Nat} {x qual:Str} {st:Stmt} {N ps:List Str} {c:Addr} {sp:Sp} (R:g.dW x qual st ps c) (S:aB N ps (Yh st)) (len:∀ vs H Q E,sp vs H Q E->vs.length=ps.length)
  (b:∀ (f:Addr) (A:ζ) (outer:List Env) (s:Δ) (H:Hp) (vs:List V) (Q:VK) (E:XK),aL k (g.cH N qual st f (.ref c) A outer s H E).A->sp vs H Q E ->
   ∃ t,cR (g.cH N qual st f (.ref c) A outer s H E) (YO st) t/\t { nx:=fun _ H'=>Q .non H',rt:=Q } (Xq N vs) H):g.bY (k+1) x ps sp:=by
 obtain ⟨f,fd,F,bd,hm,hc⟩:=R;refine ⟨f,fd,?_,bd,F.kp,hm⟩;obtain ⟨oc,od,kV,doc,pm,an,cdv,ct,osl,rfl,lk,hcd⟩:=F.ex;have hc':cdv = .ref c:=hc;subst hc';exact vY lk hcd S len fun A outer s H vs Q E hr h=>b f A outer s H vs Q E hr h
end L2
namespace L2
open PySem
def um:ε->String
 | .none=>"NoneType"
 | .bool _=>"bool"
 | .int _=>"int"
 | .str _=>"str"
 | .list _=>"list"
 | .tuple _=>"tuple"
 | .dict _=>"dict"
def Kt (H H':Hp):Prop:=∀ a o,(∀ ps,o ≠ .aH ps)->H a=some o->H' a=some o
theorem Kt.trans {H H1 H2:Hp} (a:Kt H H1) (b:Kt H1 H2):Kt H H2:=fun c o n e=>b c o n (a c o n e)
theorem Yo {H H':Hp} (s:Yd H H'):Kt H H':=fun c o _ e=>s _ _ e
theorem Kt.lst {H H':Hp} (h:Kt H H') {a:Addr} {xs:List V} (e:H a=some (.lst xs)):H' a=some (.lst xs):=h a _ (by intro ps z;cases z) e
theorem Kt.tup {H H':Hp} (h:Kt H H') {a:Addr} {xs:List V} (e:H a=some (.tup xs)):H' a=some (.tup xs):=h a _ (by intro ps z;cases z) e
end L2
namespace HT
open PySem PySem.Spec PyProof.Rows
variable {prog:Ψ} {w:θ} {A:ζ} {E:Α->Δ->Prop} {s:Δ}
end HT
namespace L2
open PySem
noncomputable def sm (a b:ε):Bool:=@decide (a=b) (Classical.propDecidable _)
abbrev Td:=Except Str ε
def take (mk:Str) (s:Td) (f:ε->Option α):Except Str α:=match s with
 | .error m => .error m
 | .ok d=>match f d with
  | some a => .ok a
  | none => .error mk
structure IB (n:Nat) (i:Int):Prop where
 h:i.natAbs<2^(200*2^n)
mutual
def hb:ε->Prop
 | .list xs=>xs.length<=64/\hbs xs
 | .tuple xs=>xs.length<=64/\hbs xs
 | .str x=>x.length<=64
 | .int i=>IB 0 i
 | .none=>True
 | .bool _=>True
 | .dict _=>False
def hbs:List ε->Prop
 | []=>True
 | d::ds=>hb d/\hbs ds
end
end L2
namespace L2
open PySem PySem.Spec PyProof.Rows
def cb:Nat->Nat
 | 0=>0
 | n+1=>1+4*cb n
def sb:Nat->Nat
 | 0=>60
 | n+1=>4*sb n+11
end L2
set_option maxHeartbeats 4000000
namespace PySem.W
open PySem PySem.Calls PyProof.Rows
section sort
variable {f:Nat->Nat->Bool} {n:Nat}
structure JM (f:Nat->Nat->Bool) (n:Nat):Prop where
 asy:∀ i j,i<n->j<n->f i j=true->f j i=false
 tr:∀ i j k,i<n->j<n->k<n->f j i=false->f k j=false->f k i=false
variable (O:JM f n) (h0:0<n)
include O h0
end sort
end PySem.W
set_option maxHeartbeats 4000000
set_option maxHeartbeats 4000000
namespace L2
open PySem PySem.Spec PyProof.Rows
section
variable {src:List (Option Nat)} {te:TE} {σ:St} {Q:VK}
theorem Te {K:Λ} {G1 G2:Hp->List V->Prop} {xs ys:List V} {H1:Hp} {D:Addr} (zs:List V) (g1:∀ H',Yd H1 H'->G1 H' xs) (g2:∀ H',Yd H1 H'->G2 H' ys) (hD:H1 D=none) (hl:zs.length=min xs.length ys.length) (hlen:xs.length<=100000)
  (step:∀ (i:Nat) x y z H',xs[i]?=some x->ys[i]?=some y->zs[i]?=some z->Yd H1 H'->∀ R:VK,(∀ aF,Yd H' aF->R z aF)->te (some x::some y::YG src σ) H' R)
  (fin:∀ H',Yd H1 H'->H' D=some (.lst zs)->Q (.ref D) H'):LC (none::none::src) (oR G1 G2) (Vk K 2 (XL (YF 0) (XL (YF 1) Vv))) Xy te σ H1 Q D:=by
 have h6:100000<sizeLine:=by decide
 refine Nh (J:=oR G1 G2) (n:=min xs.length ys.length) (P:=fun H'=>Yd H1 H') (fun i H' sm hi=>⟨xs,ys,xs[i]'(by omega),ys[i]'(by omega),g1 _ sm,g2 _ sm,Η _,Η (by omega)⟩) (fun H' sm=>⟨xs,ys,g1 _ sm,g2 _ sm,by omega⟩)
  (fun i ws σ' H'=>ws=zs.take i/\(∃ o o',σ'=o::o'::YG src σ)/\Yd H1 H'/\H' D=some (.lst ws)) ⟨by simp,⟨none,none,rfl⟩,.aj hD _,Yb⟩ (fun i ws σ' H' p=>⟨p.2.2.1,p.2.2.2⟩) (Ny K 0 1) ?_ ?_
 ·rintro i ws σ' H' hi ⟨rfl,⟨o,o',rfl⟩,sm,hd⟩ x H3 ⟨T,rfl,hT,heq⟩
  have hx:xs[i]?=some (xs[i]'(by omega)):=Η _;have hy:ys[i]?=some (ys[i]'(by omega)):=Η _;have hz:zs[i]?=some (zs[i]'(by omega)):=Η _;have e3:=heq xs ys _ _ (g1 _ sm) (g2 _ sm) hx hy;subst e3;have s3:Yd H' (upd H' T (.tup [xs[i]'(by omega),ys[i]'(by omega)])) := .aj hT _;refine ⟨T,_,rfl,aA.of Yb,rfl,_,_,rfl,_,_,rfl,rfl,?_⟩
  show te (some (xs[i]'(by omega))::some (ys[i]'(by omega))::YG src σ) _ _
  refine step i _ _ _ _ hx hy hz (sm.trans s3) _ fun aF s2=>⟨s2 _ _ (s3 _ _ hd),?_,(XA hz).symm,⟨_,_,rfl⟩,.bC hD ((sm.trans s3).trans s2) _,Yb⟩
  rw [ba];omega
 ·rintro ws σ' H' ⟨rfl,_,sm,hd⟩
  rw [<- hl,fq] at hd
  exact fin H' sm hd
theorem Qw {K:Λ} {H:Hp} {ta:TA} {xs ys:List V} (zs:List V) (ha:∀ R:List V->Hp->Prop,(∀ a b H1,Yd H H1->ao K H1 a xs->ao K H1 b ys->R [.ref a,.ref b] H1)->ta σ H R) (hl:zs.length=min xs.length ys.length) (hlen:xs.length<=100000)
  (step:∀ (i:Nat) x y z H',xs[i]?=some x->ys[i]?=some y->zs[i]?=some z->Yd H H'->∀ R:VK,(∀ aF,Yd H' aF->R z aF)->te (some x::some y::YG src σ) H' R)
  (fin:∀ D H',H D=none->Yd H H'->H' D=some (.lst zs)->Q (.ref D) H'):eX (none::none::src) (Ea K ta) (Vk K 2 (XL (YF 0) (XL (YF 1) Vv))) Xy te σ H Q :=
 ha _ fun a b H1 s1 h1 h2=>⟨a,b,xs,ys,rfl,h1,h2,fun D hD=>Te zs (fun H' sm=>sm.seq h1) (fun H' sm=>sm.seq h2) hD hl hlen (fun i x y z H' e1 e2 e3 sm=>step i x y z H' e1 e2 e3 (s1.trans sm)) fun H' sm=>fin D H' (s1.free hD) (s1.trans sm)⟩
end
end L2
set_option maxHeartbeats 4000000
set_option maxHeartbeats 4000000
set_option maxHeartbeats 4000000
set_option maxHeartbeats 4000000
set_option maxHeartbeats 4000000
namespace L2
open PySem PySem.Spec PyProof.Rows PySem.W
abbrev gr (q:Int×List ε):PyData := .tuple (.int q.1::q.2)
end L2
namespace L2
open PySem PySem.Spec PyProof.Rows
abbrev jh:=(St->Hp->Prop)->XK->St->Hp->Prop
def PB (X:Cx) (b:List Stmt) (t:jh):Prop:=∀ (pins:List (Addr×Obj)) (s:Δ) (σ:St) (H:Hp) (nx:St->Hp->Prop) (E:XK) (xh:Α->Δ->Prop) (Qn:Flow->Δ->Prop),Inv X pins σ H s ->
 (∀ H1 s1 e s',Inv X pins σ H1 s1->fV X.prog X.w X.stack H1 s1 E e s'->xh e s')->(∀ σ' H' s',Inv X pins σ' H' s'->nx σ' H'->Qn .next s')->t nx E σ H->Κ (Ο X.prog X.w) X.A (execs b X.env) Qn xh s
def xT (c:TT) (t u:jh):jh:=fun nx E σ H=>c σ H fun b H1=>if b=true then t nx E σ H1 else u nx E σ H1
def Gg (sp:Sp) (bx:List V) (t:TA):jh:=fun nx E σ H=>t σ H fun vs H1=>sp (vs++bx) H1 (fun _ H2=>nx σ H2) E
def Gh (K:Λ) (cv:Α) (t:jh) (j:Nat) (ts:TS):TS:=fun D σ H=>t D.nx (fun cls dc H2=>ix K cls cv=some true/\∀ a,H2 a=none->ts (D.gone j) (σ.set j (some (.ref a))) (upd H2 a (XI a cls dc))) σ H
section
variable {g:Gx} {X:Cx} {k jj i j:Nat} {x f c n:Str} {ps:List Str} {bx:List V} {sp:Sp} {e:Expr} {es:List Expr} {t:TA} {ts:TS} {b₀:Stmt} {suite body:List Stmt} {cv:Α} {fp px cp hpos apos cpos pos:Pos}
theorem Gi {ce:Expr} {a b:List Stmt} {tc:TT} {ta tb:jh} (hc:PT X.cB ce tc) (ha:PB X a ta) (hb:PB X b tb):PB X [.If ce a b pos] (xT tc ta tb):=by
 intro pins s σ H nx E xh Qn I hx hn h;refine d5 ?_;refine wpAny_If (ω (hc pins s σ H _ (I.wish _) h) (fun d s1 ⟨H1,I1,q1⟩=>?_) fun _ _ z=>z.elim);have I1:=I1.cA
 cases d with
 | true=>exact ha pins s1 σ H1 nx E xh _ I1 hx (fun σ' H' s' I' q'=>dP (hn σ' H' s' I' q')) q1
 | false=>exact hb pins s1 σ H1 nx E xh _ I1 hx (fun σ' H' s' I' q'=>dP (hn σ' H' s' I' q')) q1
theorem Tf {fa:Addr} {fd:bt} {ds:List Α} {Q:VK} {E:XK} {pins:List (Addr×Obj)} {σ:St} {H:Hp} {s:Δ} {xh:Α->Δ->Prop} (F:bw X.prog X.w X.K X.mg X.base (fV X.prog X.w) jj fa fd ps sp) (hv:Ym bx ds) (b:Xf X.K fd ps ds) (kp:ee X.K (.ref fa)=true) (hm:X.mg f=some (.ref fa)) (hr:aL k X.A) (ha:PA X.cB (e::es) t) (hjk:jj<=k) (hg:Gl X f) (hdf:(f==("__debug__":Str))=false)
  (he:Χ (e::es) X.env=(false,eval e X.env)::Χ es X.env) (hpl:(bz cpos (Χ es X.env)).any (·.1)=false) (I:Inv X pins σ H s) (hx:∀ H1 s1 e s',Inv X pins σ H1 s1->fV X.prog X.w X.stack H1 s1 E e s'->xh e s') (h:t σ H fun vs H1=>sp (vs++bx) H1 Q E) :
  Κ (Ο X.prog X.w) X.A (eval (.Call (.Name f fp) (e::es) [] cpos) X.env) (EP X pins σ Q) xh s:=by
 refine cS (XQ I hg hm ?_ hdf);refine eM (h₀:=X.base) I.ok.mod.fY kp (ω (ha cpos pins s σ H _ (I.wish _) h) (fun us s1 hz=>?_) fun _ _ z=>z.elim) he hpl;obtain ⟨vs,H1,I1,r,q⟩:=hz;have I1:=I1.cA;refine ⟨I1.aX,?_⟩;have r2:Ym (vs++bx) (us++ds):=r.append hv;have hl:(us++ds).length=ps.length:=by rw [<- r2.length];exact F.len _ _ _ _ q
 refine gS (fm (F.run X.A X.stack s1 H1 ⟨us,[]⟩ (us++ds) (vs++bx) _ _ (hr.mono hjk) I1.env0 (b s1 us I1.aX hl) r2 q) fun r s' hq=>?_)
 cases r with
 | error e=>exact hx H1 s1 e s' I1 hq
 | ok fl =>
  cases fl with
  | ret u=>exact I1.after hq
  | next=>exact am hq
  | brk=>exact am hq
  | cont=>exact am hq
theorem Tg (F:g.bY jj f ps sp) (hr:aL k X.A) (ha:PA X.cB (e::es) t) (hjk:jj<=k) (hX:X.gx=g) (hg:Gl X f) (hdf:(f==("__debug__":Str))=false)
  (he:Χ (e::es) X.env=(false,eval e X.env)::Χ es X.env) (hpl:(bz cpos (Χ es X.env)).any (·.1)=false) (hsw:kT (.Call (.Name f fp) (e::es) [] cpos) none apos.line X.env=pure false) :
  PB X [.Expr (.Call (.Name f fp) (e::es) [] cpos) apos] (Gg sp [] t):=by
 subst hX;obtain ⟨fa,fd,F,b,kp,hm⟩:=F;intro pins s σ H nx E xh Qn I hxx hn h;refine d5 ?_;refine wpAny_Expr_any (aD (Tf (Q:=fun v H2=>nx σ H2) F .nil b kp hm hr ha hjk hg hdf he hpl I hxx h) fun v s1 hz=>?_) I.quiet hsw;obtain ⟨y,H1,I1,r1,q1⟩:=hz;exact dP (hn _ H1 s1 I1 q1)
theorem Ti {tb:jh} (hb:PB X body tb) (hN:X.N.Nodup) (hj:X.N[j]?=some n) (hk:X.env.scope.names.lookup n=some .local) (hcm:g.mg c=some cv) (wR:∀ a,cR (X.caught a) (b₀::suite) ts)
  (hX:X.gx=g) (hs:X.stack=X.env::X.outer) (hf:X.env.frame=some X.env.locals) (hc:Gl X c) (hdb:(c==("__debug__":Str))=false) :
  PS X (.Try body [.ExceptHandler (some (.Name c cp)) (some n) (b₀::suite) hpos] [] [] pos) (Gh X.K cv tb j ts):=by
 subst hX;intro pins s σ H D I h;refine wpAny_Try_except ?_;exact hb pins s σ H D.nx _ _ _ I (fun H1 s1 e s' I1 hq=>I1.vh hs hf hN hj hk hq wR hc hcm hdb) (fun σ' H' s' I' q=>dP ⟨σ',H',I',q⟩) h
end
theorem Tj {P:Ψ} {w:θ} {K:Λ} {mg:Str->Option Α} {base:Heap} {k:Nat} {f c:Addr} {name qual:Str} {params:ki} {body:List Stmt} {scope:dL} {doc pm ctv:Α} {N ps:List Str} {l:Yy} {sp:List V->Hp->VK->Prop}
  (S:cJ N ps (l.map (·.1)) scope) (hnd:l.as.Nodup) (len:∀ vs H Q,sp vs H Q->vs.length=ps.length)
  (hbody:∀ (A:ζ) (outer:List Env) (s:Δ) (H:Hp) (vs:List V) (Q:VK),aL k (A.deeper (W.envX qual scope s.heap.objs.size f (.ref c) l.cl))->sp vs H Q ->
   ∃ t,cR (VG P w K mg base N qual scope f (.ref c) l.cl A outer s H) body t/\t { nx:=fun _ H'=>Q .non H',rt:=Q } (WN N vs l.vs) H) :
  bw P w K mg base cG (k+1) f (W.fnX name qual params body scope l.cl .none .none doc pm none (.ref c) ctv) ps
   (fun vs H Q _=>uh H f c (W.fnX name qual params body scope l.cl .none .none doc pm none (.ref c) ctv) qual l/\sp vs (off H l.as) fun v H'=>(∀ c∈l.as,H' c=none)->Q v (on H' H l.as)):=by
 refine ⟨fun vs H Q E h=>len _ _ _ h.2,fun A outer s H args us vs Q E hr e0 hb r hsp=>?_⟩;obtain ⟨⟨hf,hc,hin⟩,hsp⟩:=hsp;have hl:=len _ _ _ hsp;have lim:s.heap.NoLimit:=e0.mod.nolimit.keeps fun b o e=>(e0.bs b o e).1
 have hfo:=(e0.hok _ _ hf).1;have hco:s.heap.CodeRec (.ref c) qual:=(e0.hok _ _ hc).1;refine gN hr.depth hfo rfl S.co S.gen rfl hco (hb _ _ _ _ ?_);refine gV S.jg (fun y hy=>S.par y.1 (eh hy).1) (fun h₁ hns hsb=>?_) S.kind;have hk₁:∀ b o,s.heap.get? b=some o->h₁.get? b=some o:=fun b o e=>hsb.extBut b o (ν (Ν e)) (Ε _ e)
 refine ⟨lim.keeps hk₁,lm ?_⟩;obtain ⟨t,ht,hq⟩:=hbody A outer s (off H l.as) vs _ (hr.deeper _) hsp;have zc:∀ b∈l.as,∃ o u,H b=some (.bR o u):=fun b hm=>by
  obtain ⟨p,hp,rfl⟩:=Y4 hm;obtain ⟨o,z⟩:=hin p hp;exact ⟨o,_,z⟩
 have I:=Vp (cd := .ref c) (qual:=qual) (f:=f) (tk:=s.toks+(ps.zip us).length) S hnd hr.hd e0 hl r (fun p hp=>by
  obtain ⟨o,z⟩:=hin p hp;exact (e0.hok _ _ z).2.1) (WP e0.hok zc) hns hk₁
 have lk:=VF (l:=l) (by rw [<- S.suf];exact S.nd.sublist (i9 _ _));refine ω (ht [] _ _ _ _ I hq) (fun fl s' hs=>?_) fun e s' hs=>hs.elim
 cases fl with
 | ret u =>
  obtain ⟨v,σ',H',J,rv,q⟩:=hs;exact xR e0 hin J lk rv q
 | next =>
  obtain ⟨σ',H',J,q⟩:=hs;exact xR (v:=V.non) (u:=cq) e0 hin J lk rfl q
 | brk =>
  obtain ⟨_,_,_,q⟩:=hs;exact am q
 | cont =>
  obtain ⟨_,_,_,q⟩:=hs;exact am q
open PySem.Builtin PySem.Builtin.Str
section
variable {X:Cx} {K:Λ}
def JN (K:Λ) (Cs:List Addr):List V->Hp->VK->Prop:=fun xs H Q=>∃ C∈Cs,∃ a c cv b dc,xs=[.ref a,c]/\Vl c=some cv/\H a=some (XI a (.ref C) dc)/\aw K (.ref C) cv=some b/\Q (.bl b) H
theorem XW:∀ C∈([]:List Addr),cQ K C:=fun _ h=>by cases h
theorem YV {C:Addr} {Cs:List Addr} (h:cQ K C) (r:∀ C∈Cs,cQ K C):∀ D∈C::Cs,cQ K D:=fun D hD=>by
 rcases Υ.mp hD with rfl | hD
 ·exact h
 ·exact r D hD
theorem Xb {Cs:List Addr} (T:∀ C∈Cs,cQ K C) (h:X.K=K:=by rfl):XM X (.builtin "isinstance") (JN K Cs):=by
 intro pins s σ H xs us Q I r ⟨C,hC,q⟩;exact QG (T C hC) h pins s σ H xs us Q I r q
end
end L2
set_option maxHeartbeats 4000000
set_option maxHeartbeats 4000000
namespace L2
open PySem PySem.Spec PyProof.Rows PySem.W
section
variable {X:Cx}
theorem Gj (hu:X.A.units+66<fF) {K:Λ} (hK:X.K=K:=by rfl):bT X (bu .Eq) (fun x y H Q=>∃ (a b:Addr) (xs:List V),x = .ref a/\y = .ref b/\ao K H a xs/\ao K H b []/\Q (.bl xs.isEmpty) H):=by
 subst hK;intro pins s σ H x y v u Q I rx ry h;obtain ⟨a,b,xs,rfl,rfl,ha,hb,q⟩:=h;obtain rfl:v=Ω a:=rx;obtain rfl:u=Ω b:=ry;obtain ⟨its,r1,p1,_⟩:=I.list ha;obtain ⟨its2,r2,p2,_⟩:=I.list hb
 cases r2
 have e:xs.isEmpty=its.isEmpty:=by
  have:=r1.length
  cases xs<;>cases its<;>simp_all
 rw [e] at q
 cases its with
 | nil=>exact SeqAt.RcAt.lists (e:=fun _=>true) p1.isList p2.isList rfl (by omega) (fun j j1 _=>by simp at j1) _ _ _ _ ⟨.bl _,H,I,rfl,q⟩
 | cons z zs=>exact SeqAt.RcAt.lists_lengths p1.isList p2.isList (by simp) (by omega) _ _ _ _ ⟨.bl _,H,I,rfl,q⟩
end
section
variable {X:Cx} {st:Stmt} {YQ:List Stmt} {t:TS} {u:(St->V->Hp->Prop)->St->Hp->Prop}
def Gk (t:TS) (u:(St->V->Hp->Prop)->St->Hp->Prop):(St->V->Hp->Prop)->St->Hp->Prop:=fun R σ H=>t { nx:=u R,rt:=fun v H'=>∀ σ',R σ' v H' } σ H
theorem Vq (h1:PS X st t) (h2:PR X YQ u):PR X (st::YQ) (Gk t u):=by
 intro pins s σ H R I h;refine d5 (aD (h1 pins s σ H _ I h) fun f s1 q=>?_)
 cases f with
 | next =>
  obtain ⟨σ',H',I',q⟩:=q;exact h2 pins s1 σ' H' R I' q
 | ret v=>obtain ⟨x,σ',H',I',r',q⟩:=q;exact ⟨v,rfl,x,σ',H',I',r',q σ'⟩
 | brk=>obtain ⟨_,_,_,q⟩:=q;exact q.elim
 | cont=>obtain ⟨_,_,_,q⟩:=q;exact q.elim
end
end L2
namespace L2
open PySem PySem.Spec PyProof.Rows
section
variable {g:Gx} {X:Cx} {k jj i j:Nat} {x f c n:Str} {ps:List Str} {bx:List V} {sp:Sp} {e:Expr} {es:List Expr} {t:TA} {fp px cp apos cpos pos:Pos}
theorem Tn {fa:Addr} {fd:bt} {ds:List Α} {Q:VK} {E:XK} {pins:List (Addr×Obj)} {σ:St} {H:Hp} {s:Δ} {xh:Α->Δ->Prop} (F:bw X.prog X.w X.K X.mg X.base (fV X.prog X.w) jj fa fd ps sp) (hv:Ym bx ds) (b:Xf X.K fd ps ds) (kp:ee X.K (.ref fa)=true) (hm:X.mg f=some (.ref fa)) (hr:aL k X.A) (ha:PA X.cB (e::es) t) (hjk:jj<=k) (hg:Gl X f) (hdf:(f==("__debug__":Str))=false)
  (hs:X.stack=X.env::X.outer) (hf:X.env.frame=some X.env.locals) (hfn:∀ x,X.fn x=true)
  (he:Χ (e::es) X.env=(false,eval e X.env)::Χ es X.env) (hpl:(bz cpos (Χ es X.env)).any (·.1)=false) (I:Inv X pins σ H s) (hx:∀ H1 s1 e s',Inv X pins σ H1 s1->fV X.prog X.w X.stack H1 s1 E e s'->xh e s')
  (h:t σ H fun vs H1=>∃ l,Xk X σ l/\((∀ c∈l.as,H1 c=none)->∀ Hz,X1 H1 Hz l->sp (vs++bx) Hz (fun v H'=>Q v (off H' l.as)) fun c d H'=>E c d (off H' l.as))) :
  Κ (Ο X.prog X.w) X.A (eval (.Call (.Name f fp) (e::es) [] cpos) X.env) (EP X pins σ Q) xh s:=by
 refine cS (XQ I hg hm ?_ hdf);refine eM (h₀:=X.base) I.ok.mod.fY kp (ω (ha cpos pins s σ H _ (I.wish _) h) (fun us s1 hz=>?_) fun _ _ z=>z.elim) he hpl;obtain ⟨vs,H1,I1,r,l,hc,q⟩:=hz;have I1:=I1.cA;refine ⟨I1.aX,?_⟩;have q:=q fun c hcc=>by
  obtain ⟨p,hp,rfl⟩:=Y4 hcc;exact (U5 I1 hc hp).1
 obtain ⟨L1,L2,ok⟩:=U6 I1 hc;have nf:=Ge I1 hs hf hc hfn;have hsp:=q _ L1;have r2:Ym (vs++bx) (us++ds):=r.append hv;have hl:(us++ds).length=ps.length:=by rw [<- r2.length];exact F.len _ _ _ _ hsp
 have e0:dg X.prog X.w X.K X.mg X.base X.A X.stack s1 (Wg H1 s1.heap l):=by
  have e:=I1.env0;refine ⟨e.frames,e.mod,fun b o q=>⟨(e.bs b o q).1,?_⟩,e.dG,e.cu,fun b q=>?_,ok,e.bare⟩
  ·rw [X3 fun z=>?_]
   ·exact (e.bs b o q).2
   ·have n1:=(Ud I1 hc hfn z).1
    have:=I1.ok.dG;exact absurd (τ (Ν q) (az this n1)) (aS _)
  ·rw [X3 fun z=>nf b z q]
   exact e.eE b q
 refine gS (fm (F.run X.A X.stack s1 _ ⟨us,[]⟩ (us++ds) (vs++bx) _ _ (hr.mono hjk) e0 (b s1 us I1.aX hl) r2 hsp) fun r s' hq=>?_)
 cases r with
 | error e =>
  obtain ⟨a,cls,H',B,dc,rfl,os,bare,F,hd,q⟩:=hq;exact hx H1 s1 _ s' I1 ⟨a,cls,off H' l.as,B,dc,rfl,os,bare,L2.fly F nf,hd,q⟩
 | ok fl =>
  cases fl with
  | ret u =>
   obtain ⟨v,H',os,bare,un,hok,rv,q⟩:=hq;exact I1.after ⟨v,off H' l.as,os,bare,L2.un un hok nf,WP hok (L2.behind un),rv,q⟩
  | next=>exact am hq
  | brk=>exact am hq
  | cont=>exact am hq
end
inductive JQ (L:List (Addr×Sp)) (H:Hp) (a:Addr) (m:Str) (Q:Sp->Prop):Prop
 | mk (C:Addr) (sp:Sp) (hm:(C,sp)∈L) (dx:Addr) (fs:List (Str×V)) (h:H a=some (.ins C dx fs)) (l:fs.lookup m=none) (q:Q sp)
theorem Yq {s u:TS} {D:Ends} {σ:St} {H:Hp} (h:∀ R:St->Hp->Prop,(∀ σ' H',u D σ' H'->R σ' H')->s { D with nx:=R } σ H):WI s u D σ H:=h _ fun _ _ h=>h
def Gm (L:List (Addr×Sp)) (m:Str) (ta:TE) (t:TA):TE:=fun σ H Q=>ta σ H fun x H1=>kR x fun a=>JQ L H1 a m fun sp=>t σ H1 fun vs H2=>sp (.ref a::vs) H2 Q E0
def Bo (s:Stmt):Expr:=match s with
 | .Assign _ (.Call _ as _ _) _=>as.getLastD (.Constant .none 0 ⟨0,0,0,0⟩)
 | .Return (some (.Call _ as _ _)) _=>as.getLastD (.Constant .none 0 ⟨0,0,0,0⟩)
 | .If (.Compare (.Call _ as _ _) _ _ _) _ _ _=>as.getLastD (.Constant .none 0 ⟨0,0,0,0⟩)
 | _ => .Constant .none 0 ⟨0,0,0,0⟩
inductive ji (K:Λ) (H:Hp):V->V->Prop
 | den {x y:V} {d e:ε} (hd:Den K H x d) (he:Den K H y e) (dp:d.depth<=60) (q:d.eqv e=true):ji K H x y
 | one (a:Addr):ji K H (.ref a) (.ref a)
inductive mK (K:Λ) (H:Hp):V->V->Prop
 | den {x y:V} {d e:ε} (hd:Den K H x d) (he:Den K H y e) (dp:d.depth<=60) (q:d.eqv e=true):mK K H x y
 | cg (a:Addr) (h:H a=some (.dK [])):mK K H (.ref a) (.ref a)
 | lst {a b:Addr} {xs ys:List V} (ha:ao K H a xs) (hb:ao K H b ys) (hl:xs.length=ys.length) (h:∀ (i:Nat) x y,xs[i]?=some x->ys[i]?=some y->ji K H x y):mK K H (.ref a) (.ref b)
section
variable {X:Cx} {pins:List (Addr×Obj)} {σ:St} {H:Hp} {s:Δ}
theorem ji.at {A:ζ} {x y:V} {u v:Α} (I:Inv X pins σ H s) (h:ji X.K H x y) (rx:Yx x u) (ry:Yx y v) (hu:A.units+60<fF):lL A s u v true:=by
 cases h with
 | den hd he dp q =>
  obtain ⟨as,ra⟩:=hd.reads I rx;obtain ⟨bs,rb⟩:=he.reads I ry;rw [<- q];exact fo _ _ A s u v as bs ra rb hd.lay he.lay (by omega)
 | one a =>
  cases (show u = .ref a from rx)
  cases (show v = .ref a from ry)
  exact SeqAt.EqAt.same _
theorem Tq {A:ζ} {xs ys:List V} {us vs:List Α} (I:Inv X pins σ H s) (h:∀ (i:Nat) x y,xs[i]?=some x->ys[i]?=some y->ji X.K H x y) (rx:Ym xs us) (ry:Ym ys vs) (hu:A.units+60<fF) (j:Nat) (h1:j<us.toArray.size) (h2:j<vs.toArray.size):lL A s us.toArray[j] vs.toArray[j] true:=by
 have e1:us[j]?=some us.toArray[j]:=by simp at h1 ⊢
 have e2:vs[j]?=some vs.toArray[j]:=by simp at h2 ⊢
 have l1:=rx.length;have l2:=ry.length;have f1:xs[j]?=some (xs[j]'(by simp at h1;omega)):=Η _;have f2:ys[j]?=some (ys[j]'(by simp at h2;omega)):=Η _;obtain ⟨u,hu1,r1⟩:=rx.get f1;obtain ⟨v,hv1,r2⟩:=ry.get f2;rw [e1] at hu1
 rw [e2] at hv1
 cases Θ hu1
 cases Θ hv1
 exact ji.at I (h j _ _ f1 f2) r1 r2 hu
theorem Tr (n:Nat):(bj n).all (fun _=>true)=true:=by simp
end
section
variable {X:Cx}
theorem Gn (hu:X.A.units+64<fF):bT X (bu .NotEq) (fun x y H Q=>mK X.K H x y/\Q (.bl false) H):=by
 intro pins s σ H x y u v Q I rx ry h;obtain ⟨h,q⟩:=h
 cases h with
 | den hd he dp e =>
  obtain ⟨as,ra⟩:=hd.reads I rx;obtain ⟨bs,rb⟩:=he.reads I ry;refine SeqAt.compareNe_reads ra rb hd.lay he.lay (by omega) ⟨.bl _,H,I,rfl,?_⟩;rw [e];exact q
 | cg a h =>
  cases (show u = .ref a from rx)
  cases (show v = .ref a from ry)
  obtain ⟨_,hS,vs,r,m⟩:0<=sizeLine/\(a==i4)=false/\∃ vs,KV [] vs/\s.heap.DictOf (XG X.prog X.w) a vs:=I.hok a _ h
  cases r
  exact W.keq_ne hS hS m m (by omega) (r:=true) (fun _=>by constructor) ⟨.bl _,H,I,rfl,q⟩
 | lst ha hb hl h =>
  rename_i a b xs ys
  cases (show u = .ref a from rx)
  cases (show v = .ref b from ry)
  obtain ⟨us,rv,pl,_⟩:=I.list ha;obtain ⟨vs,rv',Tt,_⟩:=I.list hb;have l1:=rv.length;have l2:=rv'.length;refine SeqAt.RcNeAt.lists (e:=fun _=>true) pl.isList Tt.isList (by simp;omega) (by omega) (fun j h1 h2=>Tq I h rv rv' (by show X.A.units+1+60<fF;omega) j h1 h2) _ _ _ _ ⟨.bl _,H,I,?_,q⟩;rw [Tr];rfl
end
def VS (X:Cx) (sp:Sp) (t:TA):jh:=fun nx E σ H=>t σ H fun vs H1=>∃ l,Xk X σ l/\((∀ c∈l.as,H1 c=none)->∀ Hz,X1 H1 Hz l->sp (vs++[]) Hz (fun v H'=>nx σ (off H' l.as)) fun c d H'=>E c d (off H' l.as))
section
variable {g:Gx} {X:Cx} {k jj:Nat} {f:Str} {ps:List Str} {sp:Sp} {e:Expr} {es:List Expr} {t:TA} {fp apos cpos:Pos}
theorem Gp (F:g.bY jj f ps sp) (hr:aL k X.A) (ha:PA X.cB (e::es) t) (hjk:jj<=k) (hX:X.gx=g) (hg:Gl X f) (hdf:(f==("__debug__":Str))=false) (hs:X.stack=X.env::X.outer) (hf:X.env.frame=some X.env.locals) (hfn:∀ x,X.fn x=true)
  (he:Χ (e::es) X.env=(false,eval e X.env)::Χ es X.env) (hpl:(bz cpos (Χ es X.env)).any (·.1)=false) (hsw:kT (.Call (.Name f fp) (e::es) [] cpos) none apos.line X.env=pure false) :
  PB X [.Expr (.Call (.Name f fp) (e::es) [] cpos) apos] (VS X sp t):=by
 subst hX;obtain ⟨fa,fd,F,b,kp,hm⟩:=F;intro pins s σ H nx E xh Qn I hxx hn h;refine d5 ?_;refine wpAny_Expr_any (aD (Tn (Q:=fun v H2=>nx σ H2) F .nil b kp hm hr ha hjk hg hdf hs hf hfn he hpl I hxx h) fun v s1 hz=>?_) I.quiet hsw;obtain ⟨y,H1,I1,r1,q1⟩:=hz;exact dP (hn _ H1 s1 I1 q1)
end
end L2
set_option maxHeartbeats 8000000
namespace KW
open PySem L2
def top (i:Nat):Stmt:=PySem.Challenge.pw_countgen_k77_refused.main.body.getD i (.Pass ⟨0,0,0,0⟩)
abbrev Ue:Stmt:=top 2
theorem Tv:aB ["thing"] ["thing"] (Yh Ue):=⟨rfl,rfl,rfl,by decide +kernel,rfl,by decide +kernel,by decide +kernel⟩
abbrev ZU:Stmt:=top 17
theorem Tw:aB ["thing"] ["thing"] (Yh ZU):=⟨rfl,rfl,rfl,by decide +kernel,rfl,by decide +kernel,by decide +kernel⟩
abbrev xU:Stmt:=top 18
theorem xV:aB ["branches","mark","place","branch"] ["branches","mark"] (Yh xU):=⟨rfl,rfl,rfl,by decide +kernel,rfl,by decide +kernel,by decide +kernel⟩
abbrev xW:Stmt:=top 19
theorem Tz:aB ["branches","value"] ["branches","value"] (Yh xW):=⟨rfl,rfl,rfl,by decide +kernel,rfl,by decide +kernel,by decide +kernel⟩
abbrev xX:Stmt:=top 20
theorem Gq:aB ["shape","value","kind"] ["shape","value"] (Yh xX):=⟨rfl,rfl,rfl,by decide +kernel,rfl,by decide +kernel,by decide +kernel⟩
abbrev xY:Stmt:=top 21
theorem Gs:aB ["book","shape","value","kind"] ["book","shape","value"] (Yh xY):=⟨rfl,rfl,rfl,by decide +kernel,rfl,by decide +kernel,by decide +kernel⟩
abbrev xZ:Stmt:=top 22
theorem TF:aB ["keys"] ["keys"] (Yh xZ):=⟨rfl,rfl,rfl,by decide +kernel,rfl,by decide +kernel,by decide +kernel⟩
abbrev yc:Stmt:=top 23
theorem QH:aB ["keys"] ["keys"] (Yh yc):=⟨rfl,rfl,rfl,by decide +kernel,rfl,by decide +kernel,by decide +kernel⟩
abbrev yd:Stmt:=top 24
theorem QI:aB ["keys"] ["keys"] (Yh yd):=⟨rfl,rfl,rfl,by decide +kernel,rfl,by decide +kernel,by decide +kernel⟩
abbrev yg:Stmt:=top 26
theorem ZV:aB ["keys","groups","key"] ["keys"] (Yh yg):=⟨rfl,rfl,rfl,by decide +kernel,rfl,by decide +kernel,by decide +kernel⟩
abbrev yh:Stmt:=top 27
theorem yj:aB ["size","keys","told","group"] ["size","keys"] (Yh yh):=⟨rfl,rfl,rfl,by decide +kernel,rfl,by decide +kernel,by decide +kernel⟩
abbrev yp:Stmt:=top 28
theorem uo:aB ["shape","keys","kind","size","rises"] ["shape","keys"] (Yh yp):=⟨rfl,rfl,rfl,by decide +kernel,rfl,by decide +kernel,by decide +kernel⟩
abbrev yq:Stmt:=top 29
theorem Gu:aB ["shape","value","keys","kind"] ["shape","value","keys"] (Yh yq):=⟨rfl,rfl,rfl,by decide +kernel,rfl,by decide +kernel,by decide +kernel⟩
abbrev yr:Stmt:=top 30
theorem pC:aB ["book","shape","value","keys","part","thing","key"] ["book","shape","value"] (Yh yr):=⟨rfl,rfl,rfl,by decide +kernel,rfl,by decide +kernel,by decide +kernel⟩
abbrev yt:Stmt:=top 32
theorem Gw:aB ["book","shape","value","key"] ["book","shape","value"] (Yh yt):=⟨rfl,rfl,rfl,by decide +kernel,rfl,by decide +kernel,by decide +kernel⟩
abbrev yu:Stmt:=top 33
theorem TJ:aB ["book","shape","value"] ["book","shape","value"] (Yh yu):=⟨rfl,rfl,rfl,by decide +kernel,rfl,by decide +kernel,by decide +kernel⟩
abbrev ZW:Stmt:=top 34
theorem TQ:aB ["book","shape","value"] ["book","shape","value"] (Yh ZW):=⟨rfl,rfl,rfl,by decide +kernel,rfl,by decide +kernel,by decide +kernel⟩
abbrev yw:Stmt:=top 35
theorem TV:aB ["book","shape","value"] ["book","shape","value"] (Yh yw):=⟨rfl,rfl,rfl,by decide +kernel,rfl,by decide +kernel,by decide +kernel⟩
abbrev U7:Stmt:=top 62
theorem TX:aB ["judge","value"] ["judge","value"] (Yh U7):=⟨rfl,rfl,rfl,by decide +kernel,rfl,by decide +kernel,by decide +kernel⟩
abbrev yC:Stmt:=top 66
theorem ZR:aB ["low","value","steps","distance"] ["low","value"] (Yh yC):=⟨rfl,rfl,rfl,by decide +kernel,rfl,by decide +kernel,by decide +kernel⟩
abbrev yD:Stmt:=top 67
theorem TY:aB ["things"] ["things"] (Yh yD):=⟨rfl,rfl,rfl,by decide +kernel,rfl,by decide +kernel,by decide +kernel⟩
abbrev yE:Stmt:=top 68
theorem ZA:aB ["things","inner","changed","place","steps"] ["things","inner"] (Yh yE):=⟨rfl,rfl,rfl,by decide +kernel,rfl,by decide +kernel,by decide +kernel⟩
abbrev yF:Stmt:=top 71
theorem T3:aB ["book","shape","value"] ["book","shape","value"] (Yh yF):=⟨rfl,rfl,rfl,by decide +kernel,rfl,by decide +kernel,by decide +kernel⟩
abbrev yG:Stmt:=top 73
theorem Gy:aB ["judge","values","value"] ["judge","values"] (Yh yG):=⟨rfl,rfl,rfl,by decide +kernel,rfl,by decide +kernel,by decide +kernel⟩
abbrev yH:Stmt:=top 74
theorem uq:aB ["judge","value","values_next","breaches","reached"] ["judge","value","values_next"] (Yh yH):=⟨rfl,rfl,rfl,by decide +kernel,rfl,by decide +kernel,by decide +kernel⟩
abbrev pD:Stmt:=top 75
theorem T4:aB ["book","shape","judge","value"] ["book","shape","judge","value"] (Yh pD):=⟨rfl,rfl,rfl,by decide +kernel,rfl,by decide +kernel,by decide +kernel⟩
abbrev yI:Stmt:=top 76
theorem T5:aB ["book","shape","judge","value"] ["book","shape","judge","value"] (Yh yI):=⟨rfl,rfl,rfl,by decide +kernel,rfl,by decide +kernel,by decide +kernel⟩
abbrev yJ:Stmt:=top 78
theorem T6:aB ["_law_script","_law_k"] ["_law_script","_law_k"] (Yh yJ):=⟨rfl,rfl,rfl,by decide +kernel,rfl,by decide +kernel,by decide +kernel⟩
abbrev yK:Stmt:=top 79
theorem ZG:aB ["_law_low","_law_signs","_law_strange","_law_whole","_law_text","_law_rows_here","_law_row","_law_odd"] ["_law_low","_law_signs","_law_strange"] (Yh yK):=⟨rfl,rfl,rfl,by decide +kernel,rfl,by decide +kernel,by decide +kernel⟩
abbrev pF:Stmt:=top 80
theorem ZJ:aB ["_law_way","_law_book","_law_shape","_law_answer","_law_value","_law_holds","_law_error_here","e"] ["_law_way","_law_book","_law_shape","_law_answer","_law_value"] (Yh pF):=⟨rfl,rfl,rfl,by decide +kernel,rfl,by decide +kernel,by decide +kernel⟩
abbrev yL:Stmt:=top 81
theorem Gz:aB ["_law_error_here","_law_one"] ["_law_error_here"] (Yh yL):=⟨rfl,rfl,rfl,by decide +kernel,rfl,by decide +kernel,by decide +kernel⟩
abbrev yM:Stmt:=top 82
theorem ZX:aB ["_law_book","_law_shape","_law_answer","_law_value","_law_way","_law_error_here"] ["_law_book","_law_shape","_law_answer","_law_value"] (Yh yM):=⟨rfl,rfl,rfl,by decide +kernel,rfl,by decide +kernel,by decide +kernel⟩
abbrev Zt:Stmt:=top 83
theorem Zn:aB ["_law_book","_law_shape","_law_value","_law_error_here","_law_none","_law_every","_law_found","_law_way"] ["_law_book","_law_shape","_law_value"] (Yh Zt):=⟨rfl,rfl,rfl,by decide +kernel,rfl,by decide +kernel,by decide +kernel⟩
abbrev QZ:Stmt:=top 84
theorem Xw:aB ["_law_script","_law_low","_law_some","_law_first","_law_many","_law_signs","_law_strange","_law_book","_law_shape","_law_value","_law_odd","_law_thing","_law_things"] ["_law_script"] (Yh QZ):=⟨rfl,rfl,rfl,by decide +kernel,rfl,by decide +kernel,by decide +kernel⟩
abbrev ZY:Stmt:=WG (top 60) 0
theorem T7:aB ["self","book"] ["self","book"] (Yh ZY):=⟨rfl,rfl,rfl,by decide +kernel,rfl,by decide +kernel,by decide +kernel⟩
abbrev ZK:Stmt:=WG (top 70) 0
theorem T8:aB ["self","book"] ["self","book"] (Yh ZK):=⟨rfl,rfl,rfl,by decide +kernel,rfl,by decide +kernel,by decide +kernel⟩
abbrev ZC:Stmt:=WG (top 70) 1
theorem Zo:aB ["self","shape","value","inner","part","thing"] ["self","shape","value"] (Yh ZC):=⟨rfl,rfl,rfl,by decide +kernel,rfl,by decide +kernel,by decide +kernel⟩
abbrev ZL:Stmt:=WG (top 70) 2
theorem ZH:aB ["self","shape","value","inner","kind","steps"] ["self","shape","value","inner"] (Yh ZL):=⟨rfl,rfl,rfl,by decide +kernel,rfl,by decide +kernel,by decide +kernel⟩
abbrev Zy:Stmt:=WG (top 70) 3
theorem Zd:aB ["self","shape","value","below","steps","mark","part","least"] ["self","shape","value"] (Yh Zy):=⟨rfl,rfl,rfl,by decide +kernel,rfl,by decide +kernel,by decide +kernel⟩
abbrev ZM:Stmt:=WG (top 7) 0
theorem T9:aB ["self","value"] ["self","value"] (Yh ZM):=⟨rfl,rfl,rfl,by decide +kernel,rfl,by decide +kernel,by decide +kernel⟩
theorem Z1w {g:Gx} {C B:Addr} (R:g.iK "NoValue" C "NoValue.__init__" ZM ["self","value"]) (b:j6 g "CountError" B) (xf:lq g.K C B) (rK:c6 g.K (.ref C) "value"=some none):g.ug "NoValue" C ["self","value"] ["value"]:=by
 refine R.maX T9 (fun vs H Q E h=>S5 h) fun f_ cdv A outer s H vs Q E hr h=>?_
 refine ⟨_,Yf (Y2 (SN b R.own (Ya (pv 0) (Ya Yn Yc)))) (Yg (SQ xf rK (pv 0) (pv 1))),?_⟩;exact Bl h
abbrev ur:Expr:=Bo (QY pD 1)
theorem QJ:cJ ["breach","shape","book"] ["breach"] ["shape","book"] (Fy ur):=⟨rfl,rfl,rfl,by decide +kernel,rfl,rfl,by decide,by decide +kernel,by decide +kernel,by decide +kernel,by decide +kernel⟩
abbrev ZB:Str:="shrunk.<locals>.<lambda>"
theorem QK:((("shrunk":Str)++(".<locals>.":Str))++("<lambda>":Str))=ZB:=by decide +kernel
abbrev ZE (cl:List (Str×Addr)) (c:Addr) (pm ctv:Α):FuncData:=W.kla_fn "<lambda>" ZB (RX ur) (RZ ur) (Fy ur) cl pm (.ref c) ctv
abbrev Zl:Stmt:=QY pF 0
theorem Z0X:cJ ["_law_thing","_law_answer"] ["_law_thing"] ["_law_answer"] (Yh Zl):=⟨rfl,rfl,rfl,by decide +kernel,rfl,rfl,by decide,by decide +kernel,by decide +kernel,by decide +kernel,by decide +kernel⟩
abbrev Za:Str:="_law_error.<locals>._law_holds"
theorem WU:((("_law_error":Str)++(".<locals>.":Str))++("_law_holds":Str))=Za:=by decide +kernel
abbrev Zj (cl:List (Str×Addr)) (c:Addr) (doc pm ctv:Α):FuncData:=W.fnX "_law_holds" Za (Y3 Zl) (YO Zl) (Yh Zl) cl .none .none doc pm none (.ref c) ctv
abbrev Zg:Stmt:=QY Zt 2
theorem Z0L:cJ ["_law_thing"] ["_law_thing"] [] (Yh Zg):=⟨rfl,rfl,rfl,by decide +kernel,rfl,rfl,by decide,by decide +kernel,by decide +kernel,by decide +kernel,by decide +kernel⟩
abbrev Zc:Str:="_law_is_taken.<locals>._law_none"
theorem WE:((("_law_is_taken":Str)++(".<locals>.":Str))++("_law_none":Str))=Zc:=by decide +kernel
abbrev Ze (cl:List (Str×Addr)) (c:Addr) (doc pm ctv:Α):FuncData:=W.fnX "_law_none" Zc (Y3 Zg) (YO Zg) (Yh Zg) cl .none .none doc pm none (.ref c) ctv
abbrev Zf:Stmt:=QY Zt 3
theorem Z0F:cJ ["_law_thing"] ["_law_thing"] [] (Yh Zf):=⟨rfl,rfl,rfl,by decide +kernel,rfl,rfl,by decide,by decide +kernel,by decide +kernel,by decide +kernel,by decide +kernel⟩
abbrev Zb:Str:="_law_is_taken.<locals>._law_every"
theorem WA:((("_law_is_taken":Str)++(".<locals>.":Str))++("_law_every":Str))=Zb:=by decide +kernel
abbrev Zp (cl:List (Str×Addr)) (c:Addr) (doc pm ctv:Α):FuncData:=W.fnX "_law_every" Zb (Y3 Zf) (YO Zf) (Yh Zf) cl .none .none doc pm none (.ref c) ctv
variable {g:Gx}
local macro_rules | `(tactic| walk_at "rd")=>`(tactic| (dsimp (config:={ failIfUnchanged:=false }) only [L2.Xq,Ei,Ej,ae,dS,υ,da,List.cons_append,kD,List.replicate_succ,List.replicate_zero,Nat.reduceAdd,Nat.reduceSub,WI,Q6,Ui,iy,tC,Wy,iW,rI,rU,vN,qK,Cm,QP,Ug,Cj,Ck,sJ,YF,Ul,tD,mG,Um,wQ,Fd,wO,qR,tu,QS,QR,Ends.gone,tB,vA,vB,qJ,vC,vD,vG,vH,Q9,UM,vZ,v7,Q7,vJ,qX,oN,tG,qU,qT,Vk,rC,wN,wJ,Ep,Du,Dr,Ds,Fg,xg,UX,Gm,Fe,wH,wI,wg,tK,qZ,UQ,Dn,oJ,vR,rm,v9,qM,Cq,YG,List.getD_cons_zero,List.getD_cons_succ,eA,List.getElem?_cons_succ,List.set_cons_zero,List.set_cons_succ,BX,BZ,BK,BL,BP,BR,BW,qY,wB,CZ,Dc,Cy,CG];simp (config:={ failIfUnchanged:=false,maxSteps:=10000000 }) only [L2.Xq,Ei,Ej,ae,dS,υ,da,List.cons_append,kD,List.replicate_succ,List.replicate_zero,Nat.zero_add,Nat.reduceAdd,Nat.reduceSub,iN,WI,Q6,Ui,iy,tC,Wy,iW,rI,rU,vN,qK,Cm,QP,Ug,Cj,Ck,sJ,YF,Vv,XL,Ul,tD,mG,Um,wQ,Fd,wO,qR,tu,QS,QR,Ends.gone,Rb,tB,vA,vB,qJ,vC,vD,vG,vH,Q9,UM,vZ,v7,Q7,vJ,qX,oN,tG,qU,qT,Vk,rC,wN,wJ,Ep,Du,Dr,Ds,Fg,xg,UX,Gm,Fe,wH,wI,wg,tK,qZ,UQ,Dn,oJ,vR,Nz,NK,rm,v9,qM,Cq,YG,List.getD_cons_zero,List.getD_cons_succ,decide_true,not_true_eq_false,not_false_eq_true,exists_eq_left',exists_eq_left,exists_eq',exists_eq,exists_and_left,and_assoc,gi,V.int.injEq,V.bl.injEq,V.ref.injEq,V.str.injEq,eA,List.getElem?_cons_succ,List.set_cons_zero,List.set_cons_succ,List.cons.injEq,and_true,true_and,db,decide_eq_true_eq,Bool.not_eq_true',decide_eq_false_iff_not,Bool.not_not,Bool.not_true,Bool.not_false,Bool.true_eq_false,c5,if_true,if_false,ite_true,ite_false,BX,BZ,BK,BL,BP,BR,BW,qY,wB,CZ,Dc,Cy,CG,UJ,UK,W1,vQ]))
theorem cm {i j:Int} {m n:Nat} (h1:i.natAbs<2^m) (h2:j.natAbs<2^n) (h:m+n<=100000000:=by decide):QW i j:=⟨m,n,h1,h2,h⟩
theorem yN {i j:Int} (h:0<=j/\j<=1000000/\i.natAbs<2^64:=by decide):vP i j:=h
theorem few {n:Nat} (h:n<=100000):n<=sizeLine:=az h (by decide)
theorem U8 (x:Int) {j:Int} (h:0<j):∃ r:Nat,x%j=r/\(r:Int)<j:=⟨(x%j).toNat,by have:=Int.emod_nonneg x (Int.ne_of_gt h);omega,by have:=Int.emod_lt_of_pos x h;have:=Int.emod_nonneg x (Int.ne_of_gt h);omega⟩
inductive Sk
 | wh | tx | rw | my | ri | un | pk
 deriving DecidableEq
inductive Dv
 | n (o:Nat)
 | t (l:List Nat)
 | r (o:Nat) (l:List Nat)
 | l (os:List Nat)
 | p (o:Nat)
def Tp (H H':Hp):Prop:=∀ b xs,H b=some (.tup xs)->H' b=some (.tup xs)
theorem YT {H H':Hp} (k:Kt H H'):Tp H H':=fun _ _ e=>k.tup e
abbrev eZ (lo:Int):List V:=[.str "whole",.int lo,.int (lo+9)]
abbrev jN (sg:List Nat):List V:=[.str "text",.str (S sg)]
def dY:Sk->Option Str
 | .my=>some "many"
 | .ri=>some "rising"
 | .un=>some "unlike"
 | _=>none
structure iM (H:Hp) (lo:Int) (sg:List Nat) (b c0 c1 w t:Addr):Prop where
 b:H b=some (.tup [.ref c0,.ref c1])
 c0:H c0=some (.tup [.str "a",.ref w])
 c1:H c1=some (.tup [.str "c",.ref t])
 w:H w=some (.tup (eZ lo))
 t:H t=some (.tup (jN sg))
def Xc (H:Hp) (lo:Int) (sg:List Nat) (a:Addr) (s:Sk):Prop:=match s with
 | .wh=>H a=some (.tup (eZ lo))
 | .tx=>H a=some (.tup (jN sg))
 | .rw=>∃ b w t,H a=some (.tup [.str "row",.ref b])/\H b=some (.tup [.ref w,.ref t])/\H w=some (.tup (eZ lo))/\H t=some (.tup (jN sg))
 | .pk=>∃ b c0 c1 w t,H a=some (.tup [.str "pick",.ref b])/\iM H lo sg b c0 c1 w t
 | s=>∃ z w,dY s=some z/\H a=some (.tup [.str z,.ref w])/\H w=some (.tup (eZ lo))
theorem iM.tp {H H':Hp} (k:Tp H H') {lo:Int} {sg:List Nat} {b c0 c1 w t:Addr} (h:iM H lo sg b c0 c1 w t):iM H' lo sg b c0 c1 w t:=⟨k _ _ h.b,k _ _ h.c0,k _ _ h.c1,k _ _ h.w,k _ _ h.t⟩
theorem Xc.tp {H H':Hp} (k:Tp H H') {lo:Int} {sg:List Nat} {a:Addr} {s:Sk} (h:Xc H lo sg a s):Xc H' lo sg a s:=by
 cases s with
 | wh=>exact k _ _ h
 | tx=>exact k _ _ h
 | rw=>obtain ⟨b,w,t,h1,h2,h3,h4⟩:=h;exact ⟨b,w,t,k _ _ h1,k _ _ h2,k _ _ h3,k _ _ h4⟩
 | pk=>obtain ⟨b,c0,c1,w,t,h1,h2⟩:=h;exact ⟨b,c0,c1,w,t,k _ _ h1,h2.tp k⟩
 | my=>obtain ⟨z,w,h0,h1,h2⟩:=h;exact ⟨z,w,h0,k _ _ h1,k _ _ h2⟩
 | ri=>obtain ⟨z,w,h0,h1,h2⟩:=h;exact ⟨z,w,h0,k _ _ h1,k _ _ h2⟩
 | un=>obtain ⟨z,w,h0,h1,h2⟩:=h;exact ⟨z,w,h0,k _ _ h1,k _ _ h2⟩
theorem Xc.kt {H H':Hp} (k:Kt H H') {lo:Int} {sg:List Nat} {a:Addr} {s:Sk} (h:Xc H lo sg a s):Xc H' lo sg a s:=h.tp (YT k)
theorem Xc.ls {H:Hp} {lo:Int} {sg:List Nat} {a:Addr} {s:Sk} {z:Str} (hz:dY s=some z) (h:Xc H lo sg a s):∃ w,H a=some (.tup [.str z,.ref w])/\H w=some (.tup (eZ lo)):=by
 cases s<;>first | (cases hz;done) | (obtain ⟨z',w,h0,h1,h2⟩:=h;rw [hz] at h0;cases h0;exact ⟨w,h1,h2⟩)
inductive cN (H:Hp):V->String->Prop
 | non:cN H .non "NoneType"
 | bl (b:Bool):cN H (.bl b) "bool"
 | int (i:Int):cN H (.int i) "int"
 | str (z:Str):cN H (.str z) "str"
 | lst (a:Addr) (us:List V) (h:H a=some (.lst us)):cN H (.ref a) "list"
 | tup (a:Addr) (us:List V) (h:H a=some (.tup us)):cN H (.ref a) "tuple"
 | cg (a:Addr) (h:H a=some (.dK [])):cN H (.ref a) "dict"
theorem VH {H H':Hp} (k:Kt H H') {a:Addr} (h:H a=some (.dK [])):H' a=some (.dK []):=k _ _ (fun ps z=>by cases z) h
theorem cN.kt {H H':Hp} (k:Kt H H') {v:V} {n:String} (h:cN H v n):cN H' v n:=by
 cases h with
 | non=>exact .non
 | bl b=>exact .bl b
 | int i=>exact .int i
 | str z=>exact .str z
 | lst a us h=>exact .lst a us (k.lst h)
 | tup a us h=>exact .tup a us (k.tup h)
 | cg a h=>exact .cg a (VH k h)
theorem cN.ty {K:Λ} {H:Hp} {v:V} {n:String} (h:cN H v n):cT K H v (.type n):=by
 cases h with
 | non=>exact .non
 | bl b=>exact .bl b
 | int i=>exact .int i
 | str z=>exact .str z
 | lst a us h=>exact .lst h
 | tup a us h=>exact .tup h
 | cg a h=>exact .dK h
theorem cN.kit {K:Λ} {H:Hp} {v:V} {n m:String} (h:cN H v n) (hm:m="str"\/m="list"\/m="tuple") (hn:n≠m):aw K (.type n) (.type m)=some false:=by
 cases h<;>rcases hm with rfl | rfl | rfl<;>first | rfl | exact absurd rfl hn
inductive jk (H:Hp):V->Prop
 | not (v:V) (n:String) (h:cN H v n) (hn:n≠"tuple"):jk H v
 | len (a:Addr) (us:List V) (h:H a=some (.tup us)) (hl:us.length≠2):jk H (.ref a)
 | mk (a:Addr) (u w:V) (n:String) (h:H a=some (.tup [u,w])) (hu:cN H u n) (hn:n≠"str"):jk H (.ref a)
 | st (a:Addr) (z:Str) (w:V) (h:H a=some (.tup [.str z,w])) (n0:z≠"a") (n1:z≠"c"):jk H (.ref a)
def asc (p:Nat->Nat->Bool):List Nat->Bool
 | []=>true
 | [_]=>true
 | a::b::l=>p a b&&asc p (b::l)
def ord:Sk->List Nat->Bool
 | .ri,os=>asc (fun a b=>decide (a<=b)) os
 | .un,os=>asc (fun a b=>decide (a<b)) os
 | _,_=>true
def nums:List (Option Dv)->Option (List Nat)
 | []=>some []
 | some (.n o)::rs=>(nums rs).map (o::·)
 | _=>none
def iD (s:Sk) (rs:List (Option Dv)):Option Dv:=match nums rs with
 | some os=>if ord s os then some (.l os) else none
 | none=>none
def GC:Option Dv->Option Dv->Option Dv
 | some (.n o),some (.t l)=>some (.r o l)
 | _,_=>none
def GD:Option Dv->Option Dv
 | some (.n o)=>some (.p o)
 | _=>none
inductive Vx (H:Hp) (lo:Int) (sg:List Nat):Sk->V->Option Dv->Prop
 | wh (o:Nat) (h:o<=9):Vx H lo sg .wh (.int (lo+o)) (some (.n o))
 | gn (i:Int) (h:¬ (lo<=i/\i<=lo+9)):Vx H lo sg .wh (.int i) none
 | eG (v:V) (n:String) (h:cN H v n) (hn:n≠"int"):Vx H lo sg .wh v none
 | tx (l:List Nat) (h:∀ c∈l,c∈sg) (hl:l.length<=100):Vx H lo sg .tx (.str (S l)) (some (.t l))
 | mL (l:List Nat) (h:¬ ∀ c∈l,c∈sg) (hl:l.length<=100):Vx H lo sg .tx (.str (S l)) none
 | gq (v:V) (n:String) (h:cN H v n) (hn:n≠"str"):Vx H lo sg .tx v none
 | rw (a:Addr) (u w:V) (r1 r2:Option Dv) (h:H a=some (.tup [u,w])) (h1:Vx H lo sg .wh u r1) (h2:Vx H lo sg .tx w r2):Vx H lo sg .rw (.ref a) (GC r1 r2)
 | pG (v:V) (n:String) (h:cN H v n) (hn:n≠"tuple"):Vx H lo sg .rw v none
 | mO (a:Addr) (us:List V) (h:H a=some (.tup us)) (hl:us.length≠2):Vx H lo sg .rw (.ref a) none
 | ls (s:Sk) (z:Str) (hs:dY s=some z) (a:Addr) (us:List V) (rs:List (Option Dv)) (h:H a=some (.lst us)) (l:us.length=rs.length) (hl:us.length<=100) (h2:∀ (i:Nat) u r,us[i]?=some u->rs[i]?=some r->Vx H lo sg .wh u r):Vx H lo sg s (.ref a) (iD s rs)
 | lsN (s:Sk) (z:Str) (hs:dY s=some z) (v:V) (n:String) (h:cN H v n) (hn:n≠"list"):Vx H lo sg s v none
 | pk (a:Addr) (u:V) (r:Option Dv) (h:H a=some (.tup [.str "a",u])) (hu:Vx H lo sg .wh u r):Vx H lo sg .pk (.ref a) (GD r)
 | gF (v:V) (h:jk H v):Vx H lo sg .pk v none
theorem jk.kt {H H':Hp} (k:Kt H H') {v:V} (h:jk H v):jk H' v:=by
 cases h with
 | not v n h hn=>exact .not v n (h.kt k) hn
 | len a us h hl=>exact .len a us (k.tup h) hl
 | mk a u w n h hu hn=>exact .mk a u w n (k.tup h) (hu.kt k) hn
 | st a z w h n0 n1=>exact .st a z w (k.tup h) n0 n1
theorem Vx.kt {H H':Hp} (k:Kt H H') {lo:Int} {sg:List Nat} {s:Sk} {v:V} {r:Option Dv} (h:Vx H lo sg s v r):Vx H' lo sg s v r:=by
 induction h with
 | wh o h=>exact .wh o h
 | gn i h=>exact .gn i h
 | eG v n h hn=>exact .eG v n (h.kt k) hn
 | tx l h hl=>exact .tx l h hl
 | mL l h hl=>exact .mL l h hl
 | gq v n h hn=>exact .gq v n (h.kt k) hn
 | rw a u w r1 r2 h _ _ i1 i2=>exact .rw a u w r1 r2 (k.tup h) i1 i2
 | pG v n h hn=>exact .pG v n (h.kt k) hn
 | mO a us h hl=>exact .mO a us (k.tup h) hl
 | ls s z hs a us rs h l hl _ ih=>exact .ls s z hs a us rs (k.lst h) l hl ih
 | lsN s z hs v n h hn=>exact .lsN s z hs v n (h.kt k) hn
 | pk a u r h _ ih=>exact .pk a u r (k.tup h) ih
 | gF v h=>exact .gF v (h.kt k)
def fW:Sk->Nat
 | .wh=>1 | .tx=>1 | _=>2
theorem aK {x y:Str} {i:Nat} {t YQ:TS} {D:Ends} {σ:St} {H:Hp} (hσ:σ[i]?=some (some (.str x))) (h:¬ x=y) (hr:YQ D σ H):WI (Q6 (Ui (iy oJ (Wy i) (tC (.str y)))) t Ug) YQ D σ H:=by
 refine QO hσ ?_
 show if decide (x=y)=true then _ else _
 rw [if_neg (by simpa using h)];exact hr
theorem cL {x y:Str} {i:Nat} {t YQ:TS} {D:Ends} {σ:St} {H:Hp} (hσ:σ[i]?=some (some (.str x))) (h:x=y) (ht:t { D with nx:=YQ D } σ H):WI (Q6 (Ui (iy oJ (Wy i) (tC (.str y)))) t Ug) YQ D σ H:=by
 refine QO hσ ?_
 show if decide (x=y)=true then _ else _
 rw [if_pos (by simpa using h)];exact ht
inductive pH (vs:List V) (H:Hp) (Q:VK) (E_:XK):Prop
 | mk (v:V) (n:String) (h0:vs=[v]) (h1:cN H v n) (h2:Q (.bl (decide (n="int"))) H)
theorem Z1G  (R:g.Raw "is_whole_number" "is_whole_number" ZU ["thing"]) (gG:g.mg "bool"=none) (jl:g.mg "int"=none) (Z3:g.mg "isinstance"=none):g.Fn (1) "is_whole_number" ["thing"] (pH):=by
 refine R.fn Tw (fun vs H Q E h=>by obtain ⟨v,n,rfl,h,q⟩:=h;rfl) fun f_ cdv A outer s H vs Q E hr h=>?_
 obtain ⟨v,n,rfl,h,q⟩:=h;refine ⟨_,(@Yg _ _ _ (@Yl _ _ _ _ (@Wa _ _ _ _ _ _ _ (@YN _ _ _ _ _ _ _ _ _ _ Z3 Y1 (@Ya _ _ _ _ _ (pv 0) (@Ya _ _ _ _ _ (@XU _ _ _ _ ("int") jl (by decide +kernel) (by rfl) (by rfl) (by decide) (by decide)) Yc (by rfl)) (by rfl)) (by decide +kernel) (by rfl) (by rfl) (by decide) (by decide) (by rfl) (by rfl)) (@X9 _ _ _ _ _ (@Ci _ _ _ _ (@YN _ _ _ _ _ _ _ _ _ _ Z3 Y1 (@Ya _ _ _ _ _ (pv 0) (@Ya _ _ _ _ _ (@XU _ _ _ _ ("bool") gG (by decide +kernel) (by rfl) (by rfl) (by decide) (by decide)) Yc (by rfl)) (by rfl)) (by decide +kernel) (by rfl) (by rfl) (by decide) (by decide) (by rfl) (by rfl))))))),?_⟩;walk_at "rd";have ty:=h.ty (K:=g.K)
 cases h with
 | int i=>exact ⟨_,rfl,_,ty,true,rfl,rz ⟨_,rfl,_,ty,false,rfl,q⟩⟩
 | bl b=>exact ⟨_,rfl,_,ty,true,rfl,rz ⟨_,rfl,_,ty,true,rfl,q⟩⟩
 | non=>exact ⟨_,rfl,_,ty,false,rfl,q⟩
 | str z=>exact ⟨_,rfl,_,ty,false,rfl,q⟩
 | lst a us h=>exact ⟨_,rfl,_,ty,false,rfl,q⟩
 | tup a us h=>exact ⟨_,rfl,_,ty,false,rfl,q⟩
 | cg a h=>exact ⟨_,rfl,_,ty,false,rfl,q⟩
def lu:Nat->Str
 | 0=>"a"
 | _=>"c"
def uw (z:Str):V:=if z=lu 0 then .int 0 else if z=lu 1 then .int 1 else .non
inductive jm (vs:List V) (H:Hp) (Q:VK) (E_:XK):Prop
 | mk (lo:Int) (sg:List Nat) (z:Str) (b c0 c1 w t:Addr) (h0:vs=[.ref b,.str z]) (h1:iM H lo sg b c0 c1 w t) (h2:∀ H',Yd H H'->Q (uw z) H')
theorem Z2c  (R:g.Raw "branch_place" "branch_place" xU ["branches","mark"]) (Zs:g.mg "enumerate"=none):g.Fn (1) "branch_place" ["branches","mark"] (jm):=by
 refine R.fn xV (fun vs H Q E h=>by obtain ⟨lo,sg,z,b,c0,c1,w,t,rfl,hP,q⟩:=h;rfl) fun f_ cdv A outer s H vs Q E hr h=>?_
 obtain ⟨lo,sg,z,b,c0,c1,w,t,rfl,hP,q⟩:=h;refine ⟨_,(@Yf _ _ _ _ _ (@XE _ _ _ _ _ _ _ _ bp rfl (@Pk _ _ _ _ _ _ _ _ rfl Zs (@Ya _ _ _ _ _ (pv 0) Yc (by rfl)) (by rfl)) (@Wq _ _ _ _ _ (2) rfl (@YX _ _ _ _ _ (@YB _ _ (2) _ xV.nd rfl (.inl rfl) (by first | exact .inl rfl | exact .inr rfl | assumption)) (@YX _ _ _ _ _ (@YB _ _ (3) _ xV.nd rfl (.inl rfl) (by first | exact .inl rfl | exact .inr rfl | assumption)) X4 (by rfl)) (by rfl)) (by rfl) (by rfl)) (@Yg _ _ _ (@YE _ _ _ _ _ _ _ _ (@Ys _ _ _ _ _ _ _ _ YS (@YD _ _ _ _ _ _ _ YM (pv 3) Yi (fun _ _=>rfl)) (pv 1) (Yp _)) (@Yg _ _ _ (@Yl _ _ _ _ (pv 2))) Yr)) (by intro _;rfl)) (@Yg _ _ _ (@Yl _ _ _ _ Y5))),?_⟩;refine Yq fun R rr=>?_
 refine Pq (K:=g.K) (xs:=[.ref c0,.ref c1]) (fun i σ H'=>∃ o2 o3,σ=[some (.ref b),some (.str z),o2,o3]/\Yd H H'/\∀ j<i,z≠lu j) (fun R r=>by walk_at "rd";exact r) ⟨_,_,rfl,.refl H,(fun j h=>by omega)⟩ (fun i σ H' hi ⟨o2,o3,_,sm,_⟩=>aA.of (sm _ _ hP.b)) ?_ ?_
 ·rintro i v σ H' T hv ⟨o2,o3,rfl,sm,hno⟩ hT
  obtain ⟨c,p,rfl,hc,hi⟩:∃ c p,v = .ref c/\H c=some (.tup [.str (lu i),.ref p])/\i<2:=by
   match i,hv with
   | 0,hv=>exact ⟨c0,w,(Θ hv).symm,hP.c0,by decide⟩
   | 1,hv=>exact ⟨c1,t,(Θ hv).symm,hP.c1,by decide⟩
  have s2:=sm.trans (.aj hT (.tup [.int (i:Int),.ref c]));refine ⟨T,_,rfl,aA.of Yb,rfl,_,_,rfl,_,_,rfl,rfl,?_⟩;walk_at "rd";refine ⟨_,aA.of (s2 _ _ hc),_,Yj (j:=0) rfl,rfl,?_⟩;by_cases cc:lu i=z
  ·rw [if_pos (by rw [cc])]
   have:=q _ s2;rw [show uw z = .int (i:Int) from ?_] at this
   ·exact this
   ·subst cc
    match i,hi with
    | 0,_=>rfl
    | 1,_=>rfl
  ·rw [if_neg (fun e=>cc (V.str.inj e))]
   exact ⟨s2,fun j hj=>by
    by_cases e:j=i
    ·rw [e];exact ah cc
    ·exact hno j (by omega)⟩
 ·rintro σ H' ⟨o2,o3,rfl,sm,hno⟩
  refine rr _ _ ?_;walk_at "rd";have:=q H' sm;rw [uw,if_neg (hno 0 (by simp)),if_neg (hno 1 (by simp))] at this
  exact this
inductive yO (H:Hp):V->Bool->Prop
 | no (v:V) (h:jk H v):yO H v false
 | tw (a:Addr) (u:V) (h:H a=some (.tup [.str "a",u])):yO H (.ref a) true
inductive ux (vs:List V) (H:Hp) (Q:VK) (E_:XK):Prop
 | mk (lo:Int) (sg:List Nat) (b c0 c1 w t:Addr) (v:V) (r:Bool) (h0:vs=[.ref b,v]) (h1:iM H lo sg b c0 c1 w t) (h2:yO H v r) (h3:∀ H',Yd H H'->Q (.bl r) H')
theorem YaZ {k:Nat}  (R:g.Raw "has_mark" "has_mark" xW ["branches","value"]) (Zk:g.Fn k "branch_place" ["branches","mark"] (jm)) (Z3:g.mg "isinstance"=none) (aP:g.mg "len"=none) (eH:g.mg "str"=none) (Z8:g.mg "tuple"=none):g.Fn (k+1) "has_mark" ["branches","value"] (ux):=by
 refine R.fn Tz (fun vs H Q E h=>by obtain ⟨lo,sg,b,c0,c1,w,t,v,r,rfl,hP,hv,q⟩:=h;rfl) fun f_ cdv A outer s H vs Q E hr h=>?_
 obtain ⟨lo,sg,b,c0,c1,w,t,v,r,rfl,hP,hv,q⟩:=h;refine ⟨_,(@Yf _ _ _ _ _ (@YE _ _ _ _ _ _ _ _ (@XY _ _ _ _ _ _ _ (@Xt _ _ _ _ (@Y8 _ _ _ (@YN _ _ _ _ _ _ _ _ _ _ Z3 Y1 (@Ya _ _ _ _ _ (pv 1) (@Ya _ _ _ _ _ (@XU _ _ _ _ ("tuple") Z8 (by decide +kernel) (by rfl) (by rfl) (by decide) (by decide)) Yc (by rfl)) (by rfl)) (by decide +kernel) (by rfl) (by rfl) (by decide) (by decide) (by rfl) (by rfl)) (by intro _;rfl))) (@Wp _ _ _ _ (@Ys _ _ _ _ _ _ _ _ CQ (@YN _ _ _ _ _ _ _ _ _ _ aP Y6 (@Ya _ _ _ _ _ (pv 1) Yc (by rfl)) (by decide +kernel) (by rfl) (by rfl) (by decide) (by decide) (by rfl) (by rfl)) Yi (Yp _)))).pt (@Yg _ _ _ (@Yl _ _ _ _ Xe)) Yr) (@Yg _ _ _ (@Yl _ _ _ _ (@Wa _ _ _ _ _ _ _ (@YN _ _ _ _ _ _ _ _ _ _ Z3 Y1 (@Ya _ _ _ _ _ (@YD _ _ _ _ _ _ _ YM (pv 1) Yi (fun _ _=>rfl)) (@Ya _ _ _ _ _ (@XU _ _ _ _ ("str") eH (by decide +kernel) (by rfl) (by rfl) (by decide) (by decide)) Yc (by rfl)) (by rfl)) (by decide +kernel) (by rfl) (by rfl) (by decide) (by decide) (by rfl) (by rfl)) (@X9 _ _ _ _ _ (@Xn _ _ _ _ _ _ _ _ UL (@Yz _ _ _ _ _ _ _ _ _ _ _ _ Zk hr (@Ya _ _ _ _ _ (pv 0) (@Ya _ _ _ _ _ (@YD _ _ _ _ _ _ _ YM (pv 1) Yi (fun _ _=>rfl)) Yc (by rfl)) (by rfl)) (by omega) (by rfl) (by rfl) (by decide) (by rfl) (by rfl)) Y5 (Yp _))))))),?_⟩;refine Yq fun R rr=>?_
 walk_at "rd"
 cases hv with
 | no v h =>
  cases h with
  | not v n h hn=>exact ⟨_,rfl,_,h.ty,false,h.kit (by simp) hn,Xd rfl (q H (.refl _))⟩
  | len a us h hl=>exact ⟨_,rfl,_,.tup h,true,rfl,YH (by decide) ⟨a,rfl,_,.inr (aA.of h),Xd (by omega) (q H (.refl _))⟩⟩
  | mk a u w n h hu hn =>
   refine ⟨_,rfl,_,.tup h,true,rfl,YH (by decide) ⟨a,rfl,_,.inr (aA.of h),YH (by simp) (rr _ _ ?_)⟩⟩;walk_at "rd";exact ⟨_,aA.of h,_,Yj (j:=0) rfl,_,rfl,_,hu.ty,false,hu.kit (by simp) hn,YH (by decide) (q H (.refl _))⟩
  | st a z w h n0 n1 =>
   refine ⟨_,rfl,_,.tup h,true,rfl,YH (by decide) ⟨a,rfl,_,.inr (aA.of h),YH (by simp) (rr _ _ ?_)⟩⟩;walk_at "rd";refine ⟨_,aA.of h,_,Yj (j:=0) rfl,_,rfl,_,.str _,true,rfl,Xd rfl ⟨_,aA.of h,_,Yj (j:=0) rfl,lo,sg,z,b,c0,c1,_,_,rfl,hP,fun H' s=>?_⟩⟩;rw [uw,if_neg (show ¬ z=lu 0 from n0),if_neg (show ¬ z=lu 1 from n1)];exact q H' s
 | tw a u h =>
  refine ⟨_,rfl,_,.tup h,true,rfl,YH (by decide) ⟨a,rfl,_,.inr (aA.of h),YH (by simp) (rr _ _ ?_)⟩⟩;walk_at "rd";exact ⟨_,aA.of h,_,Yj (j:=0) rfl,_,rfl,_,.str _,true,rfl,Xd rfl ⟨_,aA.of h,_,Yj (j:=0) rfl,lo,sg,_,b,c0,c1,_,_,rfl,hP,fun H' s=>q H' s⟩⟩
inductive Wi (H:Hp) (lo:Int) (sg:List Nat):Sk->V->Option Dv->List (Sk×V×Option Dv)->Prop
 | wh (o:Nat) (h:o<=9):Wi H lo sg .wh (.int (lo+o)) (some (.n o)) []
 | tx (l:List Nat) (h:∀ c∈l,c∈sg) (hl:l.length<=100):Wi H lo sg .tx (.str (S l)) (some (.t l)) []
 | rw (a:Addr) (u w:V) (r1 r2:Option Dv) (h:H a=some (.tup [u,w])) (h1:Vx H lo sg .wh u r1) (h2:Vx H lo sg .tx w r2):Wi H lo sg .rw (.ref a) (GC r1 r2) [(.wh,u,r1),(.tx,w,r2)]
 | ls (s:Sk) (z:Str) (hs:dY s=some z) (a:Addr) (us:List V) (rs:List (Option Dv)) (h:H a=some (.lst us)) (l:us.length=rs.length) (hl:us.length<=100) (h2:∀ (i:Nat) u r,us[i]?=some u->rs[i]?=some r->Vx H lo sg .wh u r):Wi H lo sg s (.ref a) (iD s rs) ((us.zip rs).map fun w=>(.wh,w.1,w.2))
 | pk (a:Addr) (u:V) (r:Option Dv) (h:H a=some (.tup [.str "a",u])) (hu:Vx H lo sg .wh u r):Wi H lo sg .pk (.ref a) (GD r) [(.wh,u,r)]
theorem Wi.kt {H H':Hp} (k:Kt H H') {lo:Int} {sg:List Nat} {s:Sk} {v:V} {r:Option Dv} {L:List (Sk×V×Option Dv)} (h:Wi H lo sg s v r L):Wi H' lo sg s v r L:=by
 cases h with
 | wh o h=>exact .wh o h
 | tx l h hl=>exact .tx l h hl
 | rw a u w r1 r2 h h1 h2=>exact .rw a u w r1 r2 (k.tup h) (h1.kt k) (h2.kt k)
 | ls s z hs a us rs h l hl h2=>exact .ls s z hs a us rs (k.lst h) l hl fun i u r e1 e2=>(h2 i u r e1 e2).kt k
 | pk a u r h hu=>exact .pk a u r (k.tup h) (hu.kt k)
theorem VU {z:Str} {s:Sk} (h:dY s=some z):(z="many"\/z="rising"\/z="unlike"):=by
 cases s<;>first | (cases h;done) | (cases h;simp)
theorem UD {z:Str} {s:Sk} (h:dY s=some z):z≠"whole"/\z≠"text"/\z≠"row"/\z≠"pick"/\z≠"alike"/\z≠"use":=by
 rcases VU h with rfl | rfl | rfl<;>decide +kernel
inductive uy (K:Λ) (vs:List V) (H:Hp) (Q:VK) (E_:XK):Prop
 | mk (lo:Int) (sg:List Nat) (a:Addr) (s:Sk) (v:V) (r:Option Dv) (h0:vs=[.ref a,v]) (h1:Xc H lo sg a s) (h2:Vx H lo sg s v r) (h3:(∀ H',Yd H H'->r=none->Q (.bl false) H')) (h4:∀ L H',Yd H H'->Wi H lo sg s v r L->Q (.bl true) H')
theorem txt {g:Gx} {H:Hp} {a:Addr} {sg l:List Nat} {v2:V} {Q:VK} (hS:H a=some (.tup (jN sg))) (hl:l.length<=100) (q:∀ b H',Yd H H'->b=(l.all fun c=>decide (c∈sg))->Q (.bl b) H') :
  eX [none,some 0] (rB (Wy 1)) (YF 0) Xy (iy (fun x y H Q=>∃ i,x=V.str i/\∃ x,y=V.str x/\Q (V.bl !(Builtin.Str.occurrences x i 0 x.length 1).isEmpty) H) (Wy 0) (iy (oN g.K) (Wy 1) (tC (V.int 1)))) [some (V.ref a),some (V.str (S l)),some v2] H fun x H1=>∃ p,x=V.ref p/\∃ x,ao g.K H1 p (List.map V.bl x)/\Q (V.bl (x.all id)) H1:=by
 refine Es (l:=l) ((l.map fun c=>decide (c∈sg)).map V.bl) (fun R r=>by walk_at "rd";exact r) (by simp) (by omega) ?_ ?_
 ·intro i c y H' hc hy sm R r
  rw [Ξ,Ξ,hc] at hy
  cases Θ hy
  walk_at "rd";refine ⟨_,aA.of (sm _ _ hS),_,Yj (j:=1) rfl,_,rfl,?_⟩;rw [N8];exact r H' (.refl H')
 ·intro D H' hD sm hd
  exact ⟨D,rfl,_,ao.of hd,q _ H' sm (by rw [List.all_map];rfl)⟩
theorem Ya0 {k:Nat}  (R:g.Raw "has_form" "has_form" xX ["shape","value"]) (Z1R:g.Fn k "is_whole_number" ["thing"] (pH)) (nO:g.Fn k "has_mark" ["branches","value"] (ux)) (cW:g.mg "all"=none) (Z3:g.mg "isinstance"=none) (aP:g.mg "len"=none) (aW:g.mg "list"=none) (eH:g.mg "str"=none) (Z8:g.mg "tuple"=none) (jO:g.kZ "OF_ONE_PART" ([.str "many",.str "rising",.str "unlike"])):g.Fn (k+1) "has_form" ["shape","value"] (uy g.K):=by
 refine R.fn Gq (fun vs H Q E h=>by obtain ⟨lo,sg,a,s,v,r,rfl,hS,hv,q0,q1⟩:=h;rfl) fun f_ cdv A outer s H vs Q E hr h=>?_
 obtain ⟨lo,sg,a,s,v,r,rfl,hS,hv,q0,q1⟩:=h;refine ⟨_,(@Yf _ _ _ _ _ (@YA _ _ (2) _ _ _ _ Gq.nd rfl (.inl rfl) (@YD _ _ _ _ _ _ _ YM (pv 0) Yi (fun _ _=>rfl)) (by rfl) (by first | exact .inl rfl | exact .inr rfl | assumption)) (@Yf _ _ _ _ _ (@YE _ _ _ _ _ _ _ _ (@Ys _ _ _ _ _ _ _ _ YS (pv 2) Yn (Yp _)) (@Yg _ _ _ (@Yl _ _ _ _ (@Wa _ _ _ _ _ _ _ (@Yz _ _ _ _ _ _ _ _ _ _ _ _ Z1R hr (@Ya _ _ _ _ _ (pv 1) Yc (by rfl)) (by omega) (by rfl) (by rfl) (by decide) (by rfl) (by rfl)) (@X9 _ _ _ _ _ (@KQ _ _ _ _ _ _ _ _ _ _ _ _ CT CT (@YD _ _ _ _ _ _ _ YM (pv 0) Yi (fun _ _=>rfl)) (pv 1) (@YD _ _ _ _ _ _ _ YM (pv 0) Yi (fun _ _=>rfl)) (by with_unfolding_all rfl)))))) Yr) (@Yf _ _ _ _ _ (@YE _ _ _ _ _ _ _ _ (@Ys _ _ _ _ _ _ _ _ YS (pv 2) Yn (Yp _)) (@Yg _ _ _ (@Yl _ _ _ _ (@Wa _ _ _ _ _ _ _ (@YN _ _ _ _ _ _ _ _ _ _ Z3 Y1 (@Ya _ _ _ _ _ (pv 1) (@Ya _ _ _ _ _ (@XU _ _ _ _ ("str") eH (by decide +kernel) (by rfl) (by rfl) (by decide) (by decide)) Yc (by rfl)) (by rfl)) (by decide +kernel) (by rfl) (by rfl) (by decide) (by decide) (by rfl) (by rfl)) (@X9 _ _ _ _ _ (@YN _ _ _ _ _ _ _ _ _ _ cW (Wj rfl) (@Ya _ _ _ _ _ (@XC _ _ _ _ _ _ _ ([none,some 0]) ((["sign","shape"]:List Str)) _ (YF 0) _ _ (.own (.cap (i:=0) rfl rfl (by first | exact .inl rfl | exact .inr rfl) .nil)) rfl (@DN _ _ _ _ (pv 1)) (fun cl C s₀ H₀ fp pn=>(@YB _ _ (0) _ (show cr (["sign","shape"]:List Str) by decide +kernel) rfl (.inl rfl) (.inr rfl))) (fun cl C s₀ H₀ fp pn=>Xj) (fun cl C s₀ H₀ fp pn=>(@Xn _ _ _ _ _ _ _ _ KJ (pv 0) (@YD _ _ _ _ _ _ _ (Vc (K:=g.K)) (pv 1) Yi (fun _ _=>rfl)) rfl)) (by intro x hx;simp at hx;first | (subst hx;exact .inl rfl) | (rcases hx with rfl | rfl<;>exact .inl rfl) | (rcases hx with rfl | rfl | rfl<;>exact .inl rfl) | (rcases hx with rfl | rfl | rfl | rfl<;>exact .inl rfl) | (rcases hx with rfl | rfl | rfl | rfl | rfl<;>exact .inl rfl)) (by rfl) (by decide) (by decide +kernel) (by intro _;rfl)) Yc (by rfl)) (by decide +kernel) (by rfl) (by rfl) (by decide) (by decide) (by rfl) (by rfl)))))) Yr) (@Yf _ _ _ _ _ (@YE _ _ _ _ _ _ _ _ (@Ys _ _ _ _ _ _ _ _ YS (pv 2) Yn (Yp _)) (@Yg _ _ _ (@Yl _ _ _ _ (@Wa _ _ _ _ _ _ _ (@YN _ _ _ _ _ _ _ _ _ _ Z3 Y1 (@Ya _ _ _ _ _ (pv 1) (@Ya _ _ _ _ _ (@XU _ _ _ _ ("tuple") Z8 (by decide +kernel) (by rfl) (by rfl) (by decide) (by decide)) Yc (by rfl)) (by rfl)) (by decide +kernel) (by rfl) (by rfl) (by decide) (by decide) (by rfl) (by rfl)) (@X9 _ _ _ _ _ (@Xn _ _ _ _ _ _ _ _ YS (@YN _ _ _ _ _ _ _ _ _ _ aP Y6 (@Ya _ _ _ _ _ (pv 1) Yc (by rfl)) (by decide +kernel) (by rfl) (by rfl) (by decide) (by decide) (by rfl) (by rfl)) (@YN _ _ _ _ _ _ _ _ _ _ aP Y6 (@Ya _ _ _ _ _ (@YD _ _ _ _ _ _ _ YM (pv 0) Yi (fun _ _=>rfl)) Yc (by rfl)) (by decide +kernel) (by rfl) (by rfl) (by decide) (by decide) (by rfl) (by rfl)) (Yp _)))))) Yr) (@Yf _ _ _ _ _ (@YE _ _ _ _ _ _ _ _ (@Ys _ _ _ _ _ _ _ _ YS (pv 2) Yn (Yp _)) (@Yg _ _ _ (@Yl _ _ _ _ (@Yz _ _ _ _ _ _ _ _ _ _ _ _ nO hr (@Ya _ _ _ _ _ (@YD _ _ _ _ _ _ _ YM (pv 0) Yi (fun _ _=>rfl)) (@Ya _ _ _ _ _ (pv 1) Yc (by rfl)) (by rfl)) (by omega) (by rfl) (by rfl) (by decide) (by rfl) (by rfl)))) Yr) (@Yf _ _ _ _ _ (@YE _ _ _ _ _ _ _ _ (@Ys _ _ _ _ _ _ _ _ YS (pv 2) Yn (Yp _)) (@Yg _ _ _ Xp) Yr) (@Yf _ _ _ _ _ (@YE _ _ _ _ _ _ _ _ (@Ys _ _ _ _ _ _ _ _ Qk (pv 2) (@Er _ _ _ _ _ jO (by rfl) (by rfl) (by decide)) rfl) (@Yg _ _ _ (@Yl _ _ _ _ (@YN _ _ _ _ _ _ _ _ _ _ Z3 Y1 (@Ya _ _ _ _ _ (pv 1) (@Ya _ _ _ _ _ (@XU _ _ _ _ ("list") aW (by decide +kernel) (by rfl) (by rfl) (by decide) (by decide)) Yc (by rfl)) (by rfl)) (by decide +kernel) (by rfl) (by rfl) (by decide) (by decide) (by rfl) (by rfl)))) Yr) (@Yg _ _ _ Xp)))))))),?_⟩;refine Yq fun R rr=>?_
 walk_at "rd"
 cases hv with
 | wh o ho =>
  refine ⟨_,aA.of hS,_,Yj (j:=0) rfl,rr _ _ (cL rfl rfl ?_)⟩;walk_at "rd";refine ⟨_,_,rfl,.int _,_,rfl,Xd rfl ⟨_,aA.of hS,_,Yj (j:=1) rfl,_,rfl,Xd (by omega) ⟨_,aA.of hS,_,Yj (j:=2) rfl,_,rfl,?_⟩⟩⟩;rw [decide_eq_true (by omega)];exact q1 _ H (.refl _) (.wh o ho)
 | gn i h =>
  refine ⟨_,aA.of hS,_,Yj (j:=0) rfl,rr _ _ (cL rfl rfl ?_)⟩;walk_at "rd";refine ⟨_,_,rfl,.int _,_,rfl,Xd rfl ⟨_,aA.of hS,_,Yj (j:=1) rfl,_,rfl,V8 (fun c=>⟨_,aA.of hS,_,Yj (j:=2) rfl,_,rfl,?_⟩) (fun _=>q0 H (.refl _) rfl)⟩⟩;rw [decide_eq_false (by omega)];exact q0 H (.refl _) rfl
 | eG v n h hn =>
  refine ⟨_,aA.of hS,_,Yj (j:=0) rfl,rr _ _ (cL rfl rfl ?_)⟩;walk_at "rd";refine ⟨_,_,rfl,h,_,rfl,YH (by rw [decide_eq_false hn];decide) (q0 H (.refl _) rfl)⟩
 | tx l h hl =>
  refine ⟨_,aA.of hS,_,Yj (j:=0) rfl,rr _ _ (aK rfl (by decide +kernel) (cL rfl rfl ?_))⟩;walk_at "rd";refine ⟨_,rfl,_,.str _,true,rfl,Xd rfl (txt hS hl fun b H' s e=>?_)⟩;rw [show b=true by rw [e,kb];exact fun c hc=>decide_eq_true (h c hc)];exact q1 _ H' s (.tx l h hl)
 | mL l h hl =>
  refine ⟨_,aA.of hS,_,Yj (j:=0) rfl,rr _ _ (aK rfl (by decide +kernel) (cL rfl rfl ?_))⟩;walk_at "rd";refine ⟨_,rfl,_,.str _,true,rfl,Xd rfl (txt hS hl fun b H' s e=>?_)⟩;rw [show b=false by rw [e,List.all_eq_false];exact Classical.byContradiction fun n=>h fun c hc=>Classical.byContradiction fun m=>n ⟨c,hc,by simpa using m⟩];exact q0 H' s rfl
 | gq v n h hn =>
  refine ⟨_,aA.of hS,_,Yj (j:=0) rfl,rr _ _ (aK rfl (by decide +kernel) (cL rfl rfl ?_))⟩;walk_at "rd";exact ⟨_,rfl,_,h.ty,false,h.kit (by simp) hn,YH (by decide) (q0 H (.refl _) rfl)⟩
 | rw a' u w r1 r2 h h1 h2 =>
  obtain ⟨b,ww,t,e1,e2,e3,e4⟩:=hS;refine ⟨_,aA.of e1,_,Yj (j:=0) rfl,rr _ _ (aK rfl (by decide +kernel) (aK rfl (by decide +kernel) (cL rfl rfl ?_)))⟩;walk_at "rd";exact ⟨_,rfl,_,.tup h,true,rfl,Xd rfl ⟨_,.inr (aA.of h),_,aA.of e1,_,Yj (j:=1) rfl,_,rfl,_,.inr (aA.of e2),q1 _ H (.refl _) (.rw a' u w r1 r2 h h1 h2)⟩⟩
 | pG v n h hn =>
  obtain ⟨b,ww,t,e1,e2,e3,e4⟩:=hS;refine ⟨_,aA.of e1,_,Yj (j:=0) rfl,rr _ _ (aK rfl (by decide +kernel) (aK rfl (by decide +kernel) (cL rfl rfl ?_)))⟩;walk_at "rd";exact ⟨_,rfl,_,h.ty,false,h.kit (by simp) hn,YH (by decide) (q0 H (.refl _) rfl)⟩
 | mO a' us h hl =>
  obtain ⟨b,ww,t,e1,e2,e3,e4⟩:=hS;refine ⟨_,aA.of e1,_,Yj (j:=0) rfl,rr _ _ (aK rfl (by decide +kernel) (aK rfl (by decide +kernel) (cL rfl rfl ?_)))⟩;walk_at "rd";refine ⟨_,rfl,_,.tup h,true,rfl,Xd rfl ⟨_,.inr (aA.of h),_,aA.of e1,_,Yj (j:=1) rfl,_,rfl,_,.inr (aA.of e2),?_⟩⟩;rw [decide_eq_false (by simp only [υ,da];omega)];exact q0 H (.refl _) rfl
 | ls s z hs a' us rs h l hl h2 =>
  obtain ⟨w,e1,e2⟩:=hS.ls hs;obtain ⟨n1,n2,n3,n4,n5,n6⟩:=UD hs;refine ⟨_,aA.of e1,_,Yj (j:=0) rfl,rr _ _ (aK rfl n1 (aK rfl n2 (aK rfl n3 (aK rfl n4 (aK rfl n5 ?_)))))⟩;walk_at "rd";exact fun c hc=>⟨_,.inr hc,rfl,rfl,Xd (by rcases VU hs with rfl | rfl | rfl<;>decide +kernel) ⟨_,rfl,_,.lst h,true,rfl,q1 _ H (.refl _) (.ls s z hs a' us rs h l hl h2)⟩⟩
 | lsN s z hs v n h hn =>
  obtain ⟨w,e1,e2⟩:=hS.ls hs;obtain ⟨n1,n2,n3,n4,n5,n6⟩:=UD hs;refine ⟨_,aA.of e1,_,Yj (j:=0) rfl,rr _ _ (aK rfl n1 (aK rfl n2 (aK rfl n3 (aK rfl n4 (aK rfl n5 ?_)))))⟩;walk_at "rd";exact fun c hc=>⟨_,.inr hc,rfl,rfl,Xd (by rcases VU hs with rfl | rfl | rfl<;>decide +kernel) ⟨_,rfl,_,h.ty,false,h.kit (by simp) hn,q0 H (.refl _) rfl⟩⟩
 | pk a' u r h hu =>
  obtain ⟨b,c0,c1,w,t,e1,hP⟩:=hS;refine ⟨_,aA.of e1,_,Yj (j:=0) rfl,rr _ _ (aK rfl (by decide +kernel) (aK rfl (by decide +kernel) (aK rfl (by decide +kernel) (cL rfl rfl ?_))))⟩;walk_at "rd";exact ⟨_,aA.of e1,_,Yj (j:=1) rfl,lo,sg,b,c0,c1,w,t,_,_,rfl,hP,.tw a' u h,fun H' s=>q1 _ H' s (.pk a' u r h hu)⟩
 | gF v h =>
  obtain ⟨b,c0,c1,w,t,e1,hP⟩:=hS;refine ⟨_,aA.of e1,_,Yj (j:=0) rfl,rr _ _ (aK rfl (by decide +kernel) (aK rfl (by decide +kernel) (aK rfl (by decide +kernel) (cL rfl rfl ?_))))⟩;walk_at "rd";exact ⟨_,aA.of e1,_,Yj (j:=1) rfl,lo,sg,b,c0,c1,w,t,_,_,rfl,hP,.no v h,fun H' s=>q0 H' s rfl⟩
inductive F2 {α β:Type} (R:α->β->Prop):List α->List β->Prop
 | nil:F2 R [] []
 | cons {a:α} {b:β} {as:List α} {bs:List β} (h:R a b) (t:F2 R as bs):F2 R (a::as) (b::bs)
section
 variable {α β:Type} {R:α->β->Prop}
theorem F2.len:∀ {as:List α} {bs:List β},F2 R as bs->as.length=bs.length
 | _,_,.nil=>rfl
 | _,_,.cons _ t=>by rw [υ,υ,t.len]
theorem F2.of:∀ {as:List α} {bs:List β},as.length=bs.length->(∀ (i:Nat) a b,as[i]?=some a->bs[i]?=some b->R a b)->F2 R as bs
 | [],[],_,_ => .nil
 | a::as,b::bs,h,k => .cons (k 0 a b rfl rfl) (F2.of (kx h) fun i x y e1 e2=>k (i+1) x y e1 e2)
 | [],_::_,h,_=>by cases h
 | _::_,[],h,_=>by cases h
theorem F2.get:∀ {as:List α} {bs:List β},F2 R as bs->∀ (i:Nat) a b,as[i]?=some a->bs[i]?=some b->R a b
 | _,_,.nil,i,a,b,e,_=>by cases e
 | _,_,.cons h t,0,a,b,e1,e2=>by cases Θ e1;cases Θ e2;exact h
 | _,_,.cons h t,i+1,a,b,e1,e2=>t.get i a b e1 e2
theorem F2.app:∀ {as:List α} {bs:List β} {cs:List α} {ds:List β},F2 R as bs->F2 R cs ds->F2 R (as++cs) (bs++ds)
 | _,_,_,_,.nil,h=>h
 | _,_,_,_,.cons h t,k => .cons h (t.app k)
theorem F2.take:∀ {as:List α} {bs:List β} (n:Nat),F2 R as bs->F2 R (as.take n) (bs.take n)
 | _,_,0,_ => .nil
 | _,_,_+1,.nil => .nil
 | _,_,n+1,.cons h t => .cons h (t.take n)
theorem F2.drop:∀ {as:List α} {bs:List β} (n:Nat),F2 R as bs->F2 R (as.drop n) (bs.drop n)
 | _,_,0,h=>h
 | _,_,_+1,.nil => .nil
 | _,_,n+1,.cons h t=>t.drop n
theorem F2.flat:∀ {as:List (List α)} {bs:List (List β)},F2 (F2 R) as bs->F2 R as.flatten bs.flatten
 | _,_,.nil => .nil
 | _,_,.cons h t=>h.app t.flat
theorem F2.map {α' β':Type} {R':α'->β'->Prop} {f:α->α'} {g:β->β'} (k:∀ a b,R a b->R' (f a) (g b)):∀ {as:List α} {bs:List β},F2 R as bs->F2 R' (as.map f) (bs.map g)
 | _,_,.nil => .nil
 | _,_,.cons h t => .cons (k _ _ h) (t.map k)
theorem F2.imp {R':α->β->Prop} (k:∀ a b,R a b->R' a b):∀ {as:List α} {bs:List β},F2 R as bs->F2 R' as bs
 | _,_,.nil => .nil
 | _,_,.cons h t => .cons (k _ _ h) (t.imp k)
theorem F2.rng {f:Nat->α} {g:Nat->β}:∀ {l:List Nat},(∀ i∈l,R (f i) (g i))->F2 R (l.map f) (l.map g)
 | [],_ => .nil
 | i::l,h => .cons (h i (.head _)) (F2.rng fun j hj=>h j (.tail _ hj))
theorem F2.getD:∀ {as:List (List α)} {bs:List (List β)} (i:Nat),F2 (F2 R) as bs->F2 R (as.getD i []) (bs.getD i [])
 | _,_,_,.nil => .nil
 | _,_,0,.cons h t=>h
 | _,_,i+1,.cons h t=>t.getD i
end
theorem F2.unmap {α β γ:Type} {R:α->γ->Prop} {f:β->γ}:∀ {as:List α} {bs:List β},F2 R as (bs.map f)->F2 (fun a b=>R a (f b)) as bs
 | _,[],.nil => .nil
 | _,_::_,.cons h t => .cons h t.unmap
def Uf (H:Hp) (lo:Int) (sg:List Nat) (ts:List Addr) (L:List (Sk×V×Option Dv)):Prop:=ts.length=L.length/\∀ (i:Nat) t w,ts[i]?=some t->L[i]?=some w->∃ p,H t=some (.tup [.ref p,w.2.1])/\Xc H lo sg p w.1
theorem Uf.tp {H H':Hp} (k:Tp H H') {lo:Int} {sg:List Nat} {ts:List Addr} {L:List (Sk×V×Option Dv)} (h:Uf H lo sg ts L):Uf H' lo sg ts L:=⟨h.1,fun i t w e1 e2=>by
 obtain ⟨p,h1,h2⟩:=h.2 i t w e1 e2;exact ⟨p,k _ _ h1,h2.tp k⟩⟩
inductive yP (K:Λ) (vs:List V) (H:Hp) (Q:VK) (E_:XK):Prop
 | mk (B:V) (lo:Int) (sg:List Nat) (a:Addr) (s:Sk) (v:V) (r:Option Dv) (L:List (Sk×V×Option Dv)) (h0:vs=[B,.ref a,v]) (h1:Xc H lo sg a s) (h2:Wi H lo sg s v r L) (h3:∀ D ts H',Yd H H'->H D=none->H' D=some (.lst (ts.map V.ref))->Uf H' lo sg ts L->Q (.ref D) H')
theorem Z23 {k:Nat}  (R:g.Raw "things_within" "things_within" xY ["book","shape","value"]) (Zk:g.Fn k "branch_place" ["branches","mark"] (jm)) (aW:g.mg "list"=none) (cX:g.mg "zip"=none) (jO:g.kZ "OF_ONE_PART" ([.str "many",.str "rising",.str "unlike"])):g.Fn (k+1) "things_within" ["book","shape","value"] (yP g.K):=by
 refine R.fn Gs (fun vs H Q E h=>by obtain ⟨B,lo,sg,a,s,v,r,L,rfl,hS,hv,q⟩:=h;rfl) fun f_ cdv A outer s H vs Q E hr h=>?_
 obtain ⟨B,lo,sg,a,s,v,r,L,rfl,hS,hv,q⟩:=h;refine ⟨_,(@Yf _ _ _ _ _ (@YA _ _ (3) _ _ _ _ Gs.nd rfl (.inl rfl) (@YD _ _ _ _ _ _ _ YM (pv 1) Yi (fun _ _=>rfl)) (by rfl) (by first | exact .inl rfl | exact .inr rfl | assumption)) (@Yf _ _ _ _ _ (@YE _ _ _ _ _ _ _ _ (@Ys _ _ _ _ _ _ _ _ YS (pv 3) Yn (Yp _)) (@Yg _ _ _ (@Yl _ _ _ _ (@Ot _ _ _ _ _ _ _ _ rfl aW rfl cX (@Ya _ _ _ _ _ (@YD _ _ _ _ _ _ _ YM (pv 1) Yi (fun _ _=>rfl)) (@Ya _ _ _ _ _ (pv 2) Yc (by rfl)) (by rfl)) (by rfl) (by rfl) (by rfl)))) Yr) (@Yf _ _ _ _ _ (@YE _ _ _ _ _ _ _ _ (@Ys _ _ _ _ _ _ _ _ YS (pv 3) Yn (Yp _)) (@Yg _ _ _ (@Yl _ _ _ _ (@Yw _ _ _ _ (@Ya _ _ _ _ _ (@Yv _ _ _ _ _ (@Ya _ _ _ _ _ (@YD _ _ _ _ _ _ _ YM (@YD _ _ _ _ _ _ _ YM (@YD _ _ _ _ _ _ _ YM (pv 1) Yi (fun _ _=>rfl)) (@Yz _ _ _ _ _ _ _ _ _ _ _ _ Zk hr (@Ya _ _ _ _ _ (@YD _ _ _ _ _ _ _ YM (pv 1) Yi (fun _ _=>rfl)) (@Ya _ _ _ _ _ (@YD _ _ _ _ _ _ _ YM (pv 2) Yi (fun _ _=>rfl)) Yc (by rfl)) (by rfl)) (by omega) (by rfl) (by rfl) (by decide) (by rfl) (by rfl)) (fun _ _=>rfl)) Yi (fun _ _=>rfl)) (@Ya _ _ _ _ _ (@YD _ _ _ _ _ _ _ YM (pv 2) Yi (fun _ _=>rfl)) Yc (by rfl)) (by rfl))) Yc (Yt _ _ _ _ _))))) Yr) (@Yf _ _ _ _ _ (@YE _ _ _ _ _ _ _ _ (@Ys _ _ _ _ _ _ _ _ YS (pv 3) Yn (Yp _)) (@Yg _ _ _ Xp) Yr) (@Yf _ _ _ _ _ (@YE _ _ _ _ _ _ _ _ (@XY _ _ _ _ _ _ _ (@Ys _ _ _ _ _ _ _ _ YS (pv 3) Yn (Yp _)) (@Wp _ _ _ _ (@Ys _ _ _ _ _ _ _ _ Qk (pv 3) (@Er _ _ _ _ _ jO (by rfl) (by rfl) (by decide)) rfl))).pt (@Yg _ _ _ (@Yl _ _ _ _ (@XC _ _ _ _ _ _ _ ([none,some 1]) ((["thing","shape"]:List Str)) _ (YF 0) _ _ (.own (.cap (i:=1) rfl rfl (by first | exact .inl rfl | exact .inr rfl) .nil)) rfl (@Xg _ _ _ _ (pv 2)) (fun cl C s₀ H₀ fp pn=>(@YB _ _ (0) _ (show cr (["thing","shape"]:List Str) by decide +kernel) rfl (.inl rfl) (.inr rfl))) (fun cl C s₀ H₀ fp pn=>Xj) (fun cl C s₀ H₀ fp pn=>(@Yv _ _ _ _ _ (@Ya _ _ _ _ _ (@YD _ _ _ _ _ _ _ (Vc (K:=g.K)) (pv 1) Yi (fun _ _=>rfl)) (@Ya _ _ _ _ _ (pv 0) Yc (by rfl)) (by rfl)))) (by intro x hx;simp at hx;first | (subst hx;exact .inl rfl) | (rcases hx with rfl | rfl<;>exact .inl rfl) | (rcases hx with rfl | rfl | rfl<;>exact .inl rfl) | (rcases hx with rfl | rfl | rfl | rfl<;>exact .inl rfl) | (rcases hx with rfl | rfl | rfl | rfl | rfl<;>exact .inl rfl)) (by rfl) (by decide) (by decide +kernel) (by intro _;rfl)))) Yr) (@Yg _ _ _ (@Yl _ _ _ _ (@Yw _ _ _ _ Yc)))))))),?_⟩;refine Yq fun R rr=>?_
 walk_at "rd"
 cases hv with
 | wh o ho =>
  refine ⟨_,aA.of hS,_,Yj (j:=0) rfl,rr _ _ (aK rfl (by decide +kernel) (aK rfl (by decide +kernel) (aK rfl (by decide +kernel) ?_)))⟩;walk_at "rd";refine YH (by decide +kernel) fun c hc=>⟨_,.inr hc,rfl,rfl,YH (by decide +kernel) ⟨few (by decide),fun p hp=>?_⟩⟩
  exact q p [] _ (.aj hp _) hp Yb ⟨rfl,fun i t w h=>by cases h⟩
 | tx l h hl =>
  refine ⟨_,aA.of hS,_,Yj (j:=0) rfl,rr _ _ (aK rfl (by decide +kernel) (aK rfl (by decide +kernel) (aK rfl (by decide +kernel) ?_)))⟩;walk_at "rd";refine YH (by decide +kernel) fun c hc=>⟨_,.inr hc,rfl,rfl,YH (by decide +kernel) ⟨few (by decide),fun p hp=>?_⟩⟩
  exact q p [] _ (.aj hp _) hp Yb ⟨rfl,fun i t w h=>by cases h⟩
 | rw a' u w r1 r2 h h1 h2 =>
  obtain ⟨b,ww,t,e1,e2,e3,e4⟩:=hS;refine ⟨_,aA.of e1,_,Yj (j:=0) rfl,rr _ _ (cL rfl rfl ?_)⟩;walk_at "rd";refine ⟨_,aA.of e1,_,Yj (j:=1) rfl,_,rfl,_,aA.of e2,_,aA.of h,rfl,fun l as H2 hl s2 hd hal hat=>?_⟩;refine q l as H2 s2 hl hd ⟨hal,fun i t' w' c1 c2=>?_⟩
  match i,c2 with
  | 0,c2=>cases c2;exact ⟨ww,(hat 0 t' _ _ c1 rfl rfl).2,s2 _ _ e3⟩
  | 1,c2=>cases c2;exact ⟨t,(hat 1 t' _ _ c1 rfl rfl).2,s2 _ _ e4⟩
 | ls s z hs a' us rs h l hl h2 =>
  obtain ⟨w,e1,e2⟩:=hS.ls hs;obtain ⟨n1,n2,n3,n4,n5,n6⟩:=UD hs;refine ⟨_,aA.of e1,_,Yj (j:=0) rfl,rr _ _ (aK rfl n3 (aK rfl n4 (aK rfl n6 ?_)))⟩;walk_at "rd";refine YH (fun z=>n5 (by simpa using z)) fun c hc=>⟨_,.inr hc,rfl,rfl,Xd (by rcases VU hs with rfl | rfl | rfl<;>decide +kernel) ?_⟩
  refine Ew (K:=g.K) (xs:=us) (us.map fun u=>[.ref w,u]) (fun R r=>by walk_at "rd";exact r a' H (.refl _) (ao.of h)) (by simp) (by omega) ?_ ?_
  ·intro i u y H' hu hy sm R r
   rw [Ξ,hu] at hy
   cases Θ hy
   walk_at "rd";exact ⟨_,aA.of (sm _ _ e1),_,Yj (j:=1) rfl,few (by decide),fun p hp=>r p _ (.aj hp _) Yb⟩
  ·intro D2 as H' gD sm hd hal hat
   refine q D2 as H' sm gD hd ⟨by simp [l];omega,fun i t w' h1' h2'=>?_⟩;rw [Ξ] at h2'
   obtain ⟨z',hz,rfl⟩:=ο.mp h2';obtain ⟨u,x⟩:=z';rw [dm] at hz
   exact ⟨w,hat i t _ h1' (by rw [Ξ,hz.1];rfl),sm _ _ e2⟩
 | pk a' u r h hu =>
  obtain ⟨b,c0,c1,w,t,e1,hP⟩:=hS;refine ⟨_,aA.of e1,_,Yj (j:=0) rfl,rr _ _ (aK rfl (by decide +kernel) (cL rfl rfl ?_))⟩;walk_at "rd";refine ⟨_,aA.of e1,_,Yj (j:=1) rfl,_,aA.of e1,_,Yj (j:=1) rfl,_,aA.of h,_,Yj (j:=0) rfl,lo,sg,"a",b,c0,c1,w,t,rfl,hP,fun H1 s1=>?_⟩;refine ⟨b,rfl,_,rfl,_,aA.of (s1 _ _ hP.b),_,Yj (j:=0) rfl,c0,rfl,_,aA.of (s1 _ _ hP.c0),_,Yj (j:=1) rfl,_,aA.of (s1 _ _ h),_,Yj (j:=1) rfl,few (by decide),fun X gX=>⟨few (by decide),fun L gL=>?_⟩⟩;have sX:=Yd.aj gX (.tup [.ref w,u]);have sL:=Yd.aj gL (.lst [.ref X]);have s3:=(s1.trans sX).trans sL;refine q L [X] _ s3 ((s1.trans sX).free gL) Yb ⟨rfl,fun i t' w' h1 h2=>?_⟩
  match i,h1,h2 with
  | 0,h1,h2=>cases h1;cases h2;exact ⟨w,sL _ _ Yb,s3 _ _ hP.w⟩
def aU (o:Nat):Nat:=ic (o:Int)
def KN (H:Hp) (v:V):Prop:=∃ (k:Addr) (n:Nat) (r:List V),v = .ref k/\H k=some (.tup (.int (n:Nat)::r))
def XN (H:Hp) (lo:Int) (v:V):Dv->Prop
 | .n o=>∃ k,v = .ref k/\H k=some (.tup [.int (aU o:Nat),.int (lo+o)])
 | _=>KN H v
theorem XN.kn {H:Hp} {lo:Int} {v:V} {d:Dv} (h:XN H lo v d):KN H v:=by
 cases d with
 | n o=>obtain ⟨k,e,h⟩:=h;exact ⟨k,_,_,e,h⟩
 | t l=>exact h
 | r o l=>exact h
 | l os=>exact h
 | p o=>exact h
theorem KN.tp {H H':Hp} (t:Tp H H') {v:V} (h:KN H v):KN H' v:=by
 obtain ⟨k,n,r,e,h⟩:=h;exact ⟨k,n,r,e,t _ _ h⟩
theorem XN.tp {H H':Hp} (t:Tp H H') {lo:Int} {v:V} {d:Dv} (h:XN H lo v d):XN H' lo v d:=by
 cases d with
 | n o=>obtain ⟨k,e,h⟩:=h;exact ⟨k,e,t _ _ h⟩
 | t l=>exact KN.tp t h
 | r o l=>exact KN.tp t h
 | l os=>exact KN.tp t h
 | p o=>exact KN.tp t h
inductive lA (K:Λ) (vs:List V) (H:Hp) (Q:VK) (E_:XK):Prop
 | mk (b:Addr) (ks:List V) (h0:vs=[.ref b]) (h1:H b=some (.lst ks)) (h2:(∀ v∈ks,KN H v)) (h3:ks.length<=100) (h4:∀ (n:Nat) H',Yd H H'->Q (.int (n:Nat)) H')
theorem Z2d  (R:g.Raw "sum_of_sizes" "sum_of_sizes" xZ ["keys"]) (jo:g.mg "sum"=none):g.Fn (1) "sum_of_sizes" ["keys"] (lA g.K):=by
 refine R.fn TF (fun vs H Q E h=>by obtain ⟨b,ks,rfl,hb,hk,hl,q⟩:=h;rfl) fun f_ cdv A outer s H vs Q E hr h=>?_
 obtain ⟨b,ks,rfl,hb,hk,hl,q⟩:=h;refine ⟨_,(@Yg _ _ _ (@Yl _ _ _ _ (@YN _ _ _ _ _ _ _ _ _ _ jo QA (@Ya _ _ _ _ _ (@XC _ _ _ _ _ _ _ ([none]) ((["key"]:List Str)) _ (YF 0) _ _ (.own .nil) rfl (@Xg _ _ _ _ (pv 0)) (fun cl C s₀ H₀ fp pn=>(@YB _ _ (0) _ (show cr (["key"]:List Str) by decide +kernel) rfl (.inl rfl) (.inr rfl))) (fun cl C s₀ H₀ fp pn=>Xj) (fun cl C s₀ H₀ fp pn=>(@YD _ _ _ _ _ _ _ (Vc (K:=g.K)) (pv 0) Yi (fun _ _=>rfl))) (by intro x hx;simp at hx) (by rfl) (by decide) (by decide +kernel) (by intro _;rfl)) Yc (by rfl)) (by decide +kernel) (by rfl) (by rfl) (by decide) (by decide) (by rfl) (by rfl)))),?_⟩;walk_at "rd";obtain ⟨ns,hns⟩:∃ ns:List Nat,F2 (fun v (n:Nat)=>∃ k r,v=V.ref k/\H k=some (.tup (.int (n:Nat)::r))) ks ns:=by
  clear hb hl q
  induction ks with
  | nil=>exact ⟨[],.nil⟩
  | cons v ks ih =>
   obtain ⟨ns,h⟩:=ih fun x hx=>hk x (.tail _ hx)
   obtain ⟨k,n,r,e,h1⟩:=hk v (.head _);exact ⟨n::ns,.cons ⟨k,r,e,h1⟩ h⟩
 have nl:=hns.len;refine NQ (K:=g.K) (xs:=ks) ((ns.map fun n=>((n:Nat):Int)).map V.int) (fun R r=>by walk_at "rd";exact r b H (.refl _) (ao.of hb)) (by simp [nl]) (by omega) ?_ ?_
 ·intro i x y H' hx hy sm R r
  rw [Ξ,Ξ] at hy
  obtain ⟨z,hz,rfl⟩:=ο.mp hy;obtain ⟨n,hn,rfl⟩:=ο.mp hz;obtain ⟨k,r0,rfl,e⟩:=hns.get i x n hx hn;walk_at "rd";exact ⟨_,aA.of (sm _ _ e),_,Yj (j:=0) rfl,r H' (.refl _)⟩
 ·intro D H' hD sm hd
  refine ⟨D,rfl,_,ao.of hd,?_⟩;have:∀ ns:List Nat,(ns.map fun n=>((n:Nat):Int)).sum=((ns.sum:Nat):Int):=fun ns=>by
   induction ns with
   | nil=>rfl
   | cons a l ih=>rw [ae,List.sum_cons,ih,List.sum_cons,Int.natCast_add]
  rw [this];exact q _ H' sm
def okN (os:List Nat):Prop:=os.length<=100/\∀ o∈os,o<=9
def zp (p:Nat->Nat->Bool) (os:List Nat):List Bool:=(os.zip (os.drop 1)).map fun w=>p w.1 w.2
theorem yQ (p:Nat->Nat->Bool):∀ os,(zp p os).all id=asc p os
 | []=>rfl
 | [_]=>rfl
 | a::b::l=>by
  have:=yQ p (b::l);rw [asc,<- this];rfl
theorem GF (p:Nat->Nat->Bool) (os:List Nat):(zp p os).length=os.length - 1:=by
 unfold zp;rw [Ζ,List.length_zip,bb];omega
theorem GJ:∀ o≤9,∀ o'≤9,aU o≠aU o'->(decide (aU o<=aU o')=decide (o<=o')/\decide (aU o<aU o')=decide (o<o')):=by decide +kernel
theorem X6 (i j:Int):bi (.int i) (.int j)=decide (i=j):=by rw [bi];rfl
abbrev lB (lo:Int) (o:Nat):PyData := .tuple [.int (aU o:Nat),.int (lo+o)]
theorem Bp (lo:Int) {o o':Nat} (h:o<=9) (h':o'<=9):jf (lB lo o) (lB lo o') (decide (o<=o')):=by
 refine .tup ?_;by_cases c:aU o=aU o'
 ·refine .eq (by rw [X6,c];exact decide_eq_true rfl) ?_
  by_cases d:o=o'
  ·subst d
   rw [decide_eq_true (Φ o)];exact .eq (by rw [X6];exact decide_eq_true rfl) .nn
  ·have:=jf.int (lo+o) (lo+o')
   rw [show decide (lo+(o:Int)<=lo+o')=decide (o<=o') from decide_eq_decide.mpr (by omega)] at this
   exact .ne (by rw [X6];exact decide_eq_false (by omega)) this
 ·have:=jf.int (aU o:Nat) (aU o':Nat)
  rw [show decide (((aU o:Nat):Int)<=((aU o':Nat):Int))=decide (aU o<=aU o') from decide_eq_decide.mpr (by omega),(GJ o h o' h' c).1] at this
  exact .ne (by rw [X6];exact decide_eq_false (by omega)) this
theorem Bq (lo:Int) {o o':Nat} (h:o<=9) (h':o'<=9):je (lB lo o) (lB lo o') (decide (o<o')):=by
 refine .tup ?_;by_cases c:aU o=aU o'
 ·refine .eq (by rw [X6,c];exact decide_eq_true rfl) ?_
  by_cases d:o=o'
  ·subst d
   rw [decide_eq_false (aS o)];exact .eq (by rw [X6];exact decide_eq_true rfl) .nn
  ·have:=je.int (lo+o) (lo+o')
   rw [show decide (lo+(o:Int)<lo+o')=decide (o<o') from decide_eq_decide.mpr (by omega)] at this
   exact .ne (by rw [X6];exact decide_eq_false (by omega)) this
 ·have:=je.int (aU o:Nat) (aU o':Nat)
  rw [show decide (((aU o:Nat):Int)<((aU o':Nat):Int))=decide (aU o<aU o') from decide_eq_decide.mpr (by omega),(GJ o h o' h' c).2] at this
  exact .ne (by rw [X6];exact decide_eq_false (by omega)) this
theorem UE {K:Λ} {H:Hp} {lo:Int} {v:V} {o:Nat} (h:XN H lo v (.n o)):Den K H v (lB lo o):=by
 obtain ⟨k,rfl,h⟩:=h;exact .tup (aA.of h) (.cons (.int _) (.cons (.int _) .nil))
theorem GK (lo:Int) (o:Nat):(lB lo o).depth<=64:=by simp [lB,df,ap]
theorem Br {p:Nat->Nat->Bool} {os:List Nat} {i:Nat} {a b:Nat} (h1:os[i]?=some a) (h2:os[i+1]?=some b):(zp p os)[i]?=some (p a b):=by
 unfold zp;rw [Ξ,(dm (z:=(a,b))).mpr ⟨h1,by rw [iS,Nat.add_comm];exact h2⟩];rfl
theorem GP {H:Hp} {lo:Int} {ks:List V} {os:List Nat} {p:Nat->Nat->Bool} (f2:F2 (fun v o=>XN H lo v (.n o)) ks os) (ok:okN os) {i:Nat} {x y z:V} (hx:ks[i]?=some x) (hy:(ks.drop 1)[i]?=some y) (hz:((zp p os).map V.bl)[i]?=some z):∃ o o',XN H lo x (.n o)/\XN H lo y (.n o')/\o<=9/\o'<=9/\z = .bl (p o o'):=by
 rw [iS,Nat.add_comm] at hy
 have hl:=f2.len;have i1:=(Ι.mp hx).1;have i2:=(Ι.mp hy).1;have h1:os[i]?=some (os[i]'(by omega)):=Η _;have h2:os[i+1]?=some (os[i+1]'(by omega)):=Η _;rw [Ξ,Br h1 h2] at hz
 exact ⟨_,_,f2.get i x _ hx h1,f2.get (i+1) y _ hy h2,ok.2 _ (Τ h1),ok.2 _ (Τ h2),(Θ hz).symm⟩
inductive jq (K:Λ) (p:Nat->Nat->Bool) (vs:List V) (H:Hp) (Q:VK) (E_:XK):Prop
 | mk (b:Addr) (ks:List V) (lo:Int) (os:List Nat) (h0:vs=[.ref b]) (h1:H b=some (.lst ks)) (h2:F2 (fun v o=>XN H lo v (.n o)) ks os) (h3:okN os) (h4:∀ H',Yd H H'->Q (.bl (asc p os)) H')
theorem QL  (R:g.Raw "none_ahead" "none_ahead" yc ["keys"]) (cW:g.mg "all"=none) (cX:g.mg "zip"=none):g.Fn (1) "none_ahead" ["keys"] (jq g.K (fun a b=>decide (a<=b))):=by
 refine R.fn QH (fun vs H Q E h=>by obtain ⟨b,ks,lo,os,rfl,hb,f2,ok,q⟩:=h;rfl) fun f_ cdv A outer s H vs Q E hr h=>?_
 obtain ⟨b,ks,lo,os,rfl,hb,f2,ok,q⟩:=h;refine ⟨_,(@Yg _ _ _ (@Yl _ _ _ _ (@YN _ _ _ _ _ _ _ _ _ _ cW (Wj rfl) (@Ya _ _ _ _ _ (@XC _ _ _ _ _ _ _ ([none,none]) ((["one","other"]:List Str)) _ (Vk g.K 2 (XL (YF 0) (XL (YF 1) Vv))) _ _ (.own (.own .nil)) rfl (@Eb _ _ _ _ _ _ _ _ _ rfl cX (@Ya _ _ _ _ _ (pv 0) (@Ya _ _ _ _ _ (@XB _ _ _ _ _ _ _ _ _ _ UO (pv 0) (@XS _ _ _ Yi) XR) Yc (by rfl)) (by rfl)) (by rfl) (by rfl)) (fun cl C s₀ H₀ fp pn=>(@Wq _ _ _ _ _ (2) rfl (@YX _ _ _ _ _ (@YB _ _ (0) _ (show cr (["one","other"]:List Str) by decide +kernel) rfl (.inl rfl) (.inr rfl)) (@YX _ _ _ _ _ (@YB _ _ (1) _ (show cr (["one","other"]:List Str) by decide +kernel) rfl (.inl rfl) (.inr rfl)) X4 (by rfl)) (by rfl)) (by rfl) (by rfl))) (fun cl C s₀ H₀ fp pn=>Xj) (fun cl C s₀ H₀ fp pn=>(@Xn _ _ _ _ _ _ _ _ (Rk (K:=g.K) hr.gQ) (pv 0) (pv 1) (Yp _))) (by intro x hx;simp at hx) (by rfl) (by decide) (by decide +kernel) (by intro _;rfl)) Yc (by rfl)) (by decide +kernel) (by rfl) (by rfl) (by decide) (by decide) (by rfl) (by rfl)))),?_⟩;walk_at "rd";have hlen:=f2.len;have ol:=ok.1;refine Qw (K:=g.K) (xs:=ks) (ys:=ks.drop 1) ((zp (fun a b=>decide (a<=b)) os).map V.bl) (fun R r=>?_) (by rw [Ζ,GF,bb];omega) (by omega) ?_ ?_
 ·walk_at "rd"
  exact ⟨ks,ao.of hb,fun p hp=>r b p _ (.aj hp _) (ao.of ((Yd.aj hp _) _ _ hb)) (ao.of (by rw [Yb];exact congrArg (fun z=>some (HO.lst z)) (VP ks 1)))⟩
 ·intro i x y z H' hx hy hz sm R r
  obtain ⟨o,o',k1,k2,l1,l2,rfl⟩:=GP f2 ok hx hy hz;walk_at "rd";exact ⟨_,UE (k1.tp (YT (Yo sm))),_,UE (k2.tp (YT (Yo sm))),_,Bp lo l1 l2,GK lo o,r H' (.refl _)⟩
 ·intro D H' hD sm hd
  refine ⟨D,rfl,_,ao.of hd,?_⟩;rw [yQ];exact q H' sm
theorem QM  (R:g.Raw "all_behind" "all_behind" yd ["keys"]) (cW:g.mg "all"=none) (cX:g.mg "zip"=none):g.Fn (1) "all_behind" ["keys"] (jq g.K (fun a b=>decide (a<b))):=by
 refine R.fn QI (fun vs H Q E h=>by obtain ⟨b,ks,lo,os,rfl,hb,f2,ok,q⟩:=h;rfl) fun f_ cdv A outer s H vs Q E hr h=>?_
 obtain ⟨b,ks,lo,os,rfl,hb,f2,ok,q⟩:=h;refine ⟨_,(@Yg _ _ _ (@Yl _ _ _ _ (@YN _ _ _ _ _ _ _ _ _ _ cW (Wj rfl) (@Ya _ _ _ _ _ (@XC _ _ _ _ _ _ _ ([none,none]) ((["one","other"]:List Str)) _ (Vk g.K 2 (XL (YF 0) (XL (YF 1) Vv))) _ _ (.own (.own .nil)) rfl (@Eb _ _ _ _ _ _ _ _ _ rfl cX (@Ya _ _ _ _ _ (pv 0) (@Ya _ _ _ _ _ (@XB _ _ _ _ _ _ _ _ _ _ UO (pv 0) (@XS _ _ _ Yi) XR) Yc (by rfl)) (by rfl)) (by rfl) (by rfl)) (fun cl C s₀ H₀ fp pn=>(@Wq _ _ _ _ _ (2) rfl (@YX _ _ _ _ _ (@YB _ _ (0) _ (show cr (["one","other"]:List Str) by decide +kernel) rfl (.inl rfl) (.inr rfl)) (@YX _ _ _ _ _ (@YB _ _ (1) _ (show cr (["one","other"]:List Str) by decide +kernel) rfl (.inl rfl) (.inr rfl)) X4 (by rfl)) (by rfl)) (by rfl) (by rfl))) (fun cl C s₀ H₀ fp pn=>Xj) (fun cl C s₀ H₀ fp pn=>(@Xn _ _ _ _ _ _ _ _ (Rj (K:=g.K) hr.gQ) (pv 0) (pv 1) (Yp _))) (by intro x hx;simp at hx) (by rfl) (by decide) (by decide +kernel) (by intro _;rfl)) Yc (by rfl)) (by decide +kernel) (by rfl) (by rfl) (by decide) (by decide) (by rfl) (by rfl)))),?_⟩;walk_at "rd";have hlen:=f2.len;have ol:=ok.1;refine Qw (K:=g.K) (xs:=ks) (ys:=ks.drop 1) ((zp (fun a b=>decide (a<b)) os).map V.bl) (fun R r=>?_) (by rw [Ζ,GF,bb];omega) (by omega) ?_ ?_
 ·walk_at "rd"
  exact ⟨ks,ao.of hb,fun p hp=>r b p _ (.aj hp _) (ao.of ((Yd.aj hp _) _ _ hb)) (ao.of (by rw [Yb];exact congrArg (fun z=>some (HO.lst z)) (VP ks 1)))⟩
 ·intro i x y z H' hx hy hz sm R r
  obtain ⟨o,o',k1,k2,l1,l2,rfl⟩:=GP f2 ok hx hy hz;walk_at "rd";exact ⟨_,UE (k1.tp (YT (Yo sm))),_,UE (k2.tp (YT (Yo sm))),_,Bq lo l1 l2,GK lo o,r H' (.refl _)⟩
 ·intro D H' hD sm hd
  refine ⟨D,rfl,_,ao.of hd,?_⟩;rw [yQ];exact q H' sm
theorem Qx (xs:List V) (x:V):iz (xs++[x]) (-1)=some x:=by
 have:iZ (xs++[x]).length (-1)=some xs.length:=by
  rw [Ρ,aa];unfold iZ;rw [if_neg (by omega)]
  split
  ·congr 1;omega
  ·omega
 rw [iz,this,Option.bind_some,aE (Φ _),iN];rfl
structure Gr (H H':Hp) (p:Addr) (n:Nat) (gs:List Addr):Prop where
 s:Yd H H'
 hp:H' p=some (.lst (gs.map V.ref))
 nd:(p::gs).Nodup
 nw:∀ a∈gs,H a=none
 ln:gs.length<=n
 at_:∀ a∈gs,∃ y ys,H' a=some (.lst (y::ys))/\ys.length<n/\∀ x∈y::ys,x≠V.non/\KN H x
inductive pI (K:Λ) (vs:List V) (H:Hp) (Q:VK) (E_:XK):Prop
 | mk (b:Addr) (ks:List V) (h0:vs=[.ref b]) (h1:H b=some (.lst ks)) (h2:(∀ v∈ks,KN H v)) (h3:ks.length<=100) (h4:∀ p gs H',H p=none->Gr H H' p 100 gs->Q (.ref p) H')
theorem Gr.put {H H':Hp} {p a:Addr} {n:Nat} {gs:List Addr} {ys:List V} {k:V} (s:Yd H H') (hp:H' p=some (.lst ((gs++[a]).map V.ref))) (nd:(p::(gs++[a])).Nodup) (nw:∀ x∈gs++[a],H x=none) (ln:gs.length<=n) (ha:H' a=some (.lst ys)) (hy:ys.length<=n) (yk:∀ x∈ys,KN H x) (hk:KN H k) (at_:∀ x∈gs,∃ y ys,H' x=some (.lst (y::ys))/\ys.length<n/\∀ z∈y::ys,z≠V.non/\KN H z):Gr H (upd H' a (.lst (ys++[k]))) p (n+1) (gs++[a]):=by
 have nn:∀ {x:V},KN H x->x≠V.non:=fun ⟨_,_,_,e,_⟩ z=>by rw [e] at z;cases z
 have nd':=a9.mp nd;have na:a∉gs:=fun h=>(i8.mp nd'.2).2.2 a h a (by simp) rfl
 have pa:p≠a:=fun z=>nd'.1 (by rw [z];simp)
 refine ⟨.bC (nw a (by simp)) s _,by rw [Ye pa];exact hp,nd,nw,by rw [Ρ,aa];omega,fun x hx=>?_⟩;rcases ag.mp hx with hx | hx
 ·obtain ⟨y,zs,h1,h2,h3⟩:=at_ x hx
  exact ⟨y,zs,by rw [Ye fun z=>na (by rw [<- z];exact hx)];exact h1,by omega,h3⟩
 ·rw [ρ.mp hx,Yb]
  cases ys with
  | nil=>exact ⟨k,[],rfl,Nat.succ_pos _,fun z hz=>by rw [ρ.mp hz];exact ⟨nn hk,hk⟩⟩
  | cons y ys =>
   refine ⟨y,ys++[k],rfl,by rw [Ρ,aa];rw [υ] at hy;omega,fun z hz=>?_⟩;have:KN H z:=by
    rcases ag.mp (show z∈(y::ys)++[k] from hz) with hz | hz
    ·exact yk z hz
    ·rw [ρ.mp hz];exact hk
   exact ⟨nn this,this⟩
theorem Z1S  (R:g.Raw "groups_by_size" "groups_by_size" yg ["keys"]) (aP:g.mg "len"=none):g.Fn (1) "groups_by_size" ["keys"] (pI g.K):=by
 refine R.fn ZV (fun vs H Q E h=>by obtain ⟨b,ks,rfl,hb,hk,hl,q⟩:=h;rfl) fun f_ cdv A outer s H vs Q E hr h=>?_
 obtain ⟨b,ks,rfl,hb,hk,hl,q⟩:=h;refine ⟨_,(@Yf _ _ _ _ _ (@YA _ _ (1) _ _ _ _ ZV.nd rfl (.inl rfl) (@Yw _ _ _ _ Yc) (by rfl) (by first | exact .inl rfl | exact .inr rfl | assumption)) (@Yf _ _ _ _ _ (@XE _ _ _ _ _ _ _ _ bp rfl (@Xg _ _ _ _ (pv 0)) (@YB _ _ (2) _ ZV.nd rfl (.inl rfl) (by first | exact .inl rfl | exact .inr rfl | assumption)) (@Yf _ _ _ _ _ (@YE _ _ _ _ _ _ _ _ (@XY _ _ _ _ _ _ _ (@Ys _ _ _ _ _ _ _ _ YS (@YN _ _ _ _ _ _ _ _ _ _ aP Y6 (@Ya _ _ _ _ _ (pv 1) Yc (by rfl)) (by decide +kernel) (by rfl) (by rfl) (by decide) (by decide) (by rfl) (by rfl)) Yi (Yp _)) (@Wp _ _ _ _ (@Ys _ _ _ _ _ _ _ _ CQ (@YD _ _ _ _ _ _ _ YM (@YD _ _ _ _ _ _ _ XH (@YD _ _ _ _ _ _ _ XH (pv 1) (@Uh _ _ _ _ _ _ Vz Yi) (fun _ _=>rfl)) Yi (fun _ _=>rfl)) Yi (fun _ _=>rfl)) (@YD _ _ _ _ _ _ _ YM (pv 2) Yi (fun _ _=>rfl)) (Yp _)))).pt (@Yg _ _ _ (@Y2 _ _ _ _ (@Xu _ _ _ _ _ _ _ _ _ _ _ _ bc be bn Y9 (pv 1) (@Ya _ _ _ _ _ (@Yw _ _ _ _ Yc) Yc (YL _ _ _ _)) (by rfl) (by rfl) (by rfl) (by rfl) (by rfl)) (by rfl))) Yr) (@Yg _ _ _ (@Y2 _ _ _ _ (@Xu _ _ _ _ _ _ _ _ _ _ _ _ bc be bn Y9 (@YD _ _ _ _ _ _ _ XH (pv 1) (@Uh _ _ _ _ _ _ Vz Yi) (fun _ _=>rfl)) (@Ya _ _ _ _ _ (pv 2) Yc (by rfl)) (by rfl) (by rfl) (by rfl) (by rfl) (by rfl)) (by rfl)))) (by intro _;rfl)) (@Yg _ _ _ (@Yl _ _ _ _ (pv 1))))),?_⟩;refine Yq fun R rr=>?_
 walk_at "rd";refine ⟨few (by decide),fun p gp=>rr _ _ (Yq fun R rr=>?_)⟩;have s1:=Yd.aj gp (.lst []);refine Qp (K:=g.K) (a:=b) (xs:=ks) (fun i σ H'=>∃ o2 gs,σ=[some (.ref b),some (.ref p),o2]/\Gr H H' p i gs) (fun R r=>by walk_at "rd";exact r) ⟨none,[],rfl,s1,Yb,by simp,by simp,Φ _,by simp⟩ (fun i σ H' _ ⟨o2,gs,_,e⟩=>ao.of (e.s _ _ hb)) ?_ ?_
 ·rintro i v σ H' hv ⟨o2,gs,rfl,gr⟩
  have hi:=(Ι.mp hv).1;have kv:=hk v (Τ hv);obtain ⟨k,n,r,rfl,hkk⟩:=id kv;have k':=gr.s _ _ hkk;have yR:=gr.ln;have nd':=a9.mp gr.nd
  show WI _ _ _ _ _
  refine Yq fun R rr=>?_
  have put:∀ (gs':List Addr) (a:Addr) (ys:List V) (H2:Hp),Yd H H2->H2 p=some (.lst ((gs'++[a]).map V.ref))->(p::(gs'++[a])).Nodup->(∀ x∈gs'++[a],H x=none)->gs'.length<=i->H2 a=some (.lst ys)->ys.length<=i->(∀ x∈ys,KN H x)->(∀ x∈gs',∃ y ys,H2 x=some (.lst (y::ys))/\ys.length<i/\∀ z∈y::ys,z≠V.non/\KN H z)->R [some (.ref b),some (.ref p),some (.ref k)] H2:=fun gs' a ys H2 s hp nd nw ln ha hy yk at_=>rr _ _ (by
   walk_at "rd";exact ⟨_,ao.of hp,.ref a,by rw [af];exact Qx _ _,.inl ⟨rfl,_,ao.of ha⟩,a,rfl,_,ha,few (by omega),_,Gr.put s hp nd nw ln ha hy yk kv at_⟩)
  have new:tH g.K "list" (V.ref p) H'/\0<=sizeLine/\∀ p1,H' p1=none->wu (upd H' p1 (HO.lst [])) p fun xs=>R [some (V.ref b),some (V.ref p),some (V.ref k)] (upd (upd H' p1 (HO.lst [])) p (HO.lst (xs++[V.ref p1]))):=by
   refine ⟨.inl ⟨rfl,_,ao.of gr.hp⟩,few (by decide),fun p1 g1=>⟨_,(Yd.aj g1 _) _ _ gr.hp,few (by rw [Ζ];omega),?_⟩⟩;have pp:p≠p1:=Yk gr.hp g1;have ng:p1∉gs:=fun h=>by obtain ⟨y,ys,e,_⟩:=gr.at_ p1 h;rw [g1] at e;cases e
   have sN:Yd H (upd (upd H' p1 (.lst [])) p (.lst (gs.map V.ref++[.ref p1]))) := .bC gp (gr.s.trans (.aj g1 _)) _;refine put gs p1 [] _ sN (by rw [Yb,af];rfl) (a9.mpr ⟨fun h=>?_,i8.mpr ⟨nd'.2,by simp,fun x hx y hy=>?_⟩⟩) (fun x hx=>?_) yR (by rw [Ye (ah pp),Yb]) (ay _) (fun x h=>by cases h) fun x hx=>?_
   ·rcases ag.mp h with h | h
    ·exact nd'.1 h
    ·exact pp (ρ.mp h)
   ·rw [ρ.mp hy]
    exact fun e=>ng (e▸hx)
   ·rcases ag.mp hx with h | h
    ·exact gr.nw x h
    ·rw [ρ.mp h];exact gr.s.free g1
   ·obtain ⟨y,ys,h1,h2,h3⟩:=gr.at_ x hx
    exact ⟨y,ys,by rw [Ye (fun z=>nd'.1 (by rw [<- z];exact hx)),Ye (fun z=>ng (by rw [<- z];exact hx))];exact h1,h2,h3⟩
  walk_at "rd";refine ⟨_,.inl (ao.of gr.hp),V8 (fun _=>new) (fun c=>?_)⟩;obtain ⟨yS,a,rfl⟩:∃ yS a,gs=yS++[a]:=⟨gs.dropLast,gs.getLast (by intro e;subst e;exact c rfl),(List.dropLast_concat_getLast _).symm⟩;obtain ⟨y,ys,ha,hyl,uz⟩:=gr.at_ a (by simp);obtain ⟨k2,n2,r2,rfl,hk2⟩:=(uz y (.head _)).2;refine ⟨_,ao.of gr.hp,.ref a,by rw [af];exact Qx _ _,a,rfl,_,ao.of ha,_,Yj (j:=0) rfl,k2,rfl,_,aA.of (gr.s _ _ hk2),_,Yj (j:=0) rfl,_,aA.of k',_,Yj (j:=0) rfl,rfl,V8 (fun _=>new) (fun _=>?_)⟩;rw [Ρ,aa] at yR
  exact put yS a _ H' gr.s gr.hp gr.nd gr.nw (by omega) ha (by rw [υ];omega) (fun x hx=>(uz x hx).2) fun x hx=>gr.at_ x (List.mem_append_left _ hx)
 ·rintro σ H' ⟨o2,gs,rfl,gr⟩
  refine rr _ _ ?_;walk_at "rd";exact q p gs H' gp ⟨gr.s,gr.hp,gr.nd,gr.nw,by have:=gr.ln;omega,fun a ha=>by obtain ⟨y,ys,h1,h2,h3⟩:=gr.at_ a ha;exact ⟨y,ys,h1,by omega,h3⟩⟩
inductive nP (K:Λ) (vs:List V) (H:Hp) (Q:VK) (E_:XK):Prop
 | mk (n:Nat) (b:Addr) (ks:List V) (h0:vs=[.int (n:Nat),.ref b]) (h1:H b=some (.lst ks)) (h2:(∀ v∈ks,KN H v)) (h3:ks.length<=100) (h4:∀ v H',Yd H H'->KN H' v->Q v H')
theorem WF {K:Λ} {tl:TE} {g:TG} {tb:TS} {D:Ends} {σ:St} {H:Hp} (G:Addr->List V->Hp->Prop) (ha:∀ R:V->Hp->Prop,(∀ a xs H1,ao K H1 a xs->G a xs H1->R (.ref a) H1)->tl σ H R)
  (hb:∀ a xs H1,ao K H1 a xs->G a xs H1->∃ Pv:Nat->St->Hp->Prop,Pv 0 σ H1/\(∀ i σ H,i<=xs.length->Pv i σ H->ao K H a xs) /\
   (∀ i x σ H,xs[i]?=some x->Pv i σ H->g x σ H fun σ2 H2=>tb { D with nx:=Pv (i+1),ct:=Pv (i+1),bk:=D.nx } σ2 H2)/\∀ σ H,Pv xs.length σ H->D.nx σ H):Vw (Wc K tl) g tb D σ H :=
 ha _ fun a xs H1 hS hG=>by
  obtain ⟨Pv,h0,hl,hs,hd⟩:=hb a xs H1 hS hG;exact ⟨a,rfl,⟨xs,hS⟩,V5 Pv h0 hl hs hd⟩
theorem YaC {k:Nat}  (R:g.Raw "risen_key" "risen_key" yh ["size","keys"]) (Z24:g.Fn k "groups_by_size" ["keys"] (pI g.K)) (aP:g.mg "len"=none) (Z8:g.mg "tuple"=none):g.Fn (k+1) "risen_key" ["size","keys"] (nP g.K):=by
 refine R.fn yj (fun vs H Q E h=>by obtain ⟨n,b,ks,rfl,hb,hk,hl,q⟩:=h;rfl) fun f_ cdv A outer s H vs Q E hr h=>?_
 obtain ⟨n,b,ks,rfl,hb,hk,hl,q⟩:=h;refine ⟨_,(@Yf _ _ _ _ _ (@YA _ _ (2) _ _ _ _ yj.nd rfl (.inl rfl) (@Yw _ _ _ _ (@Ya _ _ _ _ _ (pv 0) Yc (by rfl))) (by rfl) (by first | exact .inl rfl | exact .inr rfl | assumption)) (@Yf _ _ _ _ _ (@XE _ _ _ _ _ _ _ _ bp rfl (@Xg _ _ _ _ (@Yz _ _ _ _ _ _ _ _ _ _ _ _ Z24 hr (@Ya _ _ _ _ _ (pv 1) Yc (by rfl)) (by omega) (by rfl) (by rfl) (by decide) (by rfl) (by rfl))) (@YB _ _ (3) _ yj.nd rfl (.inl rfl) (by first | exact .inl rfl | exact .inr rfl | assumption)) (@Yf _ _ _ _ _ (@Y2 _ _ _ _ (@Xu _ _ _ _ _ _ _ _ _ _ _ _ bc F.slot_list_extend F.type_list_extend VB (pv 2) (@Ya _ _ _ _ _ (@Yw _ _ _ _ (@Ya _ _ _ _ _ (@Uh _ _ _ _ _ _ Vz (@YD _ _ _ _ _ _ _ YM (@YD _ _ _ _ _ _ _ XH (pv 3) Yi (fun _ _=>rfl)) Yi (fun _ _=>rfl))) (@Ya _ _ _ _ _ (@YN _ _ _ _ _ _ _ _ _ _ aP Y6 (@Ya _ _ _ _ _ (pv 3) Yc (by rfl)) (by decide +kernel) (by rfl) (by rfl) (by decide) (by decide) (by rfl) (by rfl)) Yc (by rfl)) (by rfl))) Yc (YL _ _ _ _)) (by rfl) (by rfl) (by rfl) (by rfl) (by rfl)) (by rfl)) (@Yg _ _ _ (@Y2 _ _ _ _ (@Xu _ _ _ _ _ _ _ _ _ _ _ _ bc F.slot_list_extend F.type_list_extend VB (pv 2) (@Ya _ _ _ _ _ (@Eo _ _ _ _ _ _ _ (pv 3) (@Uh _ _ _ _ _ _ Vz Yi)) Yc (by rfl)) (by rfl) (by rfl) (by rfl) (by rfl) (by rfl)) (by rfl)))) (by intro _;rfl)) (@Yg _ _ _ (@Yl _ _ _ _ (@Vm _ _ _ _ _ _ _ _ _ _ Z8 Xs (@Ya _ _ _ _ _ (pv 2) Yc (by rfl)) (by decide +kernel) (by rfl) (by rfl) (by decide) (by decide) (by rfl) (by rfl)))))),?_⟩;refine Yq fun R rr=>?_
 walk_at "rd";refine ⟨few (by decide),fun T gT=>rr _ _ (Yq fun R rr=>?_)⟩;have sT:=Yd.aj gT (.lst [.int (n:Nat)]);refine WF (K:=g.K) (fun p xs H2=>∃ gs,xs=gs.map V.ref/\p≠T/\Gr (upd H T (.lst [.int (n:Nat)])) H2 p 100 gs) (fun R r=>?_) ?_
 ·walk_at "rd"
  exact ⟨b,ks,rfl,sT _ _ hb,fun v hv=>(hk v hv).tp (YT (Yo sT)),hl,fun p gs H' gp gr=>r p _ H' (ao.of gr.hp) ⟨gs,rfl,(fun z=>by rw [z,Yb] at gp;cases gp),gr⟩⟩
 ·rintro p xs H2 _ ⟨gs,rfl,pT,gr⟩
  have nT:∀ a∈gs,a≠T:=fun a ha z=>by have:=gr.nw a ha;rw [z,Yb] at this;cases this
  refine ⟨fun i σ H'=>∃ o3 ws,σ=[some (.int (n:Nat)),some (.ref b),some (.ref T),o3]/\H' T=some (.lst (.int (n:Nat)::ws))/\ws.length<=200*i/\∀ x o,x≠T->H2 x=some o->H' x=some o,⟨none,[],rfl,gr.s _ _ Yb,ay _,fun _ _ _ e=>e⟩,fun i σ H' _ ⟨_,_,_,_,_,k⟩=>ao.of (k _ _ pT gr.hp),?_,?_⟩
  ·rintro i x σ H' hx ⟨o3,ws,rfl,hT,hw,kk⟩
   rw [Ξ] at hx
   obtain ⟨a,ha,rfl⟩:=ο.mp hx;have hi:=(Ι.mp ha).1;have gln:=gr.ln;obtain ⟨y,ys,hay,hyl,uz⟩:=gr.at_ a (Τ ha);obtain ⟨k2,n2,r2,rfl,hk2⟩:=(uz y (.head _)).2;have nk:k2≠T:=fun z=>by rw [z,Yb] at hk2;cases hk2
   have a1:=kk _ _ (nT a (Τ ha)) hay
   show WI _ _ _ _ _
   refine Yq fun R rr=>?_
   walk_at "rd";refine ⟨.inl ⟨rfl,_,ao.of hT⟩,_,ao.of a1,_,Yj (j:=0) rfl,k2,rfl,_,aA.of (kk _ _ nk (gr.s _ _ hk2)),_,Yj (j:=0) rfl,_,rfl,_,.inl (ao.of a1),few (by decide),fun e ge=>?_⟩;have se:=Yd.aj ge (.lst [V.int (-(n2:Nat)),V.int ((V.ref k2::ys).length:Nat)]);refine ⟨T,e,_,_,rfl,rfl,se _ _ hT,Yb,few (by simp;omega),rr _ _ ?_⟩;have aT:=nT a (Τ ha);have a2:=se _ _ a1;generalize upd H' e (.lst [V.int (-(n2:Nat)),V.int ((V.ref k2::ys).length:Nat)])=H3 at se a2;walk_at "rd";have a3:∀ o,upd H3 T o a=some (.lst (V.ref k2::ys)):=fun o=>by rw [Ye aT];exact a2
   refine ⟨.inl ⟨rfl,_,ao.of Yb⟩,_,ao.of (a3 _),fun p2 g2=>?_⟩;have s2:=Yd.aj g2 (.lst (V.ref k2::ys).reverse);refine ⟨T,p2,_,_,rfl,rfl,s2 _ _ Yb,Yb,few (by simp;omega),_,Yb,?_,fun x o nx e=>?_⟩
   ·show ((ws++[V.int (-(n2:Nat)),V.int ((ys.length+1:Nat):Int)])++(V.ref k2::ys).reverse).length<=200*(i+1)
    simp only [Ρ,List.length_reverse,υ,da];omega
   ·rw [Ye nx]
    exact s2 _ _ (by rw [Ye nx];exact se _ _ (kk _ _ nx e))
  ·rintro σ H' ⟨o3,ws,rfl,hT,hw,kk⟩
   refine rr _ _ ?_;walk_at "rd";refine ⟨_,.inl ⟨ao.of hT,fun l gl=>?_⟩⟩;have s3:Yd H H':=fun x o e=>kk _ _ (Yk e gT) (gr.s _ _ (sT _ _ e))
   exact q _ _ (s3.trans (.aj gl _)) ⟨l,n,ws,rfl,Yb⟩
inductive uD (K:Λ) (vs:List V) (H:Hp) (Q:VK) (E_:XK):Prop
 | mk (a w b:Addr) (s:Sk) (z:Str) (ks:List V) (lo:Int) (os:List Nat) (h0:vs=[.ref a,.ref b]) (h1:dY s=some z) (h2:H a=some (.tup [.str z,.ref w])) (h3:H b=some (.lst ks)) (h4:F2 (fun v o=>XN H lo v (.n o)) ks os) (h5:okN os) (h6:(∀ H',Yd H H'->ord s os=false->Q .non H')) (h7:∀ v H',Yd H H'->ord s os=true->KN H' v->Q v H')
theorem F2.mem {α β:Type} {R:α->β->Prop} {as:List α} {bs:List β} (h:F2 R as bs) {a:α} (ha:a∈as):∃ b∈bs,R a b:=by
 obtain ⟨i,hi⟩:=ek ha;have hl:=h.len;have hj:bs[i]?=some (bs[i]'(by have:=(Ι.mp hi).1;omega)):=Η _;exact ⟨_,Τ hj,h.get i a _ hi hj⟩
theorem Ya1 {k:Nat}  (R:g.Raw "list_key" "list_key" yp ["shape","keys"]) (yU:g.Fn k "sum_of_sizes" ["keys"] (lA g.K)) (lC:g.Fn k "none_ahead" ["keys"] (jq g.K (fun a b=>decide (a<=b)))) (lD:g.Fn k "all_behind" ["keys"] (jq g.K (fun a b=>decide (a<b)))) (lX:g.Fn k "risen_key" ["size","keys"] (nP g.K)) (aP:g.mg "len"=none) (Z8:g.mg "tuple"=none):g.Fn (k+1) "list_key" ["shape","keys"] (uD g.K):=by
 refine R.fn uo (fun vs H Q E h=>by obtain ⟨a,w,b,s,z,ks,lo,os,rfl,hs,ha,hb,f2,ok,q0,q1⟩:=h;rfl) fun f_ cdv A outer s H vs Q E hr h=>?_
 obtain ⟨a,w,b,s,z,ks,lo,os,rfl,hs,ha,hb,f2,ok,q0,q1⟩:=h;refine ⟨_,(@Yf _ _ _ _ _ (@YA _ _ (2) _ _ _ _ uo.nd rfl (.inl rfl) (@YD _ _ _ _ _ _ _ YM (pv 0) Yi (fun _ _=>rfl)) (by rfl) (by first | exact .inl rfl | exact .inr rfl | assumption)) (@Yf _ _ _ _ _ (@YA _ _ (3) _ _ _ _ uo.nd rfl (.inl rfl) (@YC _ _ _ _ _ _ _ _ Xa (@YN _ _ _ _ _ _ _ _ _ _ aP Y6 (@Ya _ _ _ _ _ (pv 1) Yc (by rfl)) (by decide +kernel) (by rfl) (by rfl) (by decide) (by decide) (by rfl) (by rfl)) (@Yz _ _ _ _ _ _ _ _ _ _ _ _ yU hr (@Ya _ _ _ _ _ (pv 1) Yc (by rfl)) (by omega) (by rfl) (by rfl) (by decide) (by rfl) (by rfl))) (by rfl) (by first | exact .inl rfl | exact .inr rfl | assumption)) (@Yf _ _ _ _ _ (@YE _ _ _ _ _ _ _ _ (@Ys _ _ _ _ _ _ _ _ YS (pv 2) Yn (Yp _)) (@Yg _ _ _ (@Yl _ _ _ _ (@Vm _ _ _ _ _ _ _ _ _ _ Z8 Xs (@Ya _ _ _ _ _ (@YC _ _ _ _ _ _ _ _ Wt (@Yw _ _ _ _ (@Ya _ _ _ _ _ (pv 3) Yc (by rfl))) (pv 1)) Yc (by rfl)) (by decide +kernel) (by rfl) (by rfl) (by decide) (by decide) (by rfl) (by rfl)))) Yr) (@Yf _ _ _ _ _ (@YE _ _ _ _ _ _ _ _ (@Ys _ _ _ _ _ _ _ _ YS (pv 2) Yn (Yp _)) (@Yg _ _ _ Xp) Yr) (@Yf _ _ _ _ _ (@YA _ _ (4) _ _ _ _ uo.nd rfl (.inl rfl) (@Q5 _ _ _ _ _ _ _ _ (@Ys _ _ _ _ _ _ _ _ YS (pv 2) Yn (Yp _)) (@Yz _ _ _ _ _ _ _ _ _ _ _ _ lC hr (@Ya _ _ _ _ _ (pv 1) Yc (by rfl)) (by omega) (by rfl) (by rfl) (by decide) (by rfl) (by rfl)) (@Yz _ _ _ _ _ _ _ _ _ _ _ _ lD hr (@Ya _ _ _ _ _ (pv 1) Yc (by rfl)) (by omega) (by rfl) (by rfl) (by decide) (by rfl) (by rfl))) (by rfl) (by first | exact .inl rfl | exact .inr rfl | assumption)) (@Yg _ _ _ (@Yl _ _ _ _ (@Q5 _ _ _ _ _ _ _ _ (@Y8 _ _ _ (pv 4) (by intro _;rfl)) (@Yz _ _ _ _ _ _ _ _ _ _ _ _ lX hr (@Ya _ _ _ _ _ (pv 3) (@Ya _ _ _ _ _ (pv 1) Yc (by rfl)) (by rfl)) (by omega) (by rfl) (by rfl) (by decide) (by rfl) (by rfl)) Y5)))))))),?_⟩;have kn:∀ v∈ks,KN H v:=fun v hv=>by obtain ⟨o,_,h⟩:=f2.mem hv;exact h.kn
 have kl:ks.length<=100:=by have:=f2.len;have:=ok.1;omega
 refine Yq fun R rr=>?_
 walk_at "rd";refine ⟨_,aA.of ha,_,Yj (j:=0) rfl,rr _ _ (Yq fun R rr=>?_)⟩;walk_at "rd";refine ⟨_,.inl (ao.of hb),b,ks,rfl,hb,kn,kl,fun n H1 s1=>⟨_,rfl,rr _ _ ?_⟩⟩;have kn1:∀ v∈ks,KN H1 v:=fun v hv=>(kn v hv).tp (YT (Yo s1))
 have GQ:=f2.imp fun _ _ h=>XN.tp (YT (Yo s1)) h
 rw [<- Int.natCast_add];have GR:∀ H2,Yd H H2->ord s os=true->nP g.K [.int ((ks.length+n:Nat):Int),.ref b] H2 Q E0:=fun H2 s2 c=>⟨_,b,ks,rfl,s2 _ _ hb,fun v hv=>(kn v hv).tp (YT (Yo s2)),kl,fun v H' s' k=>q1 v H' (s2.trans s') c k⟩
 cases s with
 | my =>
  cases hs
  refine cL rfl rfl ?_;walk_at "rd";refine ⟨few (by decide),fun X gX=>?_⟩;have sX:=Yd.aj gX (.lst [.int ((ks.length+n:Nat):Int)]);refine ⟨_,Yb,_,sX _ _ (s1 _ _ hb),few (by simp;omega),fun Y gY=>⟨_,.inl ⟨ao.of Yb,fun Z gZ=>?_⟩⟩⟩;exact q1 _ _ (((s1.trans sX).trans (.aj gY _)).trans (.aj gZ _)) rfl ⟨Z,_,_,rfl,Yb⟩
 | ri =>
  cases hs
  refine aK rfl (by decide +kernel) (aK rfl (by decide +kernel) (Yq fun R rr=>?_));walk_at "rd";refine ⟨b,ks,lo,os,rfl,s1 _ _ hb,GQ,ok,fun H2 s2=>rr _ _ ?_⟩;walk_at "rd"
  cases c:asc (fun a b=>decide (a<=b)) os with
  | false=>exact YH (by decide) (q0 H2 (s1.trans s2) c)
  | true=>exact Xd rfl (GR H2 (s1.trans s2) c)
 | un =>
  cases hs
  refine aK rfl (by decide +kernel) (aK rfl (by decide +kernel) (Yq fun R rr=>?_));walk_at "rd";refine ⟨b,ks,lo,os,rfl,s1 _ _ hb,GQ,ok,fun H2 s2=>rr _ _ ?_⟩;walk_at "rd"
  cases c:asc (fun a b=>decide (a<b)) os with
  | false=>exact YH (by decide) (q0 H2 (s1.trans s2) c)
  | true=>exact Xd rfl (GR H2 (s1.trans s2) c)
 | wh=>cases hs
 | tx=>cases hs
 | rw=>cases hs
 | pk=>cases hs
inductive uE (K:Λ) (vs:List V) (H:Hp) (Q:VK) (E_:XK):Prop
 | mk (lo:Int) (sg:List Nat) (a:Addr) (s:Sk) (v:V) (r:Option Dv) (L:List (Sk×V×Option Dv)) (b:Addr) (ks:List V) (ds:List Dv) (h0:vs=[.ref a,v,.ref b]) (h1:Xc H lo sg a s) (h2:Wi H lo sg s v r L) (h3:H b=some (.lst ks)) (h4:F2 (XN H lo) ks ds) (h5:(L.map fun w=>w.2.2)=ds.map some) (h6:(∀ H',Yd H H'->r=none->Q .non H')) (h7:∀ k d H',Yd H H'->r=some d->XN H' lo k d->Q k H')
theorem rM {H:Hp} {lo:Int} {sg:List Nat} {v:V} {d:Dv} (h:Vx H lo sg .wh v (some d)):∃ o,d = .n o/\o<=9:=by
 generalize hr:some d=r at h
 cases h with
 | wh o h=>cases hr;exact ⟨o,rfl,h⟩
 | gn i h=>cases hr
 | eG v n h hn=>cases hr
 | ls s z hs=>cases hs
 | lsN s z hs=>cases hs
theorem VV:∀ {os:List Nat},nums (os.map fun o=>some (Dv.n o))=some os
 | []=>rfl
 | o::os=>by rw [ae,nums,VV];rfl
theorem GX {H:Hp} {lo:Int} {sg:List Nat}:∀ {us:List V} {rs:List (Option Dv)} {ds:List Dv},us.length=rs.length->(∀ (i:Nat) u r,us[i]?=some u->rs[i]?=some r->Vx H lo sg .wh u r)->rs=ds.map some->∃ os:List Nat,ds=os.map Dv.n/\(∀ o∈os,o<=9)/\rs=os.map fun o=>some (Dv.n o)
 | [],rs,ds,hl,h2,e=>by
  have:rs=[]:=ez.mp hl.symm;subst this
  cases ds with
  | nil=>exact ⟨[],rfl,(fun o h=>by cases h),rfl⟩
  | cons d ds=>cases e
 | u::us,[],ds,hl,h2,e=>by cases hl
 | u::us,r::rs,[],hl,h2,e=>by cases e
 | u::us,r::rs,d::ds,hl,h2,e=>by
  rw [ae] at e
  cases (List.cons.inj e).1
  obtain ⟨o,rfl,ho⟩:=rM (h2 0 u _ rfl rfl);obtain ⟨os,e1,e2,e3⟩:=GX (us:=us) (rs:=rs) (ds:=ds) (kx hl) (fun i u r a b=>h2 (i+1) u r a b) (List.cons.inj e).2;refine ⟨o::os,by rw [e1];rfl,fun x hx=>?_,by rw [e3];rfl⟩;rcases Υ.mp hx with rfl | hx
  ·exact ho
  ·exact e2 x hx
theorem Ya2 {k:Nat}  (R:g.Raw "key_made" "key_made" yq ["shape","value","keys"]) (Zk:g.Fn k "branch_place" ["branches","mark"] (jm)) (yU:g.Fn k "sum_of_sizes" ["keys"] (lA g.K)) (nQ:g.Fn k "list_key" ["shape","keys"] (uD g.K)) (aP:g.mg "len"=none) (Z8:g.mg "tuple"=none):g.Fn (k+1) "key_made" ["shape","value","keys"] (uE g.K):=by
 refine R.fn Gu (fun vs H Q E h=>by obtain ⟨lo,sg,a,s,v,r,L,b,ks,ds,rfl,hS,hv,hb,f2,ed,q0,q1⟩:=h;rfl) fun f_ cdv A outer s H vs Q E hr h=>?_
 obtain ⟨lo,sg,a,s,v,r,L,b,ks,ds,rfl,hS,hv,hb,f2,ed,q0,q1⟩:=h;refine ⟨_,(@Yf _ _ _ _ _ (@YA _ _ (3) _ _ _ _ Gu.nd rfl (.inl rfl) (@YD _ _ _ _ _ _ _ YM (pv 0) Yi (fun _ _=>rfl)) (by rfl) (by first | exact .inl rfl | exact .inr rfl | assumption)) (@Yf _ _ _ _ _ (@YE _ _ _ _ _ _ _ _ (@Ys _ _ _ _ _ _ _ _ YS (pv 3) Yn (Yp _)) (@Yg _ _ _ (@Yl _ _ _ _ (@Yv _ _ _ _ _ (@Ya _ _ _ _ _ (@LK _ _ _ _ _ _ _ _ _ F.plainAttrs_int F.slot_int_bit_length F.type_int_bit_length NZ (@YC _ _ _ _ _ _ _ _ WJ (pv 1) (@YD _ _ _ _ _ _ _ YM (pv 0) Yi (fun _ _=>rfl))) (by rfl) (by rfl)) (@Ya _ _ _ _ _ (pv 1) Yc (by rfl)) (by rfl))))) Yr) (@Yf _ _ _ _ _ (@YE _ _ _ _ _ _ _ _ (@Ys _ _ _ _ _ _ _ _ YS (pv 3) Yn (Yp _)) (@Yg _ _ _ (@Yl _ _ _ _ (@Vm _ _ _ _ _ _ _ _ _ _ Z8 Xs (@Ya _ _ _ _ _ (@YC _ _ _ _ _ _ _ _ Wt (@Yw _ _ _ _ (@Ya _ _ _ _ _ (@YN _ _ _ _ _ _ _ _ _ _ aP VA (@Ya _ _ _ _ _ (pv 1) Yc (by rfl)) (by decide +kernel) (by rfl) (by rfl) (by decide) (by decide) (by rfl) (by rfl)) Yc (by rfl))) (@XC _ _ _ _ _ _ _ ([none,some 0]) ((["sign","shape"]:List Str)) _ (YF 0) _ _ (.own (.cap (i:=0) rfl rfl (by first | exact .inl rfl | exact .inr rfl) .nil)) rfl (@DN _ _ _ _ (pv 1)) (fun cl C s₀ H₀ fp pn=>(@YB _ _ (0) _ (show cr (["sign","shape"]:List Str) by decide +kernel) rfl (.inl rfl) (.inr rfl))) (fun cl C s₀ H₀ fp pn=>Xj) (fun cl C s₀ H₀ fp pn=>(@N7 _ (g.K) _ _ _ _ _ _ _ _ _ _ _ F.plainAttrs_str F.slot_str_find F.type_str_find N5 (@YD _ _ _ _ _ _ _ (Vc (K:=g.K)) (pv 1) Yi (fun _ _=>rfl)) (@Ya _ _ _ _ _ (pv 0) Yc (by rfl)) (by rfl) (by rfl) (by rfl) (by rfl) (by rfl) (by rfl))) (by intro x hx;simp at hx;first | (subst hx;exact .inl rfl) | (rcases hx with rfl | rfl<;>exact .inl rfl) | (rcases hx with rfl | rfl | rfl<;>exact .inl rfl) | (rcases hx with rfl | rfl | rfl | rfl<;>exact .inl rfl) | (rcases hx with rfl | rfl | rfl | rfl | rfl<;>exact .inl rfl)) (by rfl) (by decide) (by decide +kernel) (by intro _;rfl))) Yc (by rfl)) (by decide +kernel) (by rfl) (by rfl) (by decide) (by decide) (by rfl) (by rfl)))) Yr) (@Yf _ _ _ _ _ (@YE _ _ _ _ _ _ _ _ (@Ys _ _ _ _ _ _ _ _ YS (pv 3) Yn (Yp _)) (@Yg _ _ _ (@Yl _ _ _ _ (@Vm _ _ _ _ _ _ _ _ _ _ Z8 Xs (@Ya _ _ _ _ _ (@YC _ _ _ _ _ _ _ _ Wt (@Yw _ _ _ _ (@Ya _ _ _ _ _ (@Yz _ _ _ _ _ _ _ _ _ _ _ _ yU hr (@Ya _ _ _ _ _ (pv 2) Yc (by rfl)) (by omega) (by rfl) (by rfl) (by decide) (by rfl) (by rfl)) Yc (by rfl))) (pv 2)) Yc (by rfl)) (by decide +kernel) (by rfl) (by rfl) (by decide) (by decide) (by rfl) (by rfl)))) Yr) (@Yf _ _ _ _ _ (@YE _ _ _ _ _ _ _ _ (@Ys _ _ _ _ _ _ _ _ YS (pv 3) Yn (Yp _)) (@Yg _ _ _ (@Yl _ _ _ _ (@Yv _ _ _ _ _ (@Ya _ _ _ _ _ (@YD _ _ _ _ _ _ _ YM (@YD _ _ _ _ _ _ _ XH (pv 2) Yi (fun _ _=>rfl)) Yi (fun _ _=>rfl)) (@Ya _ _ _ _ _ (@Yz _ _ _ _ _ _ _ _ _ _ _ _ Zk hr (@Ya _ _ _ _ _ (@YD _ _ _ _ _ _ _ YM (pv 0) Yi (fun _ _=>rfl)) (@Ya _ _ _ _ _ (@YD _ _ _ _ _ _ _ YM (pv 1) Yi (fun _ _=>rfl)) Yc (by rfl)) (by rfl)) (by omega) (by rfl) (by rfl) (by decide) (by rfl) (by rfl)) (@Ya _ _ _ _ _ (@YD _ _ _ _ _ _ _ XH (pv 2) Yi (fun _ _=>rfl)) Yc (by rfl)) (by rfl)) (by rfl))))) Yr) (@Yf _ _ _ _ _ (@YE _ _ _ _ _ _ _ _ (@Ys _ _ _ _ _ _ _ _ YS (pv 3) Yn (Yp _)) (@Yg _ _ _ Xp) Yr) (@Yg _ _ _ (@Yl _ _ _ _ (@Yz _ _ _ _ _ _ _ _ _ _ _ _ nQ hr (@Ya _ _ _ _ _ (pv 0) (@Ya _ _ _ _ _ (pv 2) Yc (by rfl)) (by rfl)) (by omega) (by rfl) (by rfl) (by decide) (by rfl) (by rfl)))))))))),?_⟩;have kl:=f2.len;refine Yq fun R rr=>?_
 walk_at "rd"
 cases hv with
 | wh o ho =>
  refine ⟨_,aA.of hS,_,Yj (j:=0) rfl,rr _ _ (cL rfl rfl ?_)⟩;walk_at "rd";refine ⟨_,aA.of hS,_,Yj (j:=1) rfl,_,rfl,rfl,few (by decide),fun p hp=>?_⟩;rw [show lo+(o:Int) - lo=o by omega];exact q1 _ _ _ (.aj hp _) rfl ⟨p,rfl,Yb⟩
 | tx l h hl =>
  refine ⟨_,aA.of hS,_,Yj (j:=0) rfl,rr _ _ (aK rfl (by decide +kernel) (cL rfl rfl ?_))⟩;walk_at "rd";have sl:(S l).length=l.length:=XV l;rw [sl];refine ⟨few (by omega),few (by decide),fun p gp=>?_⟩;have s0:=Yd.aj gp (.lst [V.int (l.length:Nat)]);have hS':=s0 _ _ hS;refine Es (l:=l) (l.map fun c=>V.int (Txt.find (S sg) (S [c]))) (fun R r=>by walk_at "rd";exact r) (by simp) (by omega) ?_ ?_
  ·intro i c y H' hc hy sm R r
   rw [Ξ,hc] at hy
   cases Θ hy
   walk_at "rd";exact ⟨_,aA.of (sm _ _ hS'),_,Yj (j:=1) rfl,rfl,_,rfl,r H' (.refl H')⟩
  ·intro D H' gD sm hd
   refine ⟨D,rfl,_,sm _ _ Yb,_,hd,few (by simp;omega),fun Y gY=>⟨_,.inl ⟨ao.of Yb,fun Z gZ=>?_⟩⟩⟩;exact q1 _ _ _ (((s0.trans sm).trans (.aj gY _)).trans (.aj gZ _)) rfl ⟨Z,l.length,_,rfl,Yb⟩
 | rw a' u w r1 r2 h h1 h2 =>
  obtain ⟨b',ww,t,e1,e2,e3,e4⟩:=hS;refine ⟨_,aA.of e1,_,Yj (j:=0) rfl,rr _ _ (aK rfl (by decide +kernel) (aK rfl (by decide +kernel) (cL rfl rfl ?_)))⟩;walk_at "rd"
  match ds,ed with
  | [d1,d2],ed =>
  obtain ⟨e1',e2'⟩:r1=some d1/\r2=some d2:=by simpa using ed
  subst e1' e2';obtain ⟨o,rfl,ho⟩:=rM h1;obtain ⟨l,rfl⟩:∃ l,d2 = .t l:=by
   generalize hr:some d2=r at h2
   cases h2 with
   | tx l h hl=>cases hr;exact ⟨l,rfl⟩
   | mL=>cases hr
   | gq=>cases hr
   | ls s z hs=>cases hs
   | lsN s z hs=>cases hs
  refine ⟨b,ks,rfl,hb,fun v hv=>(by obtain ⟨d,_,h⟩:=f2.mem hv;exact h.kn),by rw [kl];simp,fun n H1 s1=>⟨few (by decide),fun X gX=>?_⟩⟩;have sX:=Yd.aj gX (.lst [.int (n:Nat)]);refine ⟨_,Yb,_,sX _ _ (s1 _ _ hb),few (by simp [kl]),fun Y gY=>⟨_,.inl ⟨ao.of Yb,fun Z gZ=>?_⟩⟩⟩;exact q1 _ _ _ (((s1.trans sX).trans (.aj gY _)).trans (.aj gZ _)) rfl ⟨Z,n,ks,rfl,Yb⟩
 | ls s z hs a' us rs h l hl h2 =>
  obtain ⟨w,e1,e2⟩:=hS.ls hs;obtain ⟨n1,n2,n3,n4,n5,n6⟩:=UD hs;refine ⟨_,aA.of e1,_,Yj (j:=0) rfl,rr _ _ (aK rfl n1 (aK rfl n2 (aK rfl n3 (aK rfl n4 (aK rfl n6 ?_)))))⟩;walk_at "rd";have e:rs=ds.map some:=by
   rw [<- ed,d3];exact (List.map_snd_zip (l₁:=us) (l₂:=rs) (by omega)).symm
  obtain ⟨os,rfl,ho,e⟩:=GX l h2 e;have GZ:F2 (fun v o=>XN H lo v (.n o)) ks os:=f2.unmap;have hd:iD s rs=if ord s os then some (.l os) else none:=by rw [iD,e,VV]
  refine ⟨a,w,b,s,z,ks,lo,os,rfl,hs,e1,hb,GZ,⟨by have:=GZ.len;have:=congrArg List.length e;rw [Ζ] at this;omega,ho⟩,fun H' s' c=>q0 H' s' (by rw [hd,c];rfl),fun v H' s' c k=>q1 v (.l os) H' s' (by rw [hd,c];rfl) k⟩
 | pk a' u r h hu =>
  obtain ⟨b',c0,c1,w,t,e1,hP⟩:=hS;refine ⟨_,aA.of e1,_,Yj (j:=0) rfl,rr _ _ (aK rfl (by decide +kernel) (aK rfl (by decide +kernel) (aK rfl (by decide +kernel) (cL rfl rfl ?_))))⟩;walk_at "rd"
  match ds,ed with
  | [d1],ed =>
  obtain e1':r=some d1:=by simpa using ed
  subst e1';obtain ⟨o,rfl,ho⟩:=rM hu
  match ks,kl with
  | [k0],_ =>
  obtain ⟨k,n,r0,rfl,e0'⟩:=(f2.get 0 k0 _ rfl rfl).kn;refine ⟨_,ao.of hb,_,Yj (j:=0) rfl,k,rfl,_,aA.of e0',_,Yj (j:=0) rfl,_,aA.of e1,_,Yj (j:=1) rfl,_,aA.of h,_,Yj (j:=0) rfl,lo,sg,_,b',c0,c1,w,t,rfl,hP,fun H1 s1=>⟨_,ao.of (s1 _ _ hb),_,Yj (j:=0) rfl,few (by decide),fun X gX=>?_⟩⟩;exact q1 _ _ _ (s1.trans (.aj gX _)) rfl ⟨X,n,_,rfl,Yb⟩
inductive pJ (K:Λ) (m:Nat) (vs:List V) (H:Hp) (Q:VK) (E_:XK):Prop
 | mk (B:V) (lo:Int) (sg:List Nat) (a:Addr) (s:Sk) (v:V) (r:Option Dv) (h0:vs=[B,.ref a,v]) (h1:Xc H lo sg a s) (h2:Vx H lo sg s v r) (h3:fW s<=m) (h4:(∀ H',Yd H H'->r=none->Q .non H')) (h5:∀ k d H',Yd H H'->r=some d->XN H' lo k d->Q k H')
theorem Ych {K:Λ} {vs:List V} {H:Hp} {Q:VK} {E:XK} (h:pJ K 0 vs H Q E):False:=by
 obtain ⟨B,lo,sg,a,s,v,r,_,_,_,h,_⟩:=h
 cases s<;>simp [fW] at h
theorem Ygi {H:Hp} {p:Addr} {xs ys:List V} (h:H p=some (.lst xs)):Tp H (upd H p (.lst ys)):=fun b zs e=>by rw [Ye (YW e h (by intro z;cases z))];exact e
theorem Tp.trans {H H1 H2:Hp} (a:Tp H H1) (b:Tp H1 H2):Tp H H2:=fun c o e=>b c o (a c o e)
theorem Wi.vx {H:Hp} {lo:Int} {sg:List Nat} {s:Sk} {v:V} {r:Option Dv} {L:List (Sk×V×Option Dv)} (h:Wi H lo sg s v r L):(∀ w∈L,Vx H lo sg w.1 w.2.1 w.2.2/\fW w.1=1/\1<fW s)/\((∃ w∈L,w.2.2=none)->r=none):=by
 cases h with
 | wh=>exact ⟨(fun w h=>by cases h),fun ⟨w,h,_⟩=>by cases h⟩
 | tx=>exact ⟨(fun w h=>by cases h),fun ⟨w,h,_⟩=>by cases h⟩
 | rw a u w r1 r2 h h1 h2 =>
  refine ⟨fun z hz=>?_,fun ⟨z,hz,e⟩=>?_⟩
  ·simp only [Υ,ι,or_false] at hz
   rcases hz with rfl | rfl
   ·exact ⟨h1,rfl,by decide⟩
   ·exact ⟨h2,rfl,by decide⟩
  ·simp only [Υ,ι,or_false] at hz
   rcases hz with rfl | rfl
   ·dsimp only at e;subst e;rfl
   ·dsimp only at e;subst e;cases r1 with | none=>rfl | some d=>cases d<;>rfl
 | ls s z hs a us rs h l hl h2 =>
  refine ⟨fun w hw=>?_,fun ⟨w,hw,e⟩=>?_⟩
  ·obtain ⟨y,hy,rfl⟩:=ψ.mp hw
   obtain ⟨i,hi⟩:=ek hy;rw [dm] at hi
   exact ⟨h2 i y.1 y.2 hi.1 hi.2,rfl,by cases s<;>first | (cases hs;done) | decide⟩
  ·obtain ⟨y,hy,rfl⟩:=ψ.mp hw
   have hm:=(eh hy).2;have:∀ rs:List (Option Dv),none∈rs->nums rs=none:=fun rs=>by
    induction rs with
    | nil=>intro h;cases h
    | cons x rs ih =>
     intro h;rcases Υ.mp h with h | h'
     ·rw [<- h];rfl
     ·clear h
      cases x with
      | none=>rfl
      | some d=>cases d<;>first | rfl | (rw [nums,ih h'];rfl)
   rw [iD,this rs (by rw [<- e];exact hm)]
 | pk a u r h hu =>
  refine ⟨fun w hw=>?_,fun ⟨w,hw,e⟩=>?_⟩
  ·rw [ρ.mp hw];exact ⟨hu,rfl,by decide⟩
  ·rw [ρ.mp hw] at e;dsimp only at e;subst e;rfl
theorem Wi.len {H:Hp} {lo:Int} {sg:List Nat} {s:Sk} {v:V} {r:Option Dv} {L:List (Sk×V×Option Dv)} (h:Wi H lo sg s v r L):L.length<=100:=by
 cases h with
 | ls s z hs a us rs h l hl h2=>rw [Ζ,List.length_zip];omega
 | _=>simp
inductive WgV (H1:Hp) (lo:Int) (sg:List Nat) (B:V) (a:Addr) (v:V) (p l:Addr) (ts:List Addr) (L:List (Sk×V×Option Dv)) (i:Nat) (σ:St) (H':Hp):Prop
 | mk (o4 o5 o6:Option V) (ks:List V) (ds:List Dv) (e:σ=[some B,some (.ref a),some v,some (.ref p),o4,o5,o6]) (s:Yd H1 H') (hp:H' p=some (.lst ks)) (hl:H' l=some (.lst (ts.map V.ref))) (pr:Uf H' lo sg ts L) (ky:F2 (XN H' lo) ks ds) (ed:((L.take i).map fun w=>w.2.2)=ds.map some)
theorem G3 {k:Nat}  (R:g.Raw "weighed" "weighed" yr ["book","shape","value"]) (nR:g.Fn k "has_form" ["shape","value"] (uy g.K)) (yV:g.Fn k "things_within" ["book","shape","value"] (yP g.K)) (nU:g.Fn k "key_made" ["shape","value","keys"] (uE g.K)) (pK:g.Fn k "weighed" ["book","shape","value"] (pJ g.K m)):g.Fn (k+1) "weighed" ["book","shape","value"] (pJ g.K (m+1)):=by
 refine R.fn pC (fun vs H Q E h=>by obtain ⟨B,lo,sg,a,s,v,r,rfl,hS,hv,hm,q0,q⟩:=h;rfl) fun f_ cdv A outer s H vs Q E hr h=>?_
 obtain ⟨B,lo,sg,a,s,v,r,rfl,hS,hv,hm,q0,q⟩:=h;refine ⟨_,(@Yf _ _ _ _ _ (@YE _ _ _ _ _ _ _ _ (@Xt _ _ _ _ (@Y8 _ _ _ (@Yz _ _ _ _ _ _ _ _ _ _ _ _ nR hr (@Ya _ _ _ _ _ (pv 1) (@Ya _ _ _ _ _ (pv 2) Yc (by rfl)) (by rfl)) (by omega) (by rfl) (by rfl) (by decide) (by rfl) (by rfl)) (by intro _;rfl))) (@Yg _ _ _ (@Yl _ _ _ _ Y5)) Yr) (@Yf _ _ _ _ _ (@YA _ _ (3) _ _ _ _ pC.nd rfl (.inl rfl) (@Yw _ _ _ _ Yc) (by rfl) (by first | exact .inl rfl | exact .inr rfl | assumption)) (@Yf _ _ _ _ _ (@XE _ _ _ _ _ _ _ _ bp rfl (@Xg _ _ _ _ (@Yz _ _ _ _ _ _ _ _ _ _ _ _ yV hr (@Ya _ _ _ _ _ (pv 0) (@Ya _ _ _ _ _ (pv 1) (@Ya _ _ _ _ _ (pv 2) Yc (by rfl)) (by rfl)) (by rfl)) (by omega) (by rfl) (by rfl) (by decide) (by rfl) (by rfl))) (@Wq _ _ _ _ _ (2) rfl (@YX _ _ _ _ _ (@YB _ _ (4) _ pC.nd rfl (.inl rfl) (by first | exact .inl rfl | exact .inr rfl | assumption)) (@YX _ _ _ _ _ (@YB _ _ (5) _ pC.nd rfl (.inl rfl) (by first | exact .inl rfl | exact .inr rfl | assumption)) X4 (by rfl)) (by rfl)) (by rfl) (by rfl)) (@Yf _ _ _ _ _ (@YA _ _ (6) _ _ _ _ pC.nd rfl (.inl rfl) (@Yz _ _ _ _ _ _ _ _ _ _ _ _ pK hr (@Ya _ _ _ _ _ (pv 0) (@Ya _ _ _ _ _ (pv 4) (@Ya _ _ _ _ _ (pv 5) Yc (by rfl)) (by rfl)) (by rfl)) (by omega) (by rfl) (by rfl) (by decide) (by rfl) (by rfl)) (by rfl) (by first | exact .inl rfl | exact .inr rfl | assumption)) (@Yf _ _ _ _ _ (@YE _ _ _ _ _ _ _ _ (@Ys _ _ _ _ _ _ _ _ W8 (pv 6) Y5 (Yp _)) (@Yg _ _ _ (@Yl _ _ _ _ Y5)) Yr) (@Yg _ _ _ (@Y2 _ _ _ _ (@Xu _ _ _ _ _ _ _ _ _ _ _ _ bc be bn Y9 (pv 3) (@Ya _ _ _ _ _ (pv 6) Yc (by rfl)) (by rfl) (by rfl) (by rfl) (by rfl) (by rfl)) (by rfl))))) (by intro _;rfl)) (@Yg _ _ _ (@Yl _ _ _ _ (@Yz _ _ _ _ _ _ _ _ _ _ _ _ nU hr (@Ya _ _ _ _ _ (pv 1) (@Ya _ _ _ _ _ (pv 2) (@Ya _ _ _ _ _ (pv 3) Yc (by rfl)) (by rfl)) (by rfl)) (by omega) (by rfl) (by rfl) (by decide) (by rfl) (by rfl))))))),?_⟩;refine Yq fun R rr=>?_
 walk_at "rd";refine ⟨lo,sg,a,s,v,r,rfl,hS,hv,fun H1 s1 er=>⟨_,rfl,Xd rfl (q0 H1 s1 er)⟩,fun L H1 s1 hw=>⟨_,rfl,YH (by decide) (rr _ _ (Yq fun R rr=>?_))⟩⟩;walk_at "rd";refine ⟨few (by decide),fun p gp=>rr _ _ (Yq fun R rr=>?_)⟩;have sp:=Yd.aj gp (.lst []);have s2:=s1.trans sp;have hL:=hw.len;obtain ⟨hvx,rn⟩:=hw.vx;refine WF (fun l xs H2=>∃ (ts:List Addr),xs=ts.map V.ref/\Yd (upd H1 p (.lst [])) H2/\H2 l=some (.lst (ts.map V.ref))/\l≠p/\Uf H2 lo sg ts L) (fun R r=>?_) ?_
 ·walk_at "rd"
  exact ⟨B,lo,sg,a,s,v,_,L,rfl,hS.kt (Yo s2),hw.kt (Yo s2),fun D ts H' s' gD hD pr=>r D _ H' (ao.of hD) ⟨ts,rfl,s',hD,(fun e=>by rw [e,Yb] at gD;cases gD),pr⟩⟩
 ·rintro l xs H2 hS2 ⟨ts,rfl,s3,hl,hlp,pr⟩
  have rN:=pr.1;refine ⟨WgV H1 lo sg B a v p l ts L,⟨none,none,none,[],[],rfl,sp.trans s3,s3 _ _ Yb,hl,pr,.nil,rfl⟩,fun i σ H' _ ⟨_,_,_,_,_,_,_,_,hl',_,_,_⟩=>ao.of hl',?_,?_⟩
  ·rintro i x σ H' hx ⟨o4,o5,o6,ks,ds,rfl,s4,pL,uF,pr4,uG,ed⟩
   rw [Ξ] at hx
   obtain ⟨t,ht,rfl⟩:=ο.mp hx;have hi:=(Ι.mp ht).1;have hwi:L[i]?=some (L[i]'(by omega)):=Η _;generalize L[i]'(by omega)=w at hwi;have uH:=Τ hwi;obtain ⟨b,e1,e2⟩:=pr4.2 i t w ht hwi;have kl:=uG.len;have el:=congrArg List.length ed;rw [Ζ,Ζ,ba] at el
   refine ⟨t,_,rfl,aA.of e1,rfl,_,_,rfl,_,_,rfl,rfl,Yq fun R rr=>?_⟩;walk_at "rd";obtain ⟨vx,l1,l2⟩:=hvx w uH;have c7:=s1.trans s4;refine ⟨B,lo,sg,b,w.1,w.2.1,w.2.2,rfl,e2,vx.kt (Yo c7),by omega,fun H5 s5 en=>rr _ _ (Yq fun R rr=>?_),fun k d H5 s5 en G4=>rr _ _ (Yq fun R rr=>?_)⟩
   ·walk_at "rd"
    exact q0 H5 (c7.trans s5) (rn ⟨w,uH,en⟩)
   obtain ⟨kk,_,_,rfl,_⟩:=G4.kn;walk_at "rd";refine rr _ _ ?_;walk_at "rd";refine ⟨.inl ⟨rfl,_,ao.of (s5 _ _ pL)⟩,_,s5 _ _ pL,few (by omega),?_⟩;have tl:Tp H5 (upd H5 p (.lst (ks++[.ref kk]))):=Ygi (s5 _ _ pL);have tp:Tp H' (upd H5 p (.lst (ks++[.ref kk]))):=(YT (Yo s5)).trans tl;refine ⟨_,_,_,ks++[.ref kk],ds++[d],rfl,.bC gp (s4.trans s5) _,Yb,by rw [Ye hlp];exact s5 _ _ uF,pr4.tp tp,F2.app (uG.imp fun _ _ h=>h.tp tp) (.cons (G4.tp tl) .nil),?_⟩;rw [XA hwi,af,af,ed];exact congrArg (_++·) (by rw [ae,dS,en];rfl)
  ·rintro σ H' ⟨o4,o5,o6,ks,ds,rfl,s4,pL,uF,pr4,uG,ed⟩
   rw [Ζ,rN,fq] at ed
   refine rr _ _ ?_;walk_at "rd";have s5:=s1.trans s4;exact ⟨lo,sg,a,s,v,r,L,p,ks,ds,rfl,hS.kt (Yo s5),hw.kt (Yo s5),pL,uG,ed,fun H6 s6 e=>q0 H6 (s5.trans s6) e,fun k d H6 s6 e hk=>q k d H6 (s5.trans s6) e hk⟩
theorem yW (s:Sk):fW s<=2:=by cases s<;>decide
inductive pN (K:Λ) (vs:List V) (H:Hp) (Q:VK) (E_:XK):Prop
 | mk (B:V) (lo:Int) (sg:List Nat) (a:Addr) (s:Sk) (v:V) (d:Dv) (h0:vs=[B,.ref a,v]) (h1:Xc H lo sg a s) (h2:Vx H lo sg s v (some d)) (h3:∀ k H',Yd H H'->KN H' k->Q k H')
theorem Z1T {k:Nat}  (R:g.Raw "key_or_refusal" "key_or_refusal" yt ["book","shape","value"]) (pK:g.Fn k "weighed" ["book","shape","value"] (pJ g.K 2)):g.Fn (k+1) "key_or_refusal" ["book","shape","value"] (pN g.K):=by
 refine R.fn Gw (fun vs H Q E h=>by obtain ⟨B,lo,sg,a,s,v,d,rfl,hS,hv,q⟩:=h;rfl) fun f_ cdv A outer s H vs Q E hr h=>?_
 obtain ⟨B,lo,sg,a,s,v,d,rfl,hS,hv,q⟩:=h;refine ⟨_,(@Yf _ _ _ _ _ (@YA _ _ (3) _ _ _ _ Gw.nd rfl (.inl rfl) (@Yz _ _ _ _ _ _ _ _ _ _ _ _ pK hr (@Ya _ _ _ _ _ (pv 0) (@Ya _ _ _ _ _ (pv 1) (@Ya _ _ _ _ _ (pv 2) Yc (by rfl)) (by rfl)) (by rfl)) (by omega) (by rfl) (by rfl) (by decide) (by rfl) (by rfl)) (by rfl) (by first | exact .inl rfl | exact .inr rfl | assumption)) (@Yf _ _ _ _ _ (@YE _ _ _ _ _ _ _ _ (@Ys _ _ _ _ _ _ _ _ W8 (pv 3) Y5 (Yp _)) (@Yg _ _ _ Xp) Yr) (@Yg _ _ _ (@Yl _ _ _ _ (pv 3))))),?_⟩;refine Yq fun R rr=>?_
 walk_at "rd";refine ⟨B,lo,sg,a,s,v,_,rfl,hS,hv,yW s,(fun _ _ e=>by cases e),fun k d' H' s' e hk=>rr _ _ (Yq fun R rr=>?_)⟩;obtain ⟨kk,n,r,rfl,h⟩:=id hk.kn;walk_at "rd";refine rr _ _ ?_;walk_at "rd";exact q _ H' s' hk.kn
inductive jC (K:Λ) (vs:List V) (H:Hp) (Q:VK) (E_:XK):Prop
 | mk (B:V) (lo:Int) (sg:List Nat) (a:Addr) (s:Sk) (v:V) (r:Option Dv) (h0:vs=[B,.ref a,v]) (h1:Xc H lo sg a s) (h2:Vx H lo sg s v r) (h3:∀ H',Yd H H'->Q (.bl r.isSome) H')
theorem YfN {k:Nat}  (R:g.Raw "fits" "fits" yu ["book","shape","value"]) (pK:g.Fn k "weighed" ["book","shape","value"] (pJ g.K 2)):g.Fn (k+1) "fits" ["book","shape","value"] (jC g.K):=by
 refine R.fn TJ (fun vs H Q E h=>by obtain ⟨B,lo,sg,a,s,v,r,rfl,hS,hv,q⟩:=h;rfl) fun f_ cdv A outer s H vs Q E hr h=>?_
 obtain ⟨B,lo,sg,a,s,v,r,rfl,hS,hv,q⟩:=h;refine ⟨_,(@Yg _ _ _ (@Yl _ _ _ _ (@Xn _ _ _ _ _ _ _ _ UL (@Yz _ _ _ _ _ _ _ _ _ _ _ _ pK hr (@Ya _ _ _ _ _ (pv 0) (@Ya _ _ _ _ _ (pv 1) (@Ya _ _ _ _ _ (pv 2) Yc (by rfl)) (by rfl)) (by rfl)) (by omega) (by rfl) (by rfl) (by decide) (by rfl) (by rfl)) Y5 (Yp _)))),?_⟩;walk_at "rd";refine ⟨B,lo,sg,a,s,v,_,rfl,hS,hv,yW s,fun H' s' e=>?_,fun k d H' s' e hk=>?_⟩
 ·have:=q H' s'
  rw [e] at this
  exact this
 ·have:=q H' s'
  rw [e] at this
  obtain ⟨kk,_,_,rfl,_⟩:=hk.kn;exact this
inductive pO (K:Λ) (vs:List V) (H:Hp) (Q:VK) (E_:XK):Prop
 | mk (B:V) (lo:Int) (sg:List Nat) (a:Addr) (s:Sk) (v:V) (d:Dv) (h0:vs=[B,.ref a,v]) (h1:Xc H lo sg a s) (h2:Vx H lo sg s v (some d)) (h3:∀ (n:Nat) H',Yd H H'->Q (.int (n:Nat)) H')
theorem Yci {k:Nat}  (R:g.Raw "size_of" "size_of" yw ["book","shape","value"]) (Z25:g.Fn k "key_or_refusal" ["book","shape","value"] (pN g.K)):g.Fn (k+1) "size_of" ["book","shape","value"] (pO g.K):=by
 refine R.fn TV (fun vs H Q E h=>by obtain ⟨B,lo,sg,a,s,v,d,rfl,hS,hv,q⟩:=h;rfl) fun f_ cdv A outer s H vs Q E hr h=>?_
 obtain ⟨B,lo,sg,a,s,v,d,rfl,hS,hv,q⟩:=h;refine ⟨_,(@Yg _ _ _ (@Yl _ _ _ _ (@YD _ _ _ _ _ _ _ YM (@Yz _ _ _ _ _ _ _ _ _ _ _ _ Z25 hr (@Ya _ _ _ _ _ (pv 0) (@Ya _ _ _ _ _ (pv 1) (@Ya _ _ _ _ _ (pv 2) Yc (by rfl)) (by rfl)) (by rfl)) (by omega) (by rfl) (by rfl) (by decide) (by rfl) (by rfl)) Yi (fun _ _=>rfl)))),?_⟩;walk_at "rd";exact ⟨B,lo,sg,a,s,v,d,rfl,hS,hv,fun k H' s' ⟨kk,n,r,e,h⟩=>⟨kk,e,_,aA.of h,_,Yj (j:=0) rfl,q n H' s'⟩⟩
inductive jr (K:Λ) (C:Addr) (vs:List V) (H:Hp) (Q:VK) (E:XK):Prop
 | mk (B:V) (lo:Int) (sg:List Nat) (a:Addr) (s:Sk) (v:V) (r:Option Dv) (h0:vs=[B,.ref a,v]) (h1:Xc H lo sg a s) (h2:Vx H lo sg s v r) (h3:(r.isSome=true->∀ H',Yd H H'->Q .non H')) (h4:(r=none->∀ H' d,Yd H H'->H' d=none->E (.ref C) (some d) (upd H' d (Xx d [("value",v)]))))
theorem Z1I {k:Nat} {Z0:Addr} (R:g.Raw "refuse_no_value" "refuse_no_value" ZW ["book","shape","value"]) (lE:g.Fn k "fits" ["book","shape","value"] (jC g.K)) (Z1J:g.ug "NoValue" Z0 ["self","value"] ["value"]) (hki:2<=k):g.bY (k+1) "refuse_no_value" ["book","shape","value"] (jr g.K Z0):=by
 refine R.fnX TQ (fun vs H Q E h=>by obtain ⟨B,lo,sg,a,s,v,r,rfl,hS,hv,q,qe⟩:=h;rfl) fun f_ cdv A outer s H vs Q E hr h=>?_
 obtain ⟨B,lo,sg,a,s,v,r,rfl,hS,hv,q,qe⟩:=h;refine ⟨_,(@Yg _ _ _ (@YE _ _ _ _ _ _ _ _ (@Xt _ _ _ _ (@Y8 _ _ _ (@Yz _ _ _ _ _ _ _ _ _ _ _ _ lE hr (@Ya _ _ _ _ _ (pv 0) (@Ya _ _ _ _ _ (pv 1) (@Ya _ _ _ _ _ (pv 2) Yc (by rfl)) (by rfl)) (by rfl)) (by omega) (by rfl) (by rfl) (by decide) (by rfl) (by rfl)) (by intro _;rfl))) (@Yg _ _ _ (@SX _ _ _ _ _ _ _ _ _ _ _ _ _ _ Z1J hr Sv (@Ya _ _ _ _ _ (pv 2) Yc (by rfl)) (by omega) (by rfl) (by rfl) (by rfl) (by decide) (by rfl) (by rfl))) Yr)),?_⟩;walk_at "rd";refine ⟨B,lo,sg,a,s,v,r,rfl,hS,hv,fun H' s'=>?_⟩
 cases r with
 | some n=>exact ⟨_,rfl,YH (fun h=>by cases h) (q rfl H' s')⟩
 | none =>
  refine ⟨_,rfl,Xd rfl ?_⟩;unfold Gb;walk_at "rd";exact ⟨by decide,fun d hd=>qe rfl H' d s' hd⟩
def SameBut (p:Addr) (H H':Hp):Prop:=∀ q o,q≠p->H q=some o->H' q=some o
def hal:Nat->Nat->List Nat
 | 0,_=>[]
 | f+1,o=>if o=0 then [] else (o / 2)::hal f (o / 2)
def cj (o:Nat):List Nat:=(hal 20 o).reverse
def wo {α:Type} (xs:List α):List (List α):=(bj xs.length).map fun i=>xs.take i++xs.drop (i+1)
def wi {α:Type} (xs:List α) (L:List (List α)):List (List α):=((bj L.length).map fun i=>(L.getD i []).map fun s=>xs.take i++[s]++xs.drop (i+1)).flatten
inductive uI (K:Λ) (vs:List V) (H:Hp) (Q:VK) (E_:XK):Prop
 | mk (lo:Int) (o:Nat) (h0:vs=[.int lo,.int (lo+o)]) (h1:o<=9) (h2:∀ D H',Yd H H'->H D=none->H' D=some (.lst ((cj o).map fun (i:Nat)=>V.int (lo+(i:Nat))))->Q (.ref D) H')
theorem Yep {f o:Nat} (h:0<o):hal (f+1) o=(o / 2)::hal f (o / 2):=by rw [hal,if_neg (by omega)]
theorem Yeq (f:Nat):hal f 0=[]:=by cases f<;>rfl
theorem Z2n  (R:g.Raw "whole_steps" "whole_steps" yC ["low","value"]):g.Fn (1) "whole_steps" ["low","value"] (uI g.K):=by
 refine R.fn ZR (fun vs H Q E h=>by obtain ⟨lo,o,rfl,ho,q⟩:=h;rfl) fun f_ cdv A outer s H vs Q E hr h=>?_
 obtain ⟨lo,o,rfl,ho,q⟩:=h;refine ⟨_,(@Yf _ _ _ _ _ (@YA _ _ (2) _ _ _ _ ZR.nd rfl (.inl rfl) (@Yw _ _ _ _ Yc) (by rfl) (by first | exact .inl rfl | exact .inr rfl | assumption)) (@Yf _ _ _ _ _ (@YA _ _ (3) _ _ _ _ ZR.nd rfl (.inl rfl) (@YC _ _ _ _ _ _ _ _ WJ (pv 1) (pv 0)) (by rfl) (by first | exact .inl rfl | exact .inr rfl | assumption)) (@Yf _ _ _ _ _ (@Q8 _ _ _ _ _ _ bp (@Ys _ _ _ _ _ _ _ _ CW (pv 3) Yi (Yp _)) (@Yf _ _ _ _ _ (@YA _ _ (3) _ _ _ _ ZR.nd rfl (.inl rfl) (@YC _ _ _ _ _ _ _ _ Nr (pv 3) Yi) (by rfl) (by first | exact .inl rfl | exact .inr rfl | assumption)) (@Yg _ _ _ (@Y2 _ _ _ _ (@Xu _ _ _ _ _ _ _ _ _ _ _ _ bc be bn Y9 (pv 2) (@Ya _ _ _ _ _ (@YC _ _ _ _ _ _ _ _ Xa (pv 0) (pv 3)) Yc (by rfl)) (by rfl) (by rfl) (by rfl) (by rfl) (by rfl)) (by rfl))))) (@Yg _ _ _ (@Yl _ _ _ _ (@Eo _ _ _ _ _ _ _ (pv 2) (@Uh _ _ _ _ _ _ Vz Yi))))))),?_⟩;refine Yq fun R rr=>?_
 walk_at "rd";refine ⟨few (by decide),fun X gX=>rr _ _ (Yq fun R rr=>?_)⟩;have sX:=Yd.aj gX (.lst []);walk_at "rd";rw [show lo+(o:Int) - lo=o by omega];refine rr _ _ (Yq fun R rr=>?_);refine En (α:=Nat×Nat×List Nat) (fun a σ H'=>σ=[some (.int lo),some (.int (lo+o)),some (.ref X),some (.int (a.1:Nat))]/\a.1<2^a.2.1/\a.2.1<=20/\a.2.2.length+a.2.1=20/\hal 20 o=a.2.2++hal a.2.1 a.1/\SameBut X H H'/\H' X=some (.lst (a.2.2.map fun (i:Nat)=>V.int (lo+(i:Nat))))) (fun a=>decide (0<a.1)) (fun a=>a.1) (o,20,[]) ⟨rfl,(by omega:o<2^20),Φ 20,rfl,rfl,fun b u nb e=>by rw [Ye nb];exact e,Yb⟩ ?_ ?_ ?_
 ·rintro ⟨x,f,l⟩ σ H' ⟨rfl,h1,h2,h3,h4,sb,hX⟩ R r
  walk_at "rd";have:=r H' ⟨rfl,h1,h2,h3,h4,sb,hX⟩;rw [show decide (0<x)=decide ((0:Int)<(x:Int)) from decide_eq_decide.mpr (by omega)] at this
  exact this
 ·rintro ⟨x,f,l⟩ σ H' ⟨rfl,h1,h2,h3,h4,sb,hX⟩ hx
  have hx0:0<x:=of_decide_eq_true hx;clear hx;have hf:f≠0:=fun z=>by subst z;simp at h1;omega
  obtain ⟨f,rfl⟩:∃ f',f=f'+1:=⟨f - 1,by omega⟩;dsimp only at h1 h2 h3 h4 hX ⊢;rw [Yep hx0] at h4
  rw [Nat.pow_succ] at h1
  refine Yq fun R rr=>?_
  walk_at "rd";refine ⟨Nt (by decide) (by decide),rr _ _ ?_⟩;walk_at "rd";rw [show ((x:Nat):Int) / 2=((x / 2:Nat):Int) by omega];refine ⟨.inl ⟨rfl,_,ao.of hX⟩,_,hX,few (by simp;omega),?_⟩;refine ⟨(x / 2,f,l++[x / 2]),rfl,(by omega:x / 2<2^f),(by omega:f<=20),?_,?_,fun b u nb e=>by rw [Ye nb];exact sb b u nb e,?_,(by omega:x / 2<x)⟩
  ·show (l++[x / 2]).length+f=20
   rw [Ρ,aa];omega
  ·show hal 20 o=(l++[x / 2])++hal f (x / 2)
   rw [h4,List.append_assoc];rfl
  ·rw [Yb,af];rfl
 ·rintro ⟨x,f,l⟩ σ H' ⟨rfl,h1,h2,h3,h4,sb,hX⟩ hx
  have hx:x=0:=by have:=of_decide_eq_false hx;omega
  subst hx;refine rr _ _ ?_;walk_at "rd";rw [Yeq,db] at h4
  refine ⟨_,ao.of hX,fun Y gY=>q Y _ (fun b u e=>?_) ?_ ?_⟩
  ·rw [Ye (Yk (sb _ _ (Yk e gX) e) gY)]
   exact sb _ _ (Yk e gX) e
  ·cases e:H Y with
   | none=>rfl
   | some u=>rw [sb _ _ (Yk e gX) e] at gY;cases gY
  ·rw [Yb,cj,h4,List.map_reverse]
structure Nl (H H':Hp) (as:List Addr) (zs:List (List V)):Prop where
 len:as.length=zs.length
 nw:∀ a∈as,H a=none
 nd:as.Nodup
 at_:∀ (i:Nat) a z,as[i]?=some a->zs[i]?=some z->H' a=some (.lst z)
theorem Nl.snoc {H H' aF:Hp} {as:List Addr} {zs:List (List V)} {a:Addr} {z:List V} (h:Nl H H' as zs) (ha:H a=none) (ha':H' a=none) (hz:aF a=some (.lst z)) (k:∀ b∈as,∀ o,H' b=some o->aF b=some o):Nl H aF (as++[a]) (zs++[z]):=by
 have al:∀ b∈as,H' b≠none:=fun b hb=>by
  obtain ⟨i,hi⟩:=ek hb;have hl:=(Ι.mp hi).1;have e:zs[i]?=some (zs[i]'(by have:=h.len;omega)):=Η _;rw [h.at_ i b _ hi e];simp
 refine ⟨by rw [Ρ,Ρ,h.len];rfl,fun b hb=>?_,?_,fun i b y h1 h2=>?_⟩
 ·rcases ag.mp hb with hb | hb
  ·exact h.nw b hb
  ·cases ρ.mp hb;exact ha
 ·rw [i8]
  refine ⟨h.nd,by simp,fun x hx y hy=>?_⟩
  cases ρ.mp hy
  intro e;subst e;exact al x hx ha'
 ·by_cases c:i<as.length
  ·rw [ar c] at h1
   rw [ar (by have:=h.len;omega)] at h2
   exact k b (Τ h1) _ (h.at_ i b y h1 h2)
  ·have hi:i=as.length:=by
    have:=(Ι.mp h1).1;rw [Ρ,aa] at this
    omega
   subst hi;rw [aE (Φ _),iN] at h1
   rw [h.len,aE (Φ _),iN] at h2
   cases Θ h1
   cases Θ h2
   exact hz
inductive uJ (K:Λ) (vs:List V) (H:Hp) (Q:VK) (E_:XK):Prop
 | mk (x:V) (h0:vs=[x]) (h1:((∃ l:List Nat,x = .str (S l)/\l.length<=100/\∀ D H',Yd H H'->H D=none->H' D=some (.lst ((wo l).map fun z=>V.str (S z)))->Q (.ref D) H')\/∃ (T:Addr) (us:List V),x = .ref T/\H T=some (.lst us)/\us.length<=100/\∀ D as H',Yd H H'->H D=none->H' D=some (.lst (as.map V.ref))->Nl H H' as (wo us)->Q (.ref D) H'))
theorem Z2f  (R:g.Raw "without_each" "without_each" yD ["things"]) (aP:g.mg "len"=none) (Zv:g.mg "range"=none):g.Fn (1) "without_each" ["things"] (uJ g.K):=by
 refine R.fn TY (fun vs H Q E h=>by obtain ⟨x,rfl,h⟩:=h;rfl) fun f_ cdv A outer s H vs Q E hr h=>?_
 obtain ⟨x,rfl,h⟩:=h;refine ⟨_,(@Yg _ _ _ (@Yl _ _ _ _ (@Rp _ _ _ _ (@XC _ _ _ _ _ _ _ ([none,some 0]) ((["place","things"]:List Str)) _ (YF 0) _ _ (.own (.cap (i:=0) rfl rfl (by first | exact .inl rfl | exact .inr rfl) .nil)) rfl (@WV _ _ _ _ _ _ rfl Zv (@Ya _ _ _ _ _ (@YN _ _ _ _ _ _ _ _ _ _ aP Y6 (@Ya _ _ _ _ _ (pv 0) Yc (by rfl)) (by decide +kernel) (by rfl) (by rfl) (by decide) (by decide) (by rfl) (by rfl)) Yc (by rfl)) (by rfl)) (fun cl C s₀ H₀ fp pn=>(@YB _ _ (0) _ (show cr (["place","things"]:List Str) by decide +kernel) rfl (.inl rfl) (.inr rfl))) (fun cl C s₀ H₀ fp pn=>Xj) (fun cl C s₀ H₀ fp pn=>(@YC _ _ _ _ _ _ _ _ Wt (@XB _ _ _ _ _ _ _ _ _ _ (Vn (K:=g.K)) (pv 1) XR (@XS _ _ _ (pv 0))) (@XB _ _ _ _ _ _ _ _ _ _ (Vn (K:=g.K)) (pv 1) (@XS _ _ _ (@YC _ _ _ _ _ _ _ _ Xa (pv 0) Yi)) XR))) (by intro x hx;simp at hx;first | (subst hx;exact .inl rfl) | (rcases hx with rfl | rfl<;>exact .inl rfl) | (rcases hx with rfl | rfl | rfl<;>exact .inl rfl) | (rcases hx with rfl | rfl | rfl | rfl<;>exact .inl rfl) | (rcases hx with rfl | rfl | rfl | rfl | rfl<;>exact .inl rfl)) (by rfl) (by decide) (by decide +kernel) (by intro _;rfl)) (@XC _ _ _ _ _ _ _ ([none,some 0]) ((["place","things"]:List Str)) _ (YF 0) _ _ (.own (.cap (i:=0) rfl rfl (by first | exact .inl rfl | exact .inr rfl) .nil)) rfl (@WV _ _ _ _ _ _ rfl Zv (@Ya _ _ _ _ _ (@YN _ _ _ _ _ _ _ _ _ _ aP VA (@Ya _ _ _ _ _ (pv 0) Yc (by rfl)) (by decide +kernel) (by rfl) (by rfl) (by decide) (by decide) (by rfl) (by rfl)) Yc (by rfl)) (by rfl)) (fun cl C s₀ H₀ fp pn=>(@YB _ _ (0) _ (show cr (["place","things"]:List Str) by decide +kernel) rfl (.inl rfl) (.inr rfl))) (fun cl C s₀ H₀ fp pn=>Xj) (fun cl C s₀ H₀ fp pn=>(@YC _ _ _ _ _ _ _ _ Uj (@XB _ _ _ _ _ _ _ _ _ _ DK (pv 1) XR (@XS _ _ _ (pv 0))) (@XB _ _ _ _ _ _ _ _ _ _ DK (pv 1) (@XS _ _ _ (@YC _ _ _ _ _ _ _ _ Xa (pv 0) Yi)) XR))) (by intro x hx;simp at hx;first | (subst hx;exact .inl rfl) | (rcases hx with rfl | rfl<;>exact .inl rfl) | (rcases hx with rfl | rfl | rfl<;>exact .inl rfl) | (rcases hx with rfl | rfl | rfl | rfl<;>exact .inl rfl) | (rcases hx with rfl | rfl | rfl | rfl | rfl<;>exact .inl rfl)) (by rfl) (by decide) (by decide +kernel) (by intro _;rfl))))),?_⟩;rcases h with ⟨l,rfl,hl,q⟩ | ⟨T,us,rfl,hT,hl,q⟩
 ·walk_at "rd"
  refine .inr (Vo (n:=l.length) (fun D i zs H'=>zs=((bj i).map fun i=>V.str (S (l.take i++l.drop (i+1))))/\H' D=some (.lst zs)/\Yd H H') (fun R r=>?_) (by omega) ?_ ?_ ?_ ?_)
  ·walk_at "rd"
   have e:(S l).length=l.length:=XV l;rw [e];exact ⟨few (by omega),r⟩
  ·intro D hD
   exact ⟨rfl,Yb,.aj hD _⟩
  ·rintro D i zs H' ⟨rfl,h1,_⟩
   exact ⟨by simp,h1⟩
  ·rintro D i zs H' hD hi ⟨rfl,hd,sm⟩ R r
   walk_at "rd";refine ⟨_,rfl,by rw [XV];exact few (by omega),?_⟩;rw [Nk];refine ⟨_,rfl,by rw [XV];exact few (by omega),?_⟩;rw [show (i:Int)+1=((i+1:Nat):Int) by omega,Nj];refine ⟨_,rfl,_,rfl,few (by rw [XV,XV,ba,bb];omega),?_⟩;rw [QU];refine r _ H' hd ⟨?_,Yb,.bC hD sm _⟩;rw [eT,af];rfl
  ·rintro D zs H' hD ⟨rfl,hd,sm⟩
   refine q D H' sm hD ?_;rw [hd,wo,d3];rfl
 walk_at "rd";refine .inl ?_;refine Vo (n:=us.length) (fun D i zs H'=>∃ as:List Addr,zs=as.map V.ref/\as.length=i/\H' D=some (.lst zs)/\Yd H H'/\D∉as/\Nl H H' as ((bj i).map fun i=>us.take i++us.drop (i+1))) (fun R r=>?_) (by omega) ?_ ?_ ?_ ?_
 ·walk_at "rd"
  exact ⟨_,.inl (ao.of hT),r⟩
 ·intro D hD
  exact ⟨[],rfl,rfl,Yb,.aj hD _,by simp,⟨rfl,(fun a h=>by cases h),kL,fun i a z h=>by cases h⟩⟩
 ·rintro D i zs H' ⟨as,rfl,h1,h2,_⟩
  exact ⟨by rw [Ζ,h1],h2⟩
 ·rintro D i zs H' hD hi ⟨as,rfl,hal,hd,sm,lF,nl⟩ R r
  walk_at "rd";refine ⟨_,ao.of (sm _ _ hT),fun X gX=>?_⟩;rw [Em];have sX:=Yd.aj gX (.lst (us.take i));refine ⟨_,ao.of (sX _ _ (sm _ _ hT)),fun Y gY=>?_⟩;rw [show (i:Int)+1=((i+1:Nat):Int) by omega,VP];have sY:=Yd.aj gY (.lst (us.drop (i+1)));refine ⟨_,sY _ _ Yb,_,Yb,few (by simp;omega),fun Z gZ=>?_⟩;have sZ:=Yd.aj gZ (.lst (us.take i++us.drop (i+1)));have s3:=(sX.trans sY).trans sZ;have yX:H' Z=none:=(sX.trans sY).free gZ;have pP:Z≠D:=ah (Yk hd yX);refine r _ _ (s3 _ _ hd) ⟨as++[Z],by rw [af];rfl,by rw [Ρ,hal];rfl,Yb,.bC hD (sm.trans s3) _,fun h=>?_,?_⟩
  ·rcases ag.mp h with h | h
   ·exact lF h
   ·exact pP (ρ.mp h).symm
  ·rw [eT,af]
   refine nl.snoc (sm.free yX) yX (by rw [Ye pP,Yb]) (fun b hb o e=>?_);rw [Ye fun z=>lF (by rw [<- z];exact hb)];exact s3 _ _ e
 ·rintro D zs H' hD ⟨as,rfl,hal,hd,sm,lF,nl⟩
  exact q D as H' sm hD hd nl
section
 variable {src:List (Option Nat)} {te:TE} {σ:St} {H:Hp} {Q:VK}
theorem Yer {K:Λ} {tl:TE} {b:Addr} {xs:List V} (zs:List (List V)) (ha:∀ R:V->Hp->Prop,R (.ref b) H->tl σ H R) (hS:H b=some (.lst xs)) (hz:zs.length=xs.length) (hlen:xs.length<=100000)
  (step:∀ (i:Nat) x z H',xs[i]?=some x->zs[i]?=some z->Yd H H'->∀ R:VK,(∀ a aF,Yd H' aF->H' a=none->aF a=some (.lst z)->R (.ref a) aF)->te (some x::YG src σ) H' R)
  (fin:∀ D as H',Yd H H'->H D=none->H' D=some (.lst (as.map V.ref))->Nl H H' as zs->Q (.ref D) H'):eX (none::src) (Wc K tl) (YF 0) Xy te σ H Q:=by
 refine R0 (b:=b) (fun D i ys H'=>∃ as:List Addr,ys=as.map V.ref/\as.length=i/\H' D=some (.lst ys)/\Yd H H'/\D∉as/\Nl H H' as (zs.take i)) ha (ao.of hS) hlen ?_ ?_ ?_ ?_
 ·intro D hD
  exact ⟨[],rfl,rfl,Yb,.aj hD _,by simp,⟨by simp,(fun a h=>by cases h),kL,fun i a z h=>by cases h⟩⟩
 ·rintro D i ys H' hD ⟨as,rfl,h1,h2,sm,_⟩
  exact ⟨by rw [Ζ,h1],h2,ao.of (sm _ _ hS)⟩
 ·rintro D i x ys H' hD hx ⟨as,rfl,hal,hd,sm,lF,nl⟩ R r
  have hi:=(Ι.mp hx).1;have G5:zs[i]?=some (zs[i]'(by omega)):=Η _;refine step i x _ H' hx G5 sm R fun Z aF s2 gZ hZ=>?_
  have pP:Z≠D:=ah (Yk hd gZ);refine r _ _ (s2 _ _ hd) ⟨as++[Z],by rw [af];rfl,by rw [Ρ,hal];rfl,Yb,.bC hD (sm.trans s2) _,fun h=>?_,?_⟩
  ·rcases ag.mp h with h | h
   ·exact lF h
   ·exact pP (ρ.mp h).symm
  ·rw [XA G5]
   refine nl.snoc (sm.free gZ) gZ (by rw [Ye pP];exact hZ) (fun b hb o e=>?_);rw [Ye fun z=>lF (by rw [<- z];exact hb)];exact s2 _ _ e
 ·rintro D ys H' hD ⟨as,rfl,hal,hd,sm,lF,nl⟩
  rw [<- hz,fq] at nl
  exact fin D as H' sm hD hd nl
end
def yZ (H:Hp) (is_:List Addr) (ss:List (List V)):Prop:=is_.length=ss.length/\∀ (i:Nat) a s,is_[i]?=some a->ss[i]?=some s->H a=some (.lst s)
inductive pQ (K:Λ) (vs:List V) (H:Hp) (Q:VK) (E_:XK):Prop
 | mk (T I:Addr) (us:List V) (is_:List Addr) (ss:List (List V)) (h0:vs=[.ref T,.ref I]) (h1:H T=some (.lst us)) (h2:us.length<=100) (h3:H I=some (.lst (is_.map V.ref))) (h4:is_.length<=100) (h5:yZ H is_ ss) (h6:(∃ M,(∀ s∈ss,s.length<=M)/\M*is_.length<=30000)) (h7:∀ D as H',Yd H H'->H D=none->H' D=some (.lst (as.map V.ref))->D∉as->Nl H H' as (wi us ss)->Q (.ref D) H')
theorem Q0 {α:Type} {M:Nat} {us:List α} {ss:List (List α)} (h:∀ s∈ss,s.length<=M):∀ i≤ss.length,(((bj i).map fun i=>(ss.getD i []).map fun s=>us.take i++[s]++us.drop (i+1)).flatten).length<=M*i
 | 0,_=>by simp
 | i+1,hi=>by
  have ih:=Q0 (us:=us) h i (by omega);rw [eT,af,List.flatten_append,Ρ];have:(ss.getD i []).length<=M:=by
   rw [cK,Η (by omega)];exact h _ (List.getElem_mem _)
  simp only [ae,dS,List.flatten_cons,List.flatten_nil,db,Ζ];rw [Nat.mul_succ];omega
theorem Nl.app {H H1 H':Hp} {as bs:List Addr} {zs ys:List (List V)} (h:Nl H H1 as zs) (h2:Nl H1 H' bs ys) (al:∀ a∈as,H1 a≠none) (f:∀ x,H1 x=none->H x=none) (k:∀ a∈as,∀ o,H1 a=some o->H' a=some o):Nl H H' (as++bs) (zs++ys):=by
 refine ⟨by rw [Ρ,Ρ,h.len,h2.len],fun a ha=>?_,?_,fun i a z e1 e2=>?_⟩
 ·rcases ag.mp ha with ha | ha
  ·exact h.nw a ha
  ·exact f a (h2.nw a ha)
 ·rw [i8]
  refine ⟨h.nd,h2.nd,fun x hx y hy e=>?_⟩;subst e;exact al x hx (h2.nw x hy)
 ·by_cases c:i<as.length
  ·rw [ar c] at e1
   rw [ar (by have:=h.len;omega)] at e2
   exact k a (Τ e1) _ (h.at_ i a z e1 e2)
  ·rw [aE (by omega)] at e1
   rw [aE (by have:=h.len;omega),<- h.len] at e2
   exact h2.at_ _ a z e1 e2
theorem Z1U  (R:g.Raw "with_each_step" "with_each_step" yE ["things","inner"]) (Zs:g.mg "enumerate"=none):g.Fn (1) "with_each_step" ["things","inner"] (pQ g.K):=by
 refine R.fn ZA (fun vs H Q E h=>by obtain ⟨T,I,us,is_,ss,rfl,hT,hul,hI,hil,hss,⟨M,hsl,hM⟩,q⟩:=h;rfl) fun f_ cdv A outer s H vs Q E hr h=>?_
 obtain ⟨T,I,us,is_,ss,rfl,hT,hul,hI,hil,hss,⟨M,hsl,hM⟩,q⟩:=h;refine ⟨_,(@Yf _ _ _ _ _ (@YA _ _ (2) _ _ _ _ ZA.nd rfl (.inl rfl) (@Yw _ _ _ _ Yc) (by rfl) (by first | exact .inl rfl | exact .inr rfl | assumption)) (@Yf _ _ _ _ _ (@XE _ _ _ _ _ _ _ _ bp rfl (@Nx _ _ _ _ _ _ _ _ rfl Zs (@Ya _ _ _ _ _ (pv 1) Yc (by rfl)) (by rfl)) (@Wq _ _ _ _ _ (2) rfl (@YX _ _ _ _ _ (@YB _ _ (3) _ ZA.nd rfl (.inr rfl) (by first | exact .inl rfl | exact .inr rfl | assumption)) (@YX _ _ _ _ _ (@YB _ _ (4) _ ZA.nd rfl (.inl rfl) (by first | exact .inl rfl | exact .inr rfl | assumption)) X4 (by rfl)) (by rfl)) (by rfl) (by rfl)) (@Yg _ _ _ (@Y2 _ _ _ _ (@Xu _ _ _ _ _ _ _ _ _ _ _ _ PySem.F.plainAttrs_list PySem.F.slot_list_extend PySem.F.type_list_extend VB (pv 2) (@Ya _ _ _ _ _ (@XC _ _ _ _ _ _ _ ([none,some 0,some 3]) ((["step","things","place"]:List Str)) _ (YF 0) _ _ (.own (.cap (i:=0) rfl rfl (by first | exact .inl rfl | exact .inr rfl) (.cap (i:=3) rfl rfl (by first | exact .inl rfl | exact .inr rfl) .nil))) rfl (@Xg _ _ _ _ (pv 4)) (fun cl C s₀ H₀ fp pn=>(@YB _ _ (0) _ (show cr (["step","things","place"]:List Str) by decide +kernel) rfl (.inl rfl) (.inr rfl))) (fun cl C s₀ H₀ fp pn=>Xj) (fun cl C s₀ H₀ fp pn=>(@YC _ _ _ _ _ _ _ _ Wt (@YC _ _ _ _ _ _ _ _ Wt (@XB _ _ _ _ _ _ _ _ _ _ (Vn (K:=g.K)) (pv 1) XR (@XS _ _ _ (pv 2))) (@Yw _ _ _ _ (@Ya _ _ _ _ _ (pv 0) Yc (by rfl)))) (@XB _ _ _ _ _ _ _ _ _ _ (Vn (K:=g.K)) (pv 1) (@XS _ _ _ (@YC _ _ _ _ _ _ _ _ Xa (pv 2) Yi)) XR))) (by intro x hx;simp at hx;first | (subst hx;exact .inl rfl) | (rcases hx with rfl | rfl<;>exact .inl rfl) | (rcases hx with rfl | rfl | rfl<;>exact .inl rfl) | (rcases hx with rfl | rfl | rfl | rfl<;>exact .inl rfl) | (rcases hx with rfl | rfl | rfl | rfl | rfl<;>exact .inl rfl)) (by rfl) (by decide) (by decide +kernel) (by intro _;rfl)) Yc (by rfl)) (by rfl) (by rfl) (by rfl) (by rfl) (by rfl)) (by rfl))) (by intro _;rfl)) (@Yg _ _ _ (@Yl _ _ _ _ (pv 2))))),?_⟩;refine Yq fun R rr=>?_
 walk_at "rd";refine ⟨few (by decide),fun C gC=>rr _ _ (Yq fun R rr=>?_)⟩;have sC:=Yd.aj gC (.lst []);refine Rq (K:=g.K) (a:=I) (xs:=is_.map V.ref) (fun i σ H'=>∃ (o3 o4:Option V) (as:List Addr),σ=[some (.ref T),some (.ref I),some (.ref C),o3,o4]/\SameBut C H H'/\H' C=some (.lst (as.map V.ref))/\C∉as/\Nl H H' as (((bj i).map fun i=>(ss.getD i []).map fun s=>us.take i++[s]++us.drop (i+1)).flatten)) (fun R r=>by walk_at "rd";exact r) ⟨none,none,[],rfl,fun b o nb e=>sC _ _ e,Yb,by simp,⟨rfl,(fun a h=>by cases h),kL,fun i a z h=>by cases h⟩⟩ (fun i σ H' _ ⟨_,_,_,_,sb,_,_,_⟩=>ao.of (sb _ _ (Yk hI gC) hI)) ?_ ?_
 ·rintro i x σ H' Z hx ⟨o3,o4,as,rfl,sb,hC,uK,nl⟩ gZ
  rw [Ξ] at hx
  obtain ⟨ii,G6,rfl⟩:=ο.mp hx;have hi:=(Ι.mp G6).1;have hsi:ss[i]?=some (ss[i]'(by have:=hss.1;omega)):=Η _;generalize ss[i]'(by have:=hss.1;omega)=sl at hsi;have aco:=hsl _ (Τ hsi);have his:=hss.2 i ii sl G6 hsi;have sZ:=Yd.aj gZ (.tup [.int (i:Int),.ref ii]);refine ⟨Z,_,rfl,aA.of Yb,rfl,_,_,rfl,_,_,rfl,rfl,?_⟩;walk_at "rd";have hT1:=sZ _ _ (sb _ _ (Yk hT gC) hT);have lG:=sZ _ _ hC;have za:SameBut C H (upd H' Z (.tup [.int (i:Int),.ref ii])):=fun b o nb e=>sZ _ _ (sb b o nb e)
  have gH:Nl H (upd H' Z (.tup [.int (i:Int),.ref ii])) as _:=⟨nl.len,nl.nw,nl.nd,fun j a z e1 e2=>sZ _ _ (nl.at_ j a z e1 e2)⟩;have hll:=Q0 (us:=us) hsl i (by have:=hss.1;omega);rw [<- nl.len] at hll
  have hMi:M*i+M<=M*is_.length:=by rw [<- Nat.mul_succ];exact Nat.mul_le_mul_left M (by omega)
  have zf:=sZ _ _ (sb _ _ (Yk his gC) his);generalize upd H' Z (.tup [.int (i:Int),.ref ii])=H1 at sZ hT1 lG za gH zf;refine ⟨.inl ⟨rfl,_,ao.of lG⟩,?_⟩;refine Yer (K:=g.K) (b:=ii) (xs:=sl) (sl.map fun s=>us.take i++[s]++us.drop (i+1)) (fun R r=>by walk_at "rd";exact r) zf (by simp) (by omega) ?_ ?_
  ·intro j y z H2 hy hz sm R r
   rw [Ξ,hy] at hz
   cases Θ hz
   walk_at "rd";refine ⟨_,ao.of (sm _ _ hT1),fun X gX=>?_⟩;rw [Em];have sX:=Yd.aj gX (.lst (us.take i));refine ⟨few (by decide),fun Y gY=>?_⟩;have sY:=Yd.aj gY (.lst [y]);refine ⟨_,sY _ _ Yb,_,Yb,few (by simp;omega),fun W gW=>?_⟩;have sW:=Yd.aj gW (.lst (us.take i++[y]));refine ⟨_,ao.of (sW _ _ (sY _ _ (sX _ _ (sm _ _ hT1)))),fun X2 gX2=>?_⟩;rw [show (i:Int)+1=((i+1:Nat):Int) by omega,VP];have G7:=Yd.aj gX2 (.lst (us.drop (i+1)));refine ⟨_,G7 _ _ Yb,_,Yb,few (by simp;omega),fun A gA=>?_⟩;have s5:=((sX.trans sY).trans sW).trans G7;exact r A _ (s5.trans (.aj gA _)) (s5.free gA) Yb
  ·intro D bs H2 sm gD hD eN
   have hC2:=sm _ _ lG;have nCD:C≠D:=Yk lG gD;refine ⟨C,D,_,_,rfl,rfl,hC2,hD,few (by have:=eN.len;simp at this;simp;omega),fun b o nb e=>by rw [Ye nb];exact sm _ _ (za b o nb e),as++bs,by rw [Yb,af],?_,?_⟩
   ·intro h
    rcases ag.mp h with h | h
    ·exact uK h
    ·have:=eN.nw C h;rw [lG] at this;cases this
   ·rw [eT,af,List.flatten_append]
    have e0:ss.getD i []=sl:=by rw [cK,hsi];rfl
    simp only [ae,dS,List.flatten_cons,List.flatten_nil,db,e0];have alv:∀ a∈as,H1 a≠none:=fun a ha=>by
     obtain ⟨j,hj⟩:=ek ha;have e:=(Ι.mp hj).1;have hz:(((bj i).map fun i=>(ss.getD i []).map fun s=>us.take i++[s]++us.drop (i+1)).flatten)[j]?=some ((((bj i).map fun i=>(ss.getD i []).map fun s=>us.take i++[s]++us.drop (i+1)).flatten)[j]'(by rw [<- gH.len];exact e)):=Η _;rw [gH.at_ j a _ hj hz];simp
    have hb:∀ b∈bs,b≠C:=fun b hb z=>by have:=eN.nw b hb;rw [z,lG] at this;cases this
    refine gH.app ⟨eN.len,eN.nw,eN.nd,fun j a z e1 e2=>by rw [Ye (hb a (Τ e1))];exact eN.at_ j a z e1 e2⟩ alv (fun x gx=>?_) (fun a ha o e=>by rw [Ye fun z=>uK (by rw [<- z];exact ha)];exact sm _ _ e)
    cases e:H x with
    | none=>rfl
    | some o =>
     by_cases c:x=C
     ·rw [c,lG] at gx;cases gx
     ·rw [za x o c e] at gx;cases gx
 ·rintro σ H' ⟨o3,o4,as,rfl,sb,hC,uK,nl⟩
  refine rr _ _ ?_;walk_at "rd";rw [Ζ,hss.1] at nl
  exact q C as H' (fun b o e=>sb b o (Yk e gC) e) gC hC uK nl
inductive Cz (N:Addr->Prop) (H H':Hp):Nat->Nat->V->V->Prop
 | non (k n:Nat):Cz N H H' k (n+1) .non .non
 | bl (k n:Nat) (b:Bool):Cz N H H' k (n+1) (.bl b) (.bl b)
 | int (k n:Nat) (i:Int):Cz N H H' k (n+1) (.int i) (.int i)
 | str (k n:Nat) (z:Str) (h:dq z=true):Cz N H H' k (n+1) (.str z) (.str z)
 | cg (k n:Nat) (a:Addr) (h:H a=some (.dK [])):Cz N H H' (k+1) (n+1) (.ref a) (.ref a)
 | tup (k n:Nat) (a b:Addr) (us us':List V) (ha:H a=some (.tup us)) (nb:N b) (hb:H' b=some (.tup us')) (hl:us.length=us'.length) (l:us.length<=100) (kk:∀ (i:Nat) u u',us[i]?=some u->us'[i]?=some u'->Cz N H H' 0 n u u'):Cz N H H' k (n+1) (.ref a) (.ref b)
 | lst (k n:Nat) (a b:Addr) (us us':List V) (ha:H a=some (.lst us)) (nb:N b) (hb:H' b=some (.lst us')) (hl:us.length=us'.length) (l:us.length<=100) (kk:∀ (i:Nat) u u',us[i]?=some u->us'[i]?=some u'->Cz N H H' (k - 1) n u u'):Cz N H H' k (n+1) (.ref a) (.ref b)
theorem Cz.map {N N':Addr->Prop} {H Ha H' Hb:Hp} (k1:Kt H Ha) (e:∀ b o,N b->(∀ ps,o ≠ .aH ps)->H' b=some o->N' b/\Hb b=some o) {k n:Nat} {v v':V} (h:Cz N H H' k n v v'):Cz N' Ha Hb k n v v':=by
 induction h with
 | non k n=>exact .non k n
 | bl k n b=>exact .bl k n b
 | int k n i=>exact .int k n i
 | str k n z h=>exact .str k n z h
 | cg k n a h=>exact .cg k n a (VH k1 h)
 | tup k n a b us us' ha nb hb hl l _ ih =>
  have:=e b _ nb (by intro ps z;cases z) hb;exact .tup k n a b us us' (k1.tup ha) this.1 this.2 hl l ih
 | lst k n a b us us' ha nb hb hl l _ ih =>
  have:=e b _ nb (by intro ps z;cases z) hb;exact .lst k n a b us us' (k1.lst ha) this.1 this.2 hl l ih
theorem Cz.kt {N:Addr->Prop} {H Ha H' Hb:Hp} (k1:Kt H Ha) (k2:Kt H' Hb) {k n:Nat} {v v':V} (h:Cz N H H' k n v v'):Cz (fun _=>True) Ha Hb k n v v':=h.map k1 fun b o _ n e=>⟨trivial,k2 b o n e⟩
abbrev cI (H:Hp) (k n:Nat) (v:V):Prop:=Cz (fun _=>True) H H k n v v
theorem cI.kt {H H':Hp} (k1:Kt H H') {k n:Nat} {v:V} (h:cI H k n v):cI H' k n v:=Cz.kt k1 k1 h
theorem Cz.back {N:Addr->Prop} {H H' H2:Hp} (s:Yd H H') {k n:Nat} {v v':V} (h:Cz N H' H2 k n v v'):cI H k n v->Cz N H H2 k n v v':=by
 induction h with
 | non k n=>exact fun _ => .non k n
 | bl k n b=>exact fun _ => .bl k n b
 | int k n i=>exact fun _ => .int k n i
 | str k n z h=>exact fun _ => .str k n z h
 | cg k n a h =>
  intro c
  cases c with
  | cg _ _ _ h'=>exact .cg k n a h'
  | tup _ _ _ _ us us' ha=>rw [s _ _ ha] at h;cases h
  | lst _ _ _ _ us us' ha=>rw [s _ _ ha] at h;cases h
 | tup k n a b us us' ha nb hb hl l _ ih =>
  intro c
  cases c with
  | cg _ _ _ h'=>rw [s _ _ h'] at ha;cases ha
  | tup _ _ _ _ ws ws' ha' _ hb' _ _ kk =>
   rw [s _ _ ha'] at ha
   cases HO.tup.inj (Θ ha)
   rw [ha'] at hb'
   cases HO.tup.inj (Θ hb')
   exact .tup k n a b _ us' ha' nb hb hl l fun i u u' e1 e2=>ih i u u' e1 e2 (kk i u u e1 e1)
  | lst _ _ _ _ ws ws' ha'=>rw [s _ _ ha'] at ha;cases ha
 | lst k n a b us us' ha nb hb hl l _ ih =>
  intro c
  cases c with
  | cg _ _ _ h'=>rw [s _ _ h'] at ha;cases ha
  | tup _ _ _ _ ws ws' ha'=>rw [s _ _ ha'] at ha;cases ha
  | lst _ _ _ _ ws ws' ha' _ hb' _ _ kk =>
   rw [s _ _ ha'] at ha
   cases HO.lst.inj (Θ ha)
   rw [ha'] at hb'
   cases HO.lst.inj (Θ hb')
   exact .lst k n a b _ us' ha' nb hb hl l fun i u u' e1 e2=>ih i u u' e1 e2 (kk i u u e1 e1)
theorem U9 {K:Λ} {H:Hp} {m:Nat}:∀ {us us':List V},us.length=us'.length->(∀ (i:Nat) u u',us[i]?=some u->us'[i]?=some u'->∃ d,Den K H u d/\Den K H u' d/\d.depth<=m/\d.eqv d=true)->∃ ds,cV K H us ds/\cV K H us' ds/\ap ds<=m/\e7 ds ds=true
 | [],[],_,_=>⟨[],.nil,.nil,by simp [ap],by simp [e7]⟩
 | u::us,u'::us',hl,k=>by
  obtain ⟨d,h1,h2,h3,h4⟩:=k 0 u u' rfl rfl;obtain ⟨ds,g1,g2,g3,g4⟩:=U9 (us:=us) (us':=us') (kx hl) fun i u u' e1 e2=>k (i+1) u u' e1 e2
  exact ⟨d::ds,.cons h1 g1,.cons h2 g2,by simp only [ap];omega,by rw [e7,h4,g4];rfl⟩
 | [],_::_,h,_=>by cases h
 | _::_,[],h,_=>by cases h
theorem Cz.den {K:Λ} {N:Addr->Prop} {H:Hp} {k n:Nat} {v v':V} (h:Cz N H H k n v v'):k=0->∃ d,Den K H v d/\Den K H v' d/\d.depth<=n/\d.eqv d=true:=by
 induction h with
 | non k n=>exact fun _=>⟨_,.non,.non,by simp [df],rfl⟩
 | bl k n b=>exact fun _=>⟨_,.bl b,.bl b,by simp [df],by simp [bi]⟩
 | int k n i=>exact fun _=>⟨_,.int i,.int i,by simp [df],by simp [bi]⟩
 | str k n z h=>exact fun _=>⟨_,.str z h,.str z h,by simp [df],by simp [bi]⟩
 | cg k n a h=>exact fun z=>by cases z
 | tup k n a b us us' ha nb hb hl l _ ih =>
  intro _;obtain ⟨ds,h1,h2,h3,h4⟩:=U9 (m:=n) hl fun i u u' e1 e2=>ih i u u' e1 e2 rfl
  exact ⟨_,.tup (aA.of ha) h1,.tup (aA.of hb) h2,by rw [df];omega,by rw [bi];exact h4⟩
 | lst k n a b us us' ha nb hb hl l _ ih =>
  intro hk;obtain ⟨ds,h1,h2,h3,h4⟩:=U9 (m:=n) hl fun i u u' e1 e2=>ih i u u' e1 e2 (by omega)
  exact ⟨_,.lst (ao.of ha) h1,.lst (ao.of hb) h2,by rw [df];omega,by rw [bi];exact h4⟩
theorem Cz.el {K:Λ} {N:Addr->Prop} {H:Hp} {n:Nat} {v v':V} (h:Cz N H H 1 n v v') (hn:n<=60):ji K H v v':=by
 have den:Cz N H H 0 n v v'->ji K H v v':=fun h=>by
  obtain ⟨d,h1,h2,h3,h4⟩:=h.den (K:=K) rfl;exact .den h1 h2 (by omega) h4
 cases h with
 | non _ n=>exact den (.non _ n)
 | bl _ n b=>exact den (.bl _ n b)
 | int _ n i=>exact den (.int _ n i)
 | str _ n z h=>exact den (.str _ n z h)
 | cg _ n a h=>exact .one a
 | tup _ n a b us us' ha nb hb hl l kk=>exact den (.tup _ n a b us us' ha nb hb hl l kk)
 | lst _ n a b us us' ha nb hb hl l kk=>exact den (.lst _ n a b us us' ha nb hb hl l kk)
theorem Cz.sam {K:Λ} {N:Addr->Prop} {H:Hp} {n:Nat} {v v':V} (h:Cz N H H 2 n v v') (hn:n<=60):mK K H v v':=by
 have den:Cz N H H 0 n v v'->mK K H v v':=fun h=>by
  obtain ⟨d,h1,h2,h3,h4⟩:=h.den (K:=K) rfl;exact .den h1 h2 (by omega) h4
 cases h with
 | non _ n=>exact den (.non _ n)
 | bl _ n b=>exact den (.bl _ n b)
 | int _ n i=>exact den (.int _ n i)
 | str _ n z h=>exact den (.str _ n z h)
 | cg _ n a h=>exact .cg a h
 | tup _ n a b us us' ha nb hb hl l kk=>exact den (.tup _ n a b us us' ha nb hb hl l kk)
 | lst _ n a b us us' ha nb hb hl l kk=>exact .lst (ao.of ha) (ao.of hb) hl fun i x y e1 e2=>(kk i x y e1 e2).el (by omega)
inductive ig (m:Nat) (vs:List V) (H:Hp) (Q:VK) (E_:XK):Prop
 | mk (v:V) (h0:vs=[v]) (h1:cI H 0 m v) (h2:∀ v' H',Yd H H'->Cz (fun b=>H b=none) H H' 0 m v v'->Q v' H')
theorem Yds {vs:List V} {H:Hp} {Q:VK} {E:XK} (h:ig 0 vs H Q E):False:=by
 obtain ⟨v,_,h,_⟩:=h
 cases h
theorem uL {k:Nat}  (R:g.Raw "copied" "copied" Ue ["thing"]) (ZN:g.Fn k "copied" ["thing"] (ig m)) (dz:g.mg "dict"=none) (Z3:g.mg "isinstance"=none) (aW:g.mg "list"=none) (Z8:g.mg "tuple"=none):g.Fn (k+1) "copied" ["thing"] (ig (m+1)):=by
 refine R.fn Tv (fun vs H Q E h=>by obtain ⟨v,rfl,hv,q⟩:=h;rfl) fun f_ cdv A outer s H vs Q E hr h=>?_
 obtain ⟨v,rfl,hv,q⟩:=h;refine ⟨_,(@Yf _ _ _ _ _ (@YE _ _ _ _ _ _ _ _ (@Y8 _ _ _ (@YN _ _ _ _ _ _ _ _ _ _ Z3 Y1 (@Ya _ _ _ _ _ (pv 0) (@Ya _ _ _ _ _ (@XU _ _ _ _ ("list") aW (by decide +kernel) (by rfl) (by rfl) (by decide) (by decide)) Yc (by rfl)) (by rfl)) (by decide +kernel) (by rfl) (by rfl) (by decide) (by decide) (by rfl) (by rfl)) (by intro _;rfl)) (@Yg _ _ _ (@Yl _ _ _ _ (@XC _ _ _ _ _ _ _ ([none]) ((["each"]:List Str)) _ (YF 0) _ _ (.own .nil) rfl (@Xg _ _ _ _ (pv 0)) (fun cl C s₀ H₀ fp pn=>(@YB _ _ (0) _ (show cr (["each"]:List Str) by decide +kernel) rfl (.inl rfl) (.inr rfl))) (fun cl C s₀ H₀ fp pn=>Xj) (fun cl C s₀ H₀ fp pn=>(@Yz _ _ _ _ _ _ _ _ _ _ _ _ ZN hr (@Ya _ _ _ _ _ (pv 0) Yc (by rfl)) (by omega) (by rfl) (by rfl) (by decide) (by rfl) (by rfl))) (by intro x hx;simp at hx) (by rfl) (by decide) (by decide +kernel) (by intro _;rfl)))) Yr) (@Yf _ _ _ _ _ (@YE _ _ _ _ _ _ _ _ (@Y8 _ _ _ (@YN _ _ _ _ _ _ _ _ _ _ Z3 Y1 (@Ya _ _ _ _ _ (pv 0) (@Ya _ _ _ _ _ (@XU _ _ _ _ ("tuple") Z8 (by decide +kernel) (by rfl) (by rfl) (by decide) (by decide)) Yc (by rfl)) (by rfl)) (by decide +kernel) (by rfl) (by rfl) (by decide) (by decide) (by rfl) (by rfl)) (by intro _;rfl)) (@Yg _ _ _ (@Yl _ _ _ _ (@Vm _ _ _ _ _ _ _ _ _ _ Z8 Xs (@Ya _ _ _ _ _ (@XC _ _ _ _ _ _ _ ([none]) ((["each"]:List Str)) _ (YF 0) _ _ (.own .nil) rfl (@Cu _ _ _ _ (pv 0)) (fun cl C s₀ H₀ fp pn=>(@YB _ _ (0) _ (show cr (["each"]:List Str) by decide +kernel) rfl (.inl rfl) (.inr rfl))) (fun cl C s₀ H₀ fp pn=>Xj) (fun cl C s₀ H₀ fp pn=>(@Yz _ _ _ _ _ _ _ _ _ _ _ _ ZN hr (@Ya _ _ _ _ _ (pv 0) Yc (by rfl)) (by omega) (by rfl) (by rfl) (by decide) (by rfl) (by rfl))) (by intro x hx;simp at hx) (by rfl) (by decide) (by decide +kernel) (by intro _;rfl)) Yc (by rfl)) (by decide +kernel) (by rfl) (by rfl) (by decide) (by decide) (by rfl) (by rfl)))) Yr) (@Yf _ _ _ _ _ (@YE _ _ _ _ _ _ _ _ (@Y8 _ _ _ (@YN _ _ _ _ _ _ _ _ _ _ Z3 Y1 (@Ya _ _ _ _ _ (pv 0) (@Ya _ _ _ _ _ (@XU _ _ _ _ ("dict") dz (by decide +kernel) (by rfl) (by rfl) (by decide) (by decide)) Yc (by rfl)) (by rfl)) (by decide +kernel) (by rfl) (by rfl) (by decide) (by decide) (by rfl) (by rfl)) (by intro _;rfl)) (@Yg _ _ _ Xp) Yr) (@Yg _ _ _ (@Yl _ _ _ _ (pv 0)))))),?_⟩;generalize hn:m+1=n at hv q;generalize hw:v=w at hv;generalize hk:0=kd at hv;walk_at "rd"
 cases hv with
 | non k n=>subst hw;subst hk;exact ⟨_,rfl,_,.non,false,rfl,YH (by decide) ⟨_,rfl,_,.non,false,rfl,YH (by decide) ⟨_,rfl,_,.non,false,rfl,YH (by decide) (q _ H (.refl _) (.non _ _))⟩⟩⟩
 | bl k n b=>subst hw;subst hk;exact ⟨_,rfl,_,.bl b,false,rfl,YH (by decide) ⟨_,rfl,_,.bl b,false,rfl,YH (by decide) ⟨_,rfl,_,.bl b,false,rfl,YH (by decide) (q _ H (.refl _) (.bl _ _ b))⟩⟩⟩
 | int k n i=>subst hw;subst hk;exact ⟨_,rfl,_,.int i,false,rfl,YH (by decide) ⟨_,rfl,_,.int i,false,rfl,YH (by decide) ⟨_,rfl,_,.int i,false,rfl,YH (by decide) (q _ H (.refl _) (.int _ _ i))⟩⟩⟩
 | str k n z h=>subst hw;subst hk;exact ⟨_,rfl,_,.str z,false,rfl,YH (by decide) ⟨_,rfl,_,.str z,false,rfl,YH (by decide) ⟨_,rfl,_,.str z,false,rfl,YH (by decide) (q _ H (.refl _) (.str _ _ z h))⟩⟩⟩
 | cg k n a h=>cases hk
 | tup k n a b us us' ha nb hb hl l kk =>
  cases hw
  subst hk;rw [ha] at hb
  cases HO.tup.inj (Θ hb)
  cases kx hn
  refine ⟨_,rfl,_,.tup ha,false,rfl,YH (by decide) ⟨_,rfl,_,.tup ha,true,rfl,Xd rfl ?_⟩⟩;refine Rn (K:=g.K) (b:=a) (xs:=us) (fun D i y Hx=>∀ x,us[i]?=some x->Cz (fun b=>H b=none/\b≠D) H Hx 0 m x y) (fun D i y Ha Hb h s x hx=>(h x hx).map (Yo (.refl _)) fun b o nb _ e=>⟨nb,s _ _ e⟩) (fun D i y Hx zs zs' h hD x hx=>(h x hx).map (Yo (.refl _)) fun b o nb _ e=>⟨nb,by rw [Ye nb.2];exact e⟩) (fun R r=>by walk_at "rd";exact r) (aA.of ha) (by omega) ?_ ?_
  ·intro D i x H' zs hx sm hd R r
   walk_at "rd";refine ⟨x,rfl,cI.kt (Yo sm) (kk i x x hx hx),fun v' aF s'' hv'=>r v' aF s'' fun x' hx'=>?_⟩;rw [hx] at hx'
   cases Θ hx'
   exact (hv'.back sm (kk i x x hx hx)).map (Yo (.refl _)) fun b o nb _ e=>⟨⟨sm.free nb,fun z=>by rw [z,hd] at nb;cases nb⟩,e⟩
  ·intro D ys H' hD sm hd zj hr
   refine ⟨D,rfl,_,.inl ⟨ao.of hd,fun l' gl=>?_⟩⟩;have s2:=Yd.aj gl (.tup ys);exact q (.ref l') _ (sm.trans s2) (.tup _ _ a l' us ys ha (sm.free gl) Yb zj.symm l fun i u u' e1 e2=>(hr i u' e2 u e1).map (Yo (.refl _)) fun b o nb _ e=>⟨nb.1,s2 _ _ e⟩)
 | lst k n a b us us' ha nb hb hl l kk =>
  cases hw
  subst hk;rw [ha] at hb
  cases HO.lst.inj (Θ hb)
  cases kx hn
  refine ⟨_,rfl,_,.lst ha,true,rfl,Xd rfl ?_⟩;refine Rm (K:=g.K) (b:=a) (xs:=us) (fun D i y Hx=>∀ x,us[i]?=some x->Cz (fun b=>H b=none/\b≠D) H Hx 0 m x y) (fun D i y Ha Hb h s x hx=>(h x hx).map (Yo (.refl _)) fun b o nb _ e=>⟨nb,s _ _ e⟩) (fun D i y Hx zs zs' h hD x hx=>(h x hx).map (Yo (.refl _)) fun b o nb _ e=>⟨nb,by rw [Ye nb.2];exact e⟩) (fun R r=>by walk_at "rd";exact r) (ao.of ha) (by omega) ?_ ?_
  ·intro D i x H' zs hx sm hd R r
   walk_at "rd";refine ⟨x,rfl,cI.kt (Yo sm) (kk i x x hx hx),fun v' aF s'' hv'=>r v' aF s'' fun x' hx'=>?_⟩;rw [hx] at hx'
   cases Θ hx'
   exact (hv'.back sm (kk i x x hx hx)).map (Yo (.refl _)) fun b o nb _ e=>⟨⟨sm.free nb,fun z=>by rw [z,hd] at nb;cases nb⟩,e⟩
  ·intro D ys H' hD sm hd zj hr
   exact q (.ref D) _ sm (.lst _ _ a D us ys ha hD hd zj.symm l fun i u u' e1 e2=>(hr i u' e2 u e1).map (Yo (.refl _)) fun b o nb _ e=>⟨nb.1,e⟩)
section
 variable {α β:Type} {R:α->β->Prop}
theorem F2.wo {as:List α} {bs:List β} (h:F2 R as bs):F2 (F2 R) (KW.wo as) (KW.wo bs):=by
 unfold KW.wo;rw [h.len];exact F2.rng fun i _=>(h.take i).app (h.drop (i+1))
theorem F2.wi {as:List α} {bs:List β} {ss:List (List α)} {L:List (List β)} (h:F2 R as bs) (k:F2 (F2 R) ss L):F2 (F2 R) (KW.wi as ss) (KW.wi bs L):=by
 unfold KW.wi;rw [k.len];exact F2.flat (F2.rng fun i _=>F2.map (f:=fun s=>as.take i++[s]++as.drop (i+1)) (g:=fun s=>bs.take i++[s]++bs.drop (i+1)) (fun s t e=>((h.take i).app (.cons e .nil)).app (h.drop (i+1))) (k.getD i))
end
def ofs (lo:Int) (os:List Nat):List V:=os.map fun (o:Nat)=>V.int (lo+(o:Nat))
def gJ (L:List (List Nat)):List V:=L.map fun z=>V.str (S z)
def cO (U:Addr->Prop) (H:Hp) (lo:Int) (v:V):Dv->Prop
 | .n o=>v = .int (lo+(o:Nat))
 | .t l=>v = .str (S l)
 | .r o l=>∃ a,U a/\v = .ref a/\H a=some (.tup [.int (lo+(o:Nat)),.str (S l)])
 | .l os=>∃ a,U a/\v = .ref a/\H a=some (.lst (ofs lo os))
 | .p o=>∃ a,U a/\v = .ref a/\H a=some (.tup [.str "a",.int (lo+(o:Nat))])
theorem cO.map {U U':Addr->Prop} {H H':Hp} {lo:Int} {v:V} {d:Dv} (e:∀ a o,U a->(∀ ps,o ≠ .aH ps)->H a=some o->U' a/\H' a=some o) (h:cO U H lo v d):cO U' H' lo v d:=by
 cases d with
 | n o=>exact h
 | t l=>exact h
 | r o l=>obtain ⟨a,u,e1,h⟩:=h;have:=e a _ u (by intro _ z;cases z) h;exact ⟨a,this.1,e1,this.2⟩
 | l os=>obtain ⟨a,u,e1,h⟩:=h;have:=e a _ u (by intro _ z;cases z) h;exact ⟨a,this.1,e1,this.2⟩
 | p o=>obtain ⟨a,u,e1,h⟩:=h;have:=e a _ u (by intro _ z;cases z) h;exact ⟨a,this.1,e1,this.2⟩
abbrev VT (H:Hp) (lo:Int) (v:V) (d:Dv):Prop:=cO (fun _=>True) H lo v d
theorem cO.kt {U:Addr->Prop} {H H':Hp} (k:Kt H H') {lo:Int} {v:V} {d:Dv} (h:cO U H lo v d):cO U H' lo v d:=h.map fun a o u n e=>⟨u,k a o n e⟩
theorem cO.vt {U:Addr->Prop} {H:Hp} {lo:Int} {v:V} {d:Dv} (h:cO U H lo v d):VT H lo v d:=h.map fun a o u n e=>⟨trivial,e⟩
def gd (sg:List Nat):Sk->Dv->Prop
 | .wh,.n o=>o<=9
 | .tx,.t l=>(∀ c∈l,c∈sg)/\l.length<=100
 | .rw,.r o l=>o<=9/\(∀ c∈l,c∈sg)/\l.length<=100
 | .pk,.p o=>o<=9
 | .my,.l os=>okN os
 | .ri,.l os=>okN os/\ord .ri os=true
 | .un,.l os=>okN os/\ord .un os=true
 | _,_=>False
theorem UF {sg:List Nat} {s:Sk} {z:Str} (hs:dY s=some z) {os:List Nat}:gd sg s (.l os)↔okN os/\ord s os=true:=by
 cases s<;>first | (cases hs;done) | exact ⟨fun h=>⟨h,rfl⟩,fun h=>h.1⟩ | exact Iff.rfl
theorem Qa {lo:Int} {os:List Nat} {i:Nat} {u:V} (h:(ofs lo os)[i]?=some u):∃ o,os[i]?=some o/\u = .int (lo+(o:Nat)):=by
 rw [ofs,Ξ] at h
 obtain ⟨o,h1,rfl⟩:=ο.mp h;exact ⟨o,h1,rfl⟩
theorem G8 {H:Hp} {lo:Int} {sg:List Nat} {s:Sk} {z:Str} (hs:dY s=some z) {a:Addr} {os:List Nat} (h:H a=some (.lst (ofs lo os))) (ok:okN os):Vx H lo sg s (.ref a) (if ord s os then some (.l os) else none):=by
 have ol:(ofs lo os).length=os.length:=Ζ _;have:=Vx.ls (sg:=sg) (lo:=lo) s z hs a (ofs lo os) (os.map fun o=>some (Dv.n o)) h (by rw [ol,Ζ]) (by rw [ol];exact ok.1) fun i u r e1 e2=>by
  obtain ⟨o,h1,rfl⟩:=Qa e1;rw [Ξ,h1] at e2
  cases Θ e2
  exact .wh o (ok.2 o (Τ h1))
 rw [iD,VV] at this
 exact this
theorem Q1 {H:Hp} {lo:Int} {sg:List Nat} {s:Sk} {v:V} {d:Dv} (g:gd sg s d) (h:VT H lo v d):Vx H lo sg s v (some d):=by
 have lst:∀ z,dY s=some z->∀ os,d = .l os->Vx H lo sg s v (some d):=fun z hs os e=>by
  subst e;obtain ⟨ok,c⟩:=(UF hs).mp g;obtain ⟨a,_,rfl,h⟩:=h;have:=G8 (sg:=sg) hs h ok;rw [c] at this
  exact this
 cases s with
 | wh=>cases d<;>first | exact g.elim | (cases (show v=_ from h);exact .wh _ g)
 | tx=>cases d<;>first | exact g.elim | (cases (show v=_ from h);exact .tx _ g.1 g.2)
 | rw=>cases d<;>first | exact g.elim | (obtain ⟨a,_,rfl,h⟩:=h;exact .rw a _ _ _ _ h (.wh _ g.1) (.tx _ g.2.1 g.2.2))
 | pk=>cases d<;>first | exact g.elim | (obtain ⟨a,_,rfl,h⟩:=h;exact .pk a _ _ h (.wh _ g))
 | my=>cases d<;>first | exact g.elim | exact lst _ rfl _ rfl
 | ri=>cases d<;>first | exact g.elim | exact lst _ rfl _ rfl
 | un=>cases d<;>first | exact g.elim | exact lst _ rfl _ rfl
def st (s:Sk):Dv->List Dv
 | .n o=>(cj o).map .n
 | .t l=>(wo l).map .t
 | .r o l=>((cj o).map fun x=>Dv.r x l)++(wo l).map fun x=>Dv.r o x
 | .l os=>((wo os++wi os (os.map cj)).filter (ord s)).map .l
 | .p o=>(cj o).map .p
def sz:Dv->Nat
 | .n o=>aU o
 | .t l=>l.length
 | .r o l=>aU o+l.length
 | .l os=>os.length+(os.map aU).sum
 | .p o=>aU o
theorem Vr:∀ o≤9,∀ s∈cj o,aU s<aU o/\s<=9:=by decide +kernel
theorem VI {α:Type} {l x:List α} (h:x∈wo l):x.length+1=l.length/\∀ c∈x,c∈l:=by
 obtain ⟨i,hi,rfl⟩:=ψ.mp h;rw [gE] at hi
 refine ⟨by rw [Ρ,ba,bb];omega,fun c hc=>?_⟩;rcases ag.mp hc with hc | hc
 ·exact List.mem_of_mem_take hc
 ·exact List.mem_of_mem_drop hc
theorem UG (a b:List Nat):((a++b).map aU).sum=(a.map aU).sum+(b.map aU).sum:=by rw [af,List.sum_append]
theorem UH {sg:List Nat} {s:Sk} {d d':Dv} (g:gd sg s d) (h:d'∈st s d):gd sg s d'/\sz d'<sz d:=by
 have lst:∀ z,dY s=some z->∀ os,d = .l os->gd sg s d'/\sz d'<sz d:=fun z hs os e=>by
  subst e;obtain ⟨ok,c⟩:=(UF hs).mp g;obtain ⟨x,hx,rfl⟩:=ψ.mp h;obtain ⟨hx,c'⟩:=ip.mp hx;have key:okN x/\sz (.l x)<sz (.l os):=by
   rcases ag.mp hx with hx | hx
   ·obtain ⟨i,hi,rfl⟩:=ψ.mp hx
    rw [gE] at hi
    have e:os=os.take i++([os[i]]++os.drop (i+1)):=by rw [List.singleton_append,List.getElem_cons_drop,List.take_append_drop]
    have h3:=congrArg (fun l=>(l.map aU).sum) e;simp only [UG] at h3;refine ⟨⟨by rw [Ρ,ba,bb];have:=ok.1;omega,fun o ho=>?_⟩,?_⟩
    ·rcases ag.mp ho with ho | ho
     ·exact ok.2 o (List.mem_of_mem_take ho)
     ·exact ok.2 o (List.mem_of_mem_drop ho)
    ·simp only [sz,UG,Ρ,ba,bb];omega
   ·obtain ⟨m,hm,hx⟩:=List.mem_flatten.mp hx
    obtain ⟨i,hi,rfl⟩:=ψ.mp hm;obtain ⟨t,ht,rfl⟩:=ψ.mp hx;rw [gE,Ζ] at hi
    have hx:os[i]?=some os[i]:=Η hi;rw [cK,Ξ,hx] at ht
    have hd:=Vr _ (ok.2 _ (Τ hx)) t ht;have e:os=os.take i++([os[i]]++os.drop (i+1)):=by rw [List.singleton_append,List.getElem_cons_drop,List.take_append_drop]
    have h3:=congrArg (fun l=>(l.map aU).sum) e;simp only [UG] at h3;have h4:([t].map aU).sum=aU t:=by simp
    have h5:([os[i]].map aU).sum=aU os[i]:=by simp
    refine ⟨⟨by rw [Ρ,Ρ,ba,bb,aa];have:=ok.1;omega,fun o ho=>?_⟩,?_⟩
    ·rcases ag.mp ho with ho | ho
     ·rcases ag.mp ho with ho | ho
      ·exact ok.2 o (List.mem_of_mem_take ho)
      ·rw [ρ.mp ho];exact hd.2
     ·exact ok.2 o (List.mem_of_mem_drop ho)
    ·simp only [sz,UG,Ρ,ba,bb,aa]
     rw [h4];omega
  exact ⟨(UF hs).mpr ⟨key.1,c'⟩,key.2⟩
 cases s with
 | wh =>
  cases d<;>first | exact g.elim | skip
  obtain ⟨x,hx,rfl⟩:=ψ.mp h;exact (Vr _ g x hx).symm
 | tx =>
  cases d<;>first | exact g.elim | skip
  obtain ⟨x,hx,rfl⟩:=ψ.mp h;have:=VI hx;exact ⟨⟨fun c hc=>g.1 c (this.2 c hc),by have:=g.2;omega⟩,by show x.length<_;simp only [sz];omega⟩
 | rw =>
  cases d<;>first | exact g.elim | skip
  rcases ag.mp h with h | h
  ·obtain ⟨x,hx,rfl⟩:=ψ.mp h
   have:=Vr _ g.1 x hx;exact ⟨⟨this.2,g.2⟩,by simp only [sz];omega⟩
  ·obtain ⟨x,hx,rfl⟩:=ψ.mp h
   have:=VI hx;exact ⟨⟨g.1,fun c hc=>g.2.1 c (this.2 c hc),by have:=g.2.2;omega⟩,by simp only [sz];omega⟩
 | pk =>
  cases d<;>first | exact g.elim | skip
  obtain ⟨x,hx,rfl⟩:=ψ.mp h;exact (Vr _ g x hx).symm
 | my=>cases d<;>first | exact g.elim | exact lst _ rfl _ rfl
 | ri=>cases d<;>first | exact g.elim | exact lst _ rfl _ rfl
 | un=>cases d<;>first | exact g.elim | exact lst _ rfl _ rfl
theorem Ygj {fs:List (Str×V)} (h:fs.length<=3):fs.length<1000:=by omega
theorem n1 {a b:Str} (h:(a==b)=false):¬ a=b:=fun z=>by rw [z] at h;simp at h
theorem JR {a b m:Str} {x y:V} (h:(m==a)=false) (h2:(m==b)=false):di m [(a,x),(b,y)]=none:=by rw [bg,h,bg,h2];rfl
theorem W0 {H H':Hp} {x dx:Addr} {o u:HO} (hx:H x=none) (hdx:H dx=none) (sb:SameBut x (upd (upd H dx o) x u) H'):Yd H H':=fun y z h=>by
 have n1:y≠x:=Yk h hx;have n2:y≠dx:=Yk h hdx;exact sb _ _ n1 (by rw [Ye n1,Ye n2];exact h)
def lf (b:V) (d:Addr):List (Str×V):=[("book",b),("makers",.ref d)]
theorem nbm:¬ (("book":Str)="makers"):=by decide +kernel
theorem Ygk (b:V) (d:Addr):Xi "makers" (.ref d) (Xi "book" b [])=lf b d:=by
 simp only [Xi,if_neg nbm];rfl
inductive G9 (P:Ψ) (w:θ) (C:Addr) (vs:List V) (H:Hp) (Q:VK) (E_:XK):Prop
 | mk (p dx:Addr) (b:V) (h0:vs=[.ref p,b]) (h1:H p=some (.ins C dx [])) (h2:∀ d H',H d=none->SameBut p H H'->H' p=some (.ins C dx (lf b d))->H' d=some (ud P w d [])->Q .non H')
theorem Z1K {Z9:Addr} (R:g.iJ "Lister" Z9 "Lister.__init__" ZY ["self","book"]) (mQ:Cls g.K Z9) (ZF:YY g.K Z9 "book") (Zx:YY g.K Z9 "makers"):g.Ma (1) "Lister" Z9 ["self","book"] (G9 g.P g.w Z9):=by
 refine R.ma T7 (fun vs H Q E h=>by obtain ⟨p,dx,b,rfl,hp,q⟩:=h;rfl) fun f_ cdv A outer s H vs Q E hr h=>?_
 obtain ⟨p,dx,b,rfl,hp,q⟩:=h;refine ⟨_,(@Yf _ _ _ _ _ (@Uk _ _ _ _ _ _ _ _ (pv 0) (pv 1) rfl) (@Yg _ _ _ (@Uk _ _ _ _ _ _ _ _ (pv 0) R8 rfl))),?_⟩;walk_at "rd";refine ⟨Z9,dx,[],hp,mQ,ZF,by decide,fun d hd=>?_⟩;have hne:p≠d:=Yk Yb hd;rw [Ye (ah hne)] at hd
 refine ⟨Z9,dx,_,by rw [Ye hne];exact Yb,mQ,Zx,by simp [Xi],q d _ hd (fun x o hx h=>?_) ?_ ?_⟩
 ·rw [Ye hx,Ye (Yk h hd),Ye hx];exact h
 ·rw [Yb,Ygk]
 ·rw [Ye (ah hne),Yb]
  rfl
def fS (b:V) (ls:Addr):List (Str×V):=[("book",b),("lister",.ref ls)]
theorem Qb (b:V) (ls:Addr):(fS b ls).lookup ("book":Str)=some b:=rfl
theorem Q2 {m:Str} (b:V) (ls:Addr) (h:(m==("book":Str))=false) (h2:(m==("lister":Str))=false):(fS b ls).lookup m=none:=JR h h2
inductive Hf (CS:Addr) (vs:List V) (H:Hp) (Q:VK) (E_:XK):Prop
 | mk (st ds:Addr) (b:V) (h0:vs=[.ref st,b]) (h1:H st=some (.ins CS ds [])) (h2:∀ ls H',SameBut st H H'->H' st=some (.ins CS ds (fS b ls))->Q .non H')
theorem Z1x {k:Nat} {Z9 Z2:Addr} (R:g.iJ "Stepper" Z2 "Stepper.__init__" ZK ["self","book"]) {dJ:Nat} (Z1V:g.Ma dJ "Lister" Z9 ["self","book"] (G9 g.P g.w Z9)) (qI:dJ+1<=k) (Z7:Cls g.K Z2) (Z5:YY g.K Z2 "book") (Z6:YY g.K Z2 "lister"):g.Ma (k+1) "Stepper" Z2 ["self","book"] (Hf Z2):=by
 refine R.ma T8 (fun vs H Q E h=>by obtain ⟨st,ds,b,rfl,hst,q⟩:=h;rfl) fun f_ cdv A outer s H vs Q E hr h=>?_
 obtain ⟨st,ds,b,rfl,hst,q⟩:=h;refine ⟨_,(@Yf _ _ _ _ _ (@Uk _ _ _ _ _ _ _ _ (pv 0) (pv 1) rfl) (@Yg _ _ _ (@Uk _ _ _ _ _ _ _ _ (pv 0) (@Ec _ _ _ _ _ _ _ _ _ _ _ _ _ Z1V hr (@Ya _ _ _ _ _ (pv 1) Yc (by rfl)) (by omega) (by rfl) (by rfl) (by decide) (by rfl) (by rfl)) rfl))),?_⟩;walk_at "rd";refine ⟨Z2,ds,_,hst,Z7,Z5,by decide,fun ls dl gl Hg hne=>?_⟩;obtain ⟨H1,hH1⟩:∃ H1,H1=upd H st (.ins Z2 ds (Xi "book" b [])):=⟨_,rfl⟩;rw [<- hH1] at gl Hg ⊢
 have h1:H1 st=some (.ins Z2 ds (Xi "book" b [])):=by rw [hH1,Yb]
 refine ⟨ls,dl,b,rfl,Yb,fun d H2 gd sb hl hd=>⟨rfl,?_⟩⟩;have s2:=W0 gl Hg sb;have h2:=s2 _ _ h1;refine ⟨Z2,ds,_,h2,Z7,Z6,Ygj (show 1<=3 by decide),?_⟩;have fr:∀ {x:Addr} {o:HO},x≠st->H x=some o->H1 x=some o:=fun n e=>by rw [hH1,Ye n];exact e
 refine q ls _ (fun x o nx e=>by rw [Ye nx];exact s2 _ _ (fr nx e)) ?_;rw [Yb];refine congrArg some (congrArg (HO.ins _ _) ?_)
 show Xi "lister" (.ref ls) [(("book":Str),b)]=fS b ls
 simp only [Xi,if_neg (n1 (a:=("book":Str)) (b:=("lister":Str)) (by decide +kernel))];rfl
theorem Ydt {K:Λ} {tl:TE} {g:TG} {tb:TS} {D:Ends} {σ:St} {H:Hp} {xs:List V} (Pv:Addr->Nat->St->Hp->Prop) (ha:∀ R:V->Hp->Prop,(∀ c H1,Pv c 0 σ H1->R (.ref c) H1)->tl σ H R) (hl:∀ c i σ H,i<=xs.length->Pv c i σ H->aA K H c xs)
  (hs:∀ c (i:Nat) x σ H,xs[i]?=some x->Pv c i σ H->g x σ H fun σ2 H2=>tb { D with nx:=Pv c (i+1),ct:=Pv c (i+1),bk:=D.nx } σ2 H2) (hd:∀ c σ H,Pv c xs.length σ H->D.nx σ H):Vw (qN K tl) g tb D σ H:=by
 refine ha _ fun c H1 h0=>⟨c,rfl,⟨xs,hl c 0 σ H1 (ay _) h0⟩,?_⟩
 exact KC (Pv c) h0 (hl c) (hs c) (hd c)
inductive uM (K:Λ) (CS:Addr) (vs:List V) (H:Hp) (Q:VK) (E_:XK):Prop
 | mk (sp ds ls:Addr) (B:V) (lo:Int) (sg:List Nat) (a:Addr) (v:V) (o:Nat) (h0:vs=[.ref sp,.ref a,v]) (h1:H sp=some (.ins CS ds (fS B ls))) (h2:Xc H lo sg a .pk) (h3:VT H lo v (.p o)) (h4:o<=9) (h5:∀ D H',Yd H H'->H D=none->H' D=some (.lst [])->Q (.ref D) H')
theorem Z0Y {k:Nat} {Z2:Addr} (R:g.dU Z2 "leasts_ahead" "Stepper.leasts_ahead" Zy ["self","shape","value"]) (Zk:g.Fn k "branch_place" ["branches","mark"] (jm)) (pR:g.Fn k "size_of" ["book","shape","value"] (pO g.K)) (Z7:Cls g.K Z2) (Z5:YY g.K Z2 "book") (Z6:YY g.K Z2 "lister"):g.Me (k+1) Z2 "leasts_ahead" ["self","shape","value"] (uM g.K Z2):=by
 refine R.me Zd (fun vs H Q E h=>by obtain ⟨sp,ds,ls,B,lo,sg,a,v,o,rfl,hst,hS,hv,ho,q⟩:=h;rfl) fun f_ cdv A outer s H vs Q E hr h=>?_
 obtain ⟨sp,ds,ls,B,lo,sg,a,v,o,rfl,hst,hS,hv,ho,q⟩:=h;refine ⟨_,(@Yf _ _ _ _ _ (@YA _ _ (3) _ _ _ _ Zd.nd rfl (.inl rfl) (@Yz _ _ _ _ _ _ _ _ _ _ _ _ pR hr (@Ya _ _ _ _ _ (@vV _ _ _ _ _ (pv 0) rfl) (@Ya _ _ _ _ _ (pv 1) (@Ya _ _ _ _ _ (pv 2) Yc (by rfl)) (by rfl)) (by rfl)) (by omega) (by rfl) (by rfl) (by decide) (by rfl) (by rfl)) (by rfl) (by first | exact .inl rfl | exact .inr rfl | assumption)) (@Yf _ _ _ _ _ (@YA _ _ (4) _ _ _ _ Zd.nd rfl (.inl rfl) (@Yw _ _ _ _ Yc) (by rfl) (by first | exact .inl rfl | exact .inr rfl | assumption)) (@Yf _ _ _ _ _ (@XE _ _ _ _ _ _ _ _ bp rfl (@Cu _ _ _ _ (@XB _ _ _ _ _ _ _ _ _ _ Lp (@YD _ _ _ _ _ _ _ YM (pv 1) Yi (fun _ _=>rfl)) XR (@XS _ _ _ (@Yz _ _ _ _ _ _ _ _ _ _ _ _ Zk hr (@Ya _ _ _ _ _ (@YD _ _ _ _ _ _ _ YM (pv 1) Yi (fun _ _=>rfl)) (@Ya _ _ _ _ _ (@YD _ _ _ _ _ _ _ YM (pv 2) Yi (fun _ _=>rfl)) Yc (by rfl)) (by rfl)) (by omega) (by rfl) (by rfl) (by decide) (by rfl) (by rfl))))) (@Wq _ _ _ _ _ (2) rfl (@YX _ _ _ _ _ (@YB _ _ (5) _ Zd.nd rfl (.inl rfl) (by first | exact .inl rfl | exact .inr rfl | assumption)) (@YX _ _ _ _ _ (@YB _ _ (6) _ Zd.nd rfl (.inl rfl) (by first | exact .inl rfl | exact .inr rfl | assumption)) X4 (by rfl)) (by rfl)) (by rfl) (by rfl)) (@Yf _ _ _ _ _ Xp (@Yg _ _ _ Xp)) (by intro _;rfl)) (@Yg _ _ _ (@Yl _ _ _ _ (pv 4)))))),?_⟩;have vx:=Q1 (sg:=sg) (s := .pk) (d := .p o) ho hv;obtain ⟨va,_,rfl,hva⟩:=hv;obtain ⟨b,c0,c1,w,t,e1,hP⟩:=id hS;refine Yq fun R rr=>?_
 walk_at "rd";refine ⟨_,_,_,hst,Z7,Z5,_,Qb _ _,B,lo,sg,a,.pk,_,_,rfl,hS,vx,fun n H1 s1=>rr _ _ (Yq fun R rr=>?_)⟩;walk_at "rd";refine ⟨few (by decide),fun D gD=>rr _ _ (Yq fun R rr=>?_)⟩;have s2:=s1.trans (.aj gD (.lst []));have hP2:=hP.tp (YT (Yo s2));refine Ydt (xs:=[]) (fun c i σ H'=>∃ o5 o6 o7,σ=[some (.ref sp),some (.ref a),some (.ref va),some (.int (n:Nat)),some (.ref D),o5,o6,o7]/\H' c=some (.tup [])/\Yd H H'/\H' D=some (.lst [])) (fun R r=>?_) (fun c i σ H' _ ⟨_,_,_,_,h,_⟩=>aA.of h) (fun c i x σ H' hx=>by cases hx) ?_
 ·walk_at "rd"
  refine ⟨_,aA.of (s2 _ _ e1),_,Yj (j:=1) rfl,_,aA.of (s2 _ _ e1),_,Yj (j:=1) rfl,_,aA.of (s2 _ _ hva),_,Yj (j:=0) rfl,lo,sg,_,b,c0,c1,w,t,rfl,hP2,fun H3 s3=>?_⟩;refine ⟨_,rfl,b,_,rfl,aA.of (s3 _ _ hP2.b),?_,fun p hp=>?_⟩
  ·show ¬ (HT.aG 2 0 none=0/\HT.aG 2 2 (some 0)=2)
   decide
  ·exact r p _ ⟨_,_,_,rfl,by rw [Yb];rfl,(s2.trans s3).trans (.aj hp _),(Yd.aj hp _) _ _ (s3 _ _ Yb)⟩
 ·rintro c σ H' ⟨o5,o6,o7,rfl,_,sm,hD⟩
  refine rr _ _ ?_;walk_at "rd";exact q D H' sm (s1.free gD) hD
def Q3 (lo:Int) (w:Sk×V×Option Dv):List V:=match w.2.2 with
 | some (.n o)=>ofs lo (cj o)
 | some (.t l)=>gJ (wo l)
 | _=>[]
theorem wi2 (u0 u1:V) (A B:List V):wi [u0,u1] [A,B]=(A.map fun s=>[s,u1])++B.map fun s=>[u0,s]:=by
 show (([0,1]:List Nat).map fun i=>(([A,B]:List (List V)).getD i []).map fun s=>([u0,u1]:List V).take i++[s]++([u0,u1]:List V).drop (i+1)).flatten=_
 simp
theorem Wx (o:Nat):(cj o).length<=20:=by
 have:∀ f o,(hal f o).length<=f:=fun f=>by
  induction f with
  | zero=>intro o;exact ay _
  | succ f ih =>
   intro o;rw [hal]
   split
   ·exact ay _
   ·have:=ih (o / 2);rw [υ];omega
 rw [cj,List.length_reverse];exact this 20 o
theorem Vi {α:Type} (l:List α):(wo l).length=l.length:=by rw [wo,Ζ,List.length_range]
theorem Ygl {H:Hp} {lo:Int} {sg:List Nat} {o:Nat} {r:Option Dv} (ho:o<=9) (h:Vx H lo sg .wh (.int (lo+(o:Nat))) r):r=some (.n o):=by
 generalize hv:V.int (lo+(o:Nat))=v at h
 cases h with
 | wh o' h=>have:=V.int.inj hv;rw [show o=o' by omega]
 | gn i h=>cases hv;exact absurd ⟨by omega,by omega⟩ h
 | eG v n h hn =>
  subst hv
  cases h
  exact absurd rfl hn
 | ls s z hs=>cases hs
 | lsN s z hs=>cases hs
theorem Hh (lo:Int) (os:List Nat):F2 (fun (v:V) (o:Nat)=>v = .int (lo+(o:Nat))) (ofs lo os) os:=by
 induction os with
 | nil=>exact .nil
 | cons o os ih=>exact .cons rfl ih
theorem Hi {lo:Int}:∀ {vs:List V} {os:List Nat},F2 (fun (v:V) (o:Nat)=>v = .int (lo+(o:Nat))) vs os->vs=ofs lo os
 | _,_,.nil=>rfl
 | _,_,.cons h t=>by rw [h,Hi t];rfl
theorem Nl.nums {H H':Hp} {as:List Addr} {zs:List (List V)} {lo:Int} {L:List (List Nat)} (h:Nl H H' as zs) (f:F2 (F2 fun (v:V) (o:Nat)=>v = .int (lo+(o:Nat))) zs L):F2 (fun a os=>H' a=some (.lst (ofs lo os))) as L:=F2.of (by rw [h.len,f.len]) fun i a os e1 e2=>by
 have hl:=f.len;have hz:zs[i]?=some (zs[i]'(by have:=(Ι.mp e2).1;omega)):=Η _;rw [h.at_ i a _ e1 hz,Hi (f.get i _ os hz e2)]
theorem Ydw {α:Type} {src:List (Option Nat)} {te:TE} {σ:St} {H:Hp} {Q:VK} {K:Λ} {tl:TE} {tt:TT} {xs:List V} {ps:List α} (hxp:xs.length=ps.length) (p:α->Bool) (ha:∀ R:V->Hp->Prop,(∀ a H1,Yd H H1->ao K H1 a xs->R (.ref a) H1)->tl σ H R) (hlen:xs.length<=100000)
  (test:∀ (i:Nat) x q H',xs[i]?=some x->ps[i]?=some q->Yd H H'->∀ R:Bool->Hp->Prop,(∀ aF,Yd H' aF->R (p q) aF)->tt (some x::YG src σ) H' R)
  (step:∀ x H',Yd H H'->∀ R:VK,(∀ aF,Yd H' aF->R x aF)->te (some x::YG src σ) H' R)
  (fin:∀ D zs H',H D=none->Yd H H'->H' D=some (.lst zs)->F2 (fun y q=>∃ i:Nat,xs[i]?=some y/\ps[i]?=some q) zs (ps.filter p)->Q (.ref D) H'):eX (none::src) (Wc K tl) (YF 0) tt te σ H Q:=by
 refine ha _ fun a H1 s1 hS=>⟨a,rfl,⟨xs,hS⟩,fun D hD=>?_⟩
 have h6:100000<sizeLine:=by decide
 refine DP (XT.imp fun H' (e:Yd H1 H')=>e.seq hS) (fun i zs σ' H'=>F2 (fun y q=>∃ i:Nat,xs[i]?=some y/\ps[i]?=some q) zs ((ps.take i).filter p)/\(∃ o,σ'=o::YG src σ)/\Yd H1 H'/\H' D=some (.lst zs)) ⟨by simp;exact .nil,⟨none,rfl⟩,.aj hD _,Yb⟩ (fun i zs σ' H' q=>⟨q.2.2.1,q.2.2.2⟩) ?_ ?_
 ·rintro i zs σ' H' x hx ⟨hz,⟨o,rfl⟩,sm,hd⟩
  have hi:=(Ι.mp hx).1;have hq:ps[i]?=some (ps[i]'(by omega)):=Η _;generalize ps[i]'(by omega)=qq at hq;have hzl:=hz.len;have hfl:=List.length_filter_le p (ps.take i);rw [ba] at hfl
  show tt (some x::YG src σ) H' _
  refine test i x qq H' hx hq (s1.trans sm) _ fun H2 s2=>?_
  cases e:p qq with
  | true =>
   refine rz ?_;refine step x H2 ((s1.trans sm).trans s2) _ fun H3 s3=>⟨s3 _ _ (s2 _ _ hd),by omega,?_,⟨_,rfl⟩,.bC hD ((sm.trans s2).trans s3) _,Yb⟩
   rw [XA hq,List.filter_append,show [qq].filter p=[qq] by simp [e]];exact hz.app (.cons ⟨i,hx,hq⟩ .nil)
  | false =>
   refine Jv ⟨?_,⟨_,rfl⟩,sm.trans s2,s2 _ _ hd⟩;rw [XA hq,List.filter_append,show [qq].filter p=[] by simp [e],db];exact hz
 ·rintro zs σ' H' ⟨hz,_,sm,hd⟩
  rw [hxp,fq] at hz
  exact fin D zs H' (s1.free hD) (s1.trans sm) hd hz
inductive pU (K:Λ) (CS:Addr) (vs:List V) (H:Hp) (Q:VK) (E_:XK):Prop
 | mk (sp ds ls:Addr) (B:V) (lo:Int) (sg:List Nat) (a:Addr) (s:Sk) (v:V) (d:Dv) (L:List (Sk×V×Option Dv)) (I:Addr) (is_:List Addr) (h0:vs=[.ref sp,.ref a,v,.ref I]) (h1:H sp=some (.ins CS ds (fS B ls))) (h2:Xc H lo sg a s) (h3:gd sg s d) (h4:VT H lo v d) (h5:Wi H lo sg s v (some d) L) (h6:H I=some (.lst (is_.map V.ref))) (h7:yZ H is_ (L.map (Q3 lo))) (h8:∀ D ys H',Yd H H'->H D=none->H' D=some (.lst ys)->F2 (VT H' lo) ys (st s d)->Q (.ref D) H')
theorem Z1y {k:Nat} {Z2:Addr} (R:g.dU Z2 "steps_by" "Stepper.steps_by" ZL ["self","shape","value","inner"]) (lE:g.Fn k "fits" ["book","shape","value"] (jC g.K)) (jV:g.Fn k "whole_steps" ["low","value"] (uI g.K)) (Hj:g.Fn k "without_each" ["things"] (uJ g.K)) (Hl:g.Fn k "with_each_step" ["things","inner"] (pQ g.K)) (Z15:g.Me k Z2 "leasts_ahead" ["self","shape","value"] (uM g.K Z2)) (aW:g.mg "list"=none) (Z8:g.mg "tuple"=none) (Z7:Cls g.K Z2) (Z5:YY g.K Z2 "book") (Z6:YY g.K Z2 "lister"):g.Me (k+1) Z2 "steps_by" ["self","shape","value","inner"] (pU g.K Z2):=by
 refine R.me ZH (fun vs H Q E h=>by obtain ⟨sp,ds,ls,B,lo,sg,a,s,v,d,L,I,is_,rfl,hst,hS,hg,hv,hw,hI,hL,q⟩:=h;rfl) fun f_ cdv A outer s H vs Q E hr h=>?_
 obtain ⟨sp,ds,ls,B,lo,sg,a,s,v,d,L,I,is_,rfl,hst,hS,hg,hv,hw,hI,hL,q⟩:=h;refine ⟨_,(@Yf _ _ _ _ _ (@YA _ _ (4) _ _ _ _ ZH.nd rfl (.inr rfl) (@YD _ _ _ _ _ _ _ YM (pv 1) Yi (fun _ _=>rfl)) (by rfl) (by first | exact .inl rfl | exact .inr rfl | assumption)) (@Yf _ _ _ _ _ (@YE _ _ _ _ _ _ _ _ (@Ys _ _ _ _ _ _ _ _ YS (pv 4) Yn (Yp _)) (@Yg _ _ _ (@Yl _ _ _ _ (@Yz _ _ _ _ _ _ _ _ _ _ _ _ jV hr (@Ya _ _ _ _ _ (@YD _ _ _ _ _ _ _ YM (pv 1) Yi (fun _ _=>rfl)) (@Ya _ _ _ _ _ (pv 2) Yc (by rfl)) (by rfl)) (by omega) (by rfl) (by rfl) (by decide) (by rfl) (by rfl)))) Yr) (@Yf _ _ _ _ _ (@YE _ _ _ _ _ _ _ _ (@Ys _ _ _ _ _ _ _ _ YS (pv 4) Yn (Yp _)) (@Yg _ _ _ (@Yl _ _ _ _ (@Yz _ _ _ _ _ _ _ _ _ _ _ _ Hj hr (@Ya _ _ _ _ _ (pv 2) Yc (by rfl)) (by omega) (by rfl) (by rfl) (by decide) (by rfl) (by rfl)))) Yr) (@Yf _ _ _ _ _ (@YE _ _ _ _ _ _ _ _ (@Ys _ _ _ _ _ _ _ _ YS (pv 4) Yn (Yp _)) (@Yg _ _ _ (@Yl _ _ _ _ (@XC _ _ _ _ _ _ _ ([none]) ((["things"]:List Str)) _ (YF 0) _ _ (.own .nil) rfl (@Xg _ _ _ _ (@Yz _ _ _ _ _ _ _ _ _ _ _ _ Hl hr (@Ya _ _ _ _ _ (@Vm _ _ _ _ _ _ _ _ _ _ aW Lz (@Ya _ _ _ _ _ (pv 2) Yc (by rfl)) (by decide +kernel) (by rfl) (by rfl) (by decide) (by decide) (by rfl) (by rfl)) (@Ya _ _ _ _ _ (pv 3) Yc (by rfl)) (by rfl)) (by omega) (by rfl) (by rfl) (by decide) (by rfl) (by rfl))) (fun cl C s₀ H₀ fp pn=>(@YB _ _ (0) _ (show cr (["things"]:List Str) by decide +kernel) rfl (.inl rfl) (.inr rfl))) (fun cl C s₀ H₀ fp pn=>Xj) (fun cl C s₀ H₀ fp pn=>(@Vm _ _ _ _ _ _ _ _ _ _ Z8 (UY (K:=g.K)) (@Ya _ _ _ _ _ (pv 0) Yc (by rfl)) (by decide +kernel) (by rfl) (by rfl) (by decide) (by decide) (by rfl) (by rfl))) (by intro x hx;simp at hx) (by rfl) (by decide) (by decide +kernel) (by intro _;rfl)))) Yr) (@Yf _ _ _ _ _ (@YE _ _ _ _ _ _ _ _ (@Ys _ _ _ _ _ _ _ _ YS (pv 4) Yn (Yp _)) (@Yg _ _ _ Xp) Yr) (@Yf _ _ _ _ _ (@YE _ _ _ _ _ _ _ _ (@Ys _ _ _ _ _ _ _ _ YS (pv 4) Yn (Yp _)) (@Yg _ _ _ (@Yl _ _ _ _ (@YC _ _ _ _ _ _ _ _ Wt (@QT _ _ _ _ _ _ _ _ _ _ _ _ _ _ _ _ Z15 Z7 hr (pv 0) (@Ya _ _ _ _ _ (pv 1) (@Ya _ _ _ _ _ (pv 2) Yc (by rfl)) (by rfl)) (by omega) (by rfl) (by rfl) (by rfl) (by rfl)) (@XC _ _ _ _ _ _ _ ([none,some 2]) ((["step","value"]:List Str)) _ (YF 0) _ _ (.own (.cap (i:=2) rfl rfl (by first | exact .inl rfl | exact .inr rfl) .nil)) rfl (@Xg _ _ _ _ (@YD _ _ _ _ _ _ _ XH (pv 3) Yi (fun _ _=>rfl))) (fun cl C s₀ H₀ fp pn=>(@YB _ _ (0) _ (show cr (["step","value"]:List Str) by decide +kernel) rfl (.inl rfl) (.inr rfl))) (fun cl C s₀ H₀ fp pn=>Xj) (fun cl C s₀ H₀ fp pn=>(@Yv _ _ _ _ _ (@Ya _ _ _ _ _ (@YD _ _ _ _ _ _ _ (Vc (K:=g.K)) (pv 1) Yi (fun _ _=>rfl)) (@Ya _ _ _ _ _ (pv 0) Yc (by rfl)) (by rfl)))) (by intro x hx;simp at hx;first | (subst hx;exact .inl rfl) | (rcases hx with rfl | rfl<;>exact .inl rfl) | (rcases hx with rfl | rfl | rfl<;>exact .inl rfl) | (rcases hx with rfl | rfl | rfl | rfl<;>exact .inl rfl) | (rcases hx with rfl | rfl | rfl | rfl | rfl<;>exact .inl rfl)) (by rfl) (by decide) (by decide +kernel) (by intro _;rfl))))) Yr) (@Yf _ _ _ _ _ (@YE _ _ _ _ _ _ _ _ (@Ys _ _ _ _ _ _ _ _ YS (pv 4) Yn (Yp _)) (@Yg _ _ _ Xp) Yr) (@Yf _ _ _ _ _ (@YA _ _ (5) _ _ _ _ ZH.nd rfl (.inl rfl) (@YC _ _ _ _ _ _ _ _ Wt (@Yz _ _ _ _ _ _ _ _ _ _ _ _ Hj hr (@Ya _ _ _ _ _ (pv 2) Yc (by rfl)) (by omega) (by rfl) (by rfl) (by decide) (by rfl) (by rfl)) (@Yz _ _ _ _ _ _ _ _ _ _ _ _ Hl hr (@Ya _ _ _ _ _ (pv 2) (@Ya _ _ _ _ _ (pv 3) Yc (by rfl)) (by rfl)) (by omega) (by rfl) (by rfl) (by decide) (by rfl) (by rfl))) (by rfl) (by first | exact .inl rfl | exact .inr rfl | assumption)) (@Yg _ _ _ (@Yl _ _ _ _ (@XC _ _ _ _ _ _ _ ([none,some 4,some 1,some 0]) ((["step","kind","shape","self"]:List Str)) _ (YF 0) _ _ (.own (.cap (i:=4) rfl rfl (by first | exact .inl rfl | exact .inr rfl) (.cap (i:=1) rfl rfl (by first | exact .inl rfl | exact .inr rfl) (.cap (i:=0) rfl rfl (by first | exact .inl rfl | exact .inr rfl) .nil)))) rfl (@Xg _ _ _ _ (pv 5)) (fun cl C s₀ H₀ fp pn=>(@YB _ _ (0) _ (show cr (["step","kind","shape","self"]:List Str) by decide +kernel) rfl (.inl rfl) (.inr rfl))) (fun cl C s₀ H₀ fp pn=>(@Mq _ _ _ (PW.pt (@XY _ _ _ _ _ _ _ (@Ys _ _ _ _ _ _ _ _ YS (pv 1) Yn (Yp _)) (@Wp _ _ _ _ (@Y8 _ _ _ (@Yz _ _ _ _ _ _ _ _ _ _ _ _ lE hr (@Ya _ _ _ _ _ (@R9 _ _ _ _ _ (g.K) (pv 3) rfl (by rfl)) (@Ya _ _ _ _ _ (pv 2) (@Ya _ _ _ _ _ (pv 0) Yc (by rfl)) (by rfl)) (by rfl)) (by omega) (by rfl) (by rfl) (by decide) (by rfl) (by rfl)) (by intro _;rfl))))))) (fun cl C s₀ H₀ fp pn=>(pv 0)) (by intro x hx;simp at hx;first | (subst hx;exact .inl rfl) | (rcases hx with rfl | rfl<;>exact .inl rfl) | (rcases hx with rfl | rfl | rfl<;>exact .inl rfl) | (rcases hx with rfl | rfl | rfl | rfl<;>exact .inl rfl) | (rcases hx with rfl | rfl | rfl | rfl | rfl<;>exact .inl rfl)) (by rfl) (by decide) (by decide +kernel) (by intro _;rfl)))))))))))),?_⟩;refine Yq fun R rr=>?_
 walk_at "rd";generalize hd:some d=r at hw
 cases hw with
 | wh o ho =>
  cases hd
  refine ⟨_,aA.of hS,_,Yj (j:=0) rfl,rr _ _ (cL rfl rfl ?_)⟩;walk_at "rd";exact ⟨_,aA.of hS,_,Yj (j:=1) rfl,lo,o,rfl,ho,fun D H' sm gD hD=>q D _ H' sm gD hD (F2.rng fun x _=>rfl)⟩
 | tx l h hl =>
  cases hd
  refine ⟨_,aA.of hS,_,Yj (j:=0) rfl,rr _ _ (aK rfl (by decide +kernel) (cL rfl rfl ?_))⟩;walk_at "rd";exact ⟨_,rfl,.inl ⟨l,rfl,hl,fun D H' sm gD hD=>q D _ H' sm gD hD (by
   refine F2.of (by rw [st,Ζ,Ζ]) fun i x y e1 e2=>?_
   rw [Ξ] at e1
   rw [st,Ξ] at e2
   obtain ⟨z,hz,rfl⟩:=ο.mp e1;rw [hz] at e2
   cases Θ e2
   rfl)⟩⟩
 | rw a' u w r1 r2 h h1 h2 =>
  obtain ⟨b',ww,t,e1,e2,e3,e4⟩:=hS;refine ⟨_,aA.of e1,_,Yj (j:=0) rfl,rr _ _ (aK rfl (by decide +kernel) (aK rfl (by decide +kernel) (cL rfl rfl ?_)))⟩;walk_at "rd";obtain ⟨o,l,rfl,rfl,rfl⟩:∃ o l,d = .r o l/\r1=some (.n o)/\r2=some (.t l):=by
   match r1,r2,hd with
   | some (.n o),some (.t l),hd=>cases hd;exact ⟨o,l,rfl,rfl,rfl⟩
  obtain ⟨a2,_,ea,h'⟩:=hv
  cases ea
  rw [h] at h'
  cases h'
  obtain ⟨ho,hl1,hl2⟩:o<=9/\(∀ c∈l,c∈sg)/\l.length<=100:=hg
  match is_,hL.1 with
  | [i0,i1],_ =>
  refine Rr (K:=g.K) (fun b xs H2=>∃ bs:List Addr,xs=bs.map V.ref/\Yd H H2/\Nl H H2 bs (wi [.int (lo+(o:Nat)),.str (S l)] [ofs lo (cj o),gJ (wo l)])) (fun R r=>?_) ?_
  ·walk_at "rd"
   refine ⟨_,.inr (aA.of h),fun l' gl=>?_⟩;have sl:=Yd.aj gl (.lst [.int (lo+(o:Nat)),.str (S l)]);refine ⟨l',I,[.int (lo+(o:Nat)),.str (S l)],[i0,i1],[ofs lo (cj o),gJ (wo l)],rfl,Yb,by simp,sl _ _ hI,by simp,⟨rfl,fun i c z e1 e2=>sl _ _ (hL.2 i c z e1 e2)⟩,⟨100,fun s hs=>?_,by simp⟩,fun D bs H2 s2 gD hD _ nl=>r D _ H2 (ao.of hD) ⟨bs,rfl,sl.trans s2,⟨nl.len,fun a ha=>sl.free (nl.nw a ha),nl.nd,nl.at_⟩⟩⟩;simp only [Υ,ι,or_false] at hs;rcases hs with rfl | rfl
   ·rw [ofs,Ζ];have:=Wx o;omega
   ·rw [gJ,Ζ,Vi];exact hl2
  ·rintro b xs H2 hbS ⟨bs,rfl,s2,nl⟩
   rw [wi2] at nl
   have bl:=nl.len;have w1:=Wx o;have bl2:bs.length<=200:=by
    rw [bl,Ρ,Ζ,Ζ,ofs,gJ,Ζ,Ζ,Vi];omega
   refine ⟨by rw [Ζ];omega,fun D i y H'=>∃ t z,y = .ref t/\(((ofs lo (cj o)).map fun s=>[s,V.str (S l)])++(gJ (wo l)).map fun s=>[V.int (lo+(o:Nat)),s])[i]?=some z/\H' t=some (.tup z),fun D i y Ha Hb ⟨t,d,e1,e2,e3⟩ s=>⟨t,d,e1,e2,s _ _ e3⟩,fun D i y Ha zs zs' ⟨t,d,e1,e2,e3⟩ hD=>⟨t,d,e1,e2,by rw [Ye (YW e3 hD (by intro z;cases z))];exact e3⟩,?_,?_⟩
   ·intro D i x H' zs hx sm hD R r
    rw [Ξ] at hx
    obtain ⟨c,hc,rfl⟩:=ο.mp hx;have hi:=(Ι.mp hc).1;have hz:=Η (l:=((ofs lo (cj o)).map fun s=>[s,V.str (S l)])++(gJ (wo l)).map fun s=>[V.int (lo+(o:Nat)),s]) (i:=i) (by rw [<- bl];exact hi);walk_at "rd";exact ⟨_,.inl ⟨ao.of (sm _ _ (nl.at_ i c _ hc hz)),fun l gl=>r _ _ (.aj gl _) ⟨l,_,rfl,hz,Yb⟩⟩⟩
   ·intro D ys H' gD sm hD hyl hr
    rw [Ζ,bl] at hyl
    have s3:=s2.trans sm;have f:F2 (fun z d=>∃ x y,z=[V.int (lo+(x:Nat)),V.str (S y)]/\d=Dv.r x y) (((ofs lo (cj o)).map fun s=>[s,V.str (S l)])++(gJ (wo l)).map fun s=>[V.int (lo+(o:Nat)),s]) (st .rw (.r o l)):=by
     rw [ofs,gJ,d3,d3,st];exact F2.app (F2.rng fun x _=>⟨x,l,rfl,rfl⟩) (F2.of (by rw [Ζ,Ζ]) fun i x y e1 e2=>by
      rw [Ξ] at e1 e2
      obtain ⟨z,hz,rfl⟩:=ο.mp e1;rw [hz] at e2
      cases Θ e2
      exact ⟨o,z,rfl,rfl⟩)
    refine q D ys H' s3 (s2.free gD) hD (F2.of (by rw [hyl,f.len]) fun i y d e1 e2=>?_);obtain ⟨t,z,rfl,hz,ht⟩:=hr i y e1;obtain ⟨x,y,rfl,rfl⟩:=f.get i z d hz e2;exact ⟨t,trivial,rfl,ht⟩
 | ls s z hs a' us rs h l hl h2 =>
  obtain ⟨w,e1,e2⟩:=hS.ls hs;obtain ⟨n1,n2,n3,n4,n5,n6⟩:=UD hs;refine ⟨_,aA.of e1,_,Yj (j:=0) rfl,rr _ _ (aK rfl n1 (aK rfl n2 (aK rfl n3 (aK rfl n5 (aK rfl n4 (aK rfl n6 (Yq fun R rr=>?_)))))))⟩;walk_at "rd";obtain ⟨os,rfl,hno⟩:∃ os,d = .l os/\nums rs=some os:=by
   rw [iD] at hd
   cases e:nums rs with
   | none=>rw [e] at hd;cases hd
   | some os =>
    rw [e] at hd
    dsimp only at hd
    cases c:ord s os with
    | true=>rw [c] at hd;cases hd;exact ⟨os,rfl,rfl⟩
    | false=>rw [c] at hd;cases hd
  obtain ⟨ok,_⟩:=(UF hs).mp hg;obtain ⟨a2,_,ea,h'⟩:=id hv
  cases ea
  rw [h] at h'
  cases h'
  have ol:(ofs lo os).length=os.length:=Ζ _;have hrs:rs=os.map fun o=>some (Dv.n o):=by
   refine gm fun i=>?_
   rw [Ξ]
   cases eo:os[i]? with
   | none =>
    have:=bX.mp eo;exact bX.mpr (by omega)
   | some o =>
    have hi:=(Ι.mp eo).1;have er:rs[i]?=some (rs[i]'(by omega)):=Η _;rw [er];refine congrArg some ?_;exact Ygl (ok.2 o (Τ eo)) (h2 i _ _ (by rw [ofs,Ξ,eo];rfl) er)
  subst hrs;have hLl:(((ofs lo os).zip (os.map fun o=>some (Dv.n o))).map fun w=>((.wh:Sk),w.1,w.2)).map (Q3 lo)=os.map fun o=>ofs lo (cj o):=by
   rw [ofs,List.zip_map',d3,d3];rfl
  rw [hLl] at hL
  have hsl:∀ s∈os.map (fun o=>ofs lo (cj o)),s.length<=100:=fun s hs=>by
   obtain ⟨o,_,rfl⟩:=ψ.mp hs;have:=Wx o;rw [ofs,Ζ];omega
  have ok1:=ok.1;have il:=hL.1;rw [Ζ] at il
  have hlen:∀ (as1 as2:List Addr),as1.length=(wo (ofs lo os)).length->as2.length=(KW.wi (ofs lo os) (os.map fun o=>ofs lo (cj o))).length->as1.length+as2.length<=10200:=fun as1 as2 h5 h4=>by
   have h3:=Q0 (us:=ofs lo os) hsl _ (Φ _);rw [Vi] at h5
   unfold KW.wi at h4;rw [Ζ] at h3 h4
   omega
  refine ⟨.ref a',rfl,.inr ⟨a',ofs lo os,rfl,h,by omega,fun D1 as1 H1 s1 gD1 hD1 gH=>⟨a',I,ofs lo os,is_,_,rfl,s1 _ _ h,by omega,s1 _ _ hI,by omega,⟨hL.1,fun i c z e1 e2=>s1 _ _ (hL.2 i c z e1 e2)⟩,⟨100,hsl,by omega⟩,fun D2 as2 H2 s2 gD2 hD2 _ eN=>⟨D1,rfl,D2,rfl,_,s2 _ _ hD1,_,hD2,few ?_,fun p gp=>rr _ _ ?_⟩⟩⟩⟩
  ·have:=hlen as1 as2 gH.len eN.len
   rw [Ζ,Ζ];omega
  have zm:=Yd.aj gp (.lst (as1.map V.ref++as2.map V.ref));have s3:=(s1.trans s2).trans zm;have yR:=hlen as1 as2 gH.len eN.len;have f1:=Hh lo os;have f2:F2 (F2 fun (v:V) (o:Nat)=>v = .int (lo+(o:Nat))) (os.map fun o=>ofs lo (cj o)) (os.map cj):=F2.rng fun o _=>Hh lo (cj o)
  have k1:F2 (fun a os=>upd H2 p (.lst (as1.map V.ref++as2.map V.ref)) a=some (.lst (ofs lo os))) as1 (wo os):=(Nl.nums (H:=H) ⟨gH.len,gH.nw,gH.nd,fun i c z e1 e2=>zm _ _ (s2 _ _ (gH.at_ i c z e1 e2))⟩ f1.wo);have k2:F2 (fun a os=>upd H2 p (.lst (as1.map V.ref++as2.map V.ref)) a=some (.lst (ofs lo os))) as2 (KW.wi os (os.map cj)):=(Nl.nums (H:=H1) ⟨eN.len,eN.nw,eN.nd,fun i c z e1 e2=>zm _ _ (eN.at_ i c z e1 e2)⟩ (f1.wi f2));have k3:=k1.app k2;have kl:=k3.len;walk_at "rd";refine Ydw (K:=g.K) (xs:=as1.map V.ref++as2.map V.ref) (ps:=wo os++KW.wi os (os.map cj)) (by rw [<- af,Ζ];exact kl) (ord s) (fun R r=>by walk_at "rd";exact r p _ (.refl _) (ao.of Yb)) (by rw [Ρ,Ζ,Ζ];omega) ?_ ?_ ?_
  ·intro i x q' H' hx hq sm R r
   rw [<- af,Ξ] at hx
   obtain ⟨c,hc,rfl⟩:=ο.mp hx;have hc':=sm _ _ (k3.get i c q' hc hq);walk_at "rd";have okq:okN q':=(UH (sg:=[]) (s := .my) (d := .l os) (d' := .l q') ok (ψ.mpr ⟨q',ip.mpr ⟨Τ hq,rfl⟩,rfl⟩)).1;have r0:=r H' (.refl _);by_cases em:z="many"
   ·rw [show ord s q'=true by cases s<;>first | (cases hs;done) | rfl | (cases hs;exact absurd em (by decide +kernel))] at r0
    exact Xd em r0
   ·refine YH em ⟨_,_,_,sm _ _ (s3 _ _ hst),Z7,Z5,_,Qb _ _,B,lo,sg,a,s,_,_,rfl,hS.tp (YT (Yo (s3.trans sm))),G8 hs hc' okq,fun aF s5=>⟨_,rfl,?_⟩⟩
    have r1:=r aF s5
    cases e:ord s q'<;>(rw [e] at r1;exact r1)
  ·intro x H' sm R r
   walk_at "rd";exact r H' (.refl _)
  ·intro D zs H' gD sm hD hz
   have s4:=s3.trans sm;refine q D zs H' s4 (s3.free gD) hD (F2.of (by rw [hz.len,st,Ζ]) fun i y d e1 e2=>?_);rw [st,Ξ] at e2
   obtain ⟨x,hx,rfl⟩:=ο.mp e2;obtain ⟨j,h1,h3⟩:=hz.get i y x e1 hx;rw [<- af,Ξ] at h1
   obtain ⟨c,hc,rfl⟩:=ο.mp h1;exact ⟨c,trivial,rfl,sm _ _ (k3.get j c x hc h3)⟩
 | pk a' u r h hu =>
  obtain ⟨b',c0,c1,w,t,e1,hP⟩:=id hS;refine ⟨_,aA.of e1,_,Yj (j:=0) rfl,rr _ _ (aK rfl (by decide +kernel) (aK rfl (by decide +kernel) (aK rfl (by decide +kernel) (aK rfl (by decide +kernel) (cL rfl rfl ?_)))))⟩;walk_at "rd";obtain ⟨o,rfl,rfl⟩:∃ o,d = .p o/\r=some (.n o):=by
   match r,hd with
   | some (.n o),hd=>cases hd;exact ⟨o,rfl,rfl⟩
  match is_,hL.1 with
  | [i0],_ =>
  have hi0:=hL.2 0 i0 _ rfl rfl;refine ⟨_,_,hst,Q2 _ _ (by decide +kernel) (by decide +kernel),sp,ds,ls,B,lo,sg,a,_,o,rfl,hst,hS,hv,hg,fun D1 H1 s1 g1 hD1=>?_⟩;obtain ⟨a2,_,ea,h'⟩:=id hv
  cases ea
  have w1:=Wx o;refine Ew (K:=g.K) (xs:=ofs lo (cj o)) ((ofs lo (cj o)).map fun u=>[.str "a",u]) (fun R r=>by walk_at "rd";exact ⟨_,ao.of (s1 _ _ hI),_,Yj (j:=0) rfl,r i0 H1 (.refl _) (ao.of (s1 _ _ hi0))⟩) (by simp) (by rw [ofs,Ζ];omega) ?_ ?_
  ·intro i u y H' hu hy sm R r
   rw [Ξ,hu] at hy
   cases Θ hy
   walk_at "rd";exact ⟨_,aA.of (sm _ _ (s1 _ _ h')),_,Yj (j:=0) rfl,few (by decide),fun p hp=>r p _ (.aj hp _) Yb⟩
  ·intro D2 as H2 g2 sm hd2 hal hat
   rw [ofs,Ζ] at hal
   refine ⟨D1,rfl,D2,rfl,_,sm _ _ hD1,_,hd2,few (by simp;omega),fun p gp=>?_⟩;have s3:=s1.trans sm;refine q p _ _ (s3.trans (.aj gp _)) (s3.free gp) Yb ?_;refine F2.of (by rw [kD,Ζ,st,Ζ];exact hal) fun i y d e1 e2=>?_
   rw [kD,Ξ] at e1
   rw [st,Ξ] at e2
   obtain ⟨t,ht,rfl⟩:=ο.mp e1;obtain ⟨x,hx,rfl⟩:=ο.mp e2;exact ⟨t,trivial,rfl,(Yd.aj gp _) _ _ (hat i t _ ht (by rw [ofs,Ξ,Ξ,hx];rfl))⟩
inductive j7 (K:Λ) (CS:Addr) (m:Nat) (vs:List V) (H:Hp) (Q:VK) (E_:XK):Prop
 | mk (sp ds ls:Addr) (B:V) (lo:Int) (sg:List Nat) (a:Addr) (s:Sk) (v:V) (d:Dv) (h0:vs=[.ref sp,.ref a,v]) (h1:H sp=some (.ins CS ds (fS B ls))) (h2:Xc H lo sg a s) (h3:gd sg s d) (h4:VT H lo v d) (h5:fW s<=m) (h6:∀ D ys H',Yd H H'->H D=none->H' D=some (.lst ys)->F2 (VT H' lo) ys (st s d)->Q (.ref D) H')
theorem Bs {K:Λ} {CS:Addr} {vs:List V} {H:Hp} {Q:VK} {E:XK} (h:j7 K CS 0 vs H Q E):False:=by
 obtain ⟨sp,ds,ls,B,lo,sg,a,s,v,d,_,_,_,_,_,h,_⟩:=h
 cases s<;>simp [fW] at h
def Leaf (H:Hp) (lo:Int) (sg:List Nat) (w:Sk×V×Option Dv):Prop:=∃ dd,w.2.2=some dd/\gd sg w.1 dd/\VT H lo w.2.1 dd/\fW w.1=1
theorem YfO {H:Hp} {lo:Int} {sg:List Nat} {w:Sk×V×Option Dv} {dd:Dv} {ys:List V} (h:w.2.2=some dd) (g:gd sg w.1 dd) (l:fW w.1=1) (f:F2 (VT H lo) ys (st w.1 dd)):ys=Q3 lo w:=by
 obtain ⟨s,v,r⟩:=w
 cases h
 cases s with
 | wh =>
  cases dd<;>first | exact g.elim | skip
  refine gm fun i=>?_
  show _=(ofs lo (cj _))[i]?
  rw [ofs,Ξ];have hl:=f.len;rw [st,Ζ] at hl
  cases e:(cj _)[i]? with
  | none =>
   have:=bX.mp e;exact bX.mpr (by omega)
  | some o =>
   have hi:=(Ι.mp e).1;have ey:ys[i]?=some (ys[i]'(by omega)):=Η _;rw [ey];exact congrArg some (f.get i _ (.n o) ey (by rw [st,Ξ,e];rfl))
 | tx =>
  cases dd<;>first | exact g.elim | skip
  refine gm fun i=>?_
  show _=(gJ (wo _))[i]?
  rw [gJ,Ξ];have hl:=f.len;rw [st,Ζ] at hl
  cases e:(wo _)[i]? with
  | none =>
   have:=bX.mp e;exact bX.mpr (by omega)
  | some o =>
   have hi:=(Ι.mp e).1;have ey:ys[i]?=some (ys[i]'(by omega)):=Η _;rw [ey];exact congrArg some (f.get i _ (.t o) ey (by rw [st,Ξ,e];rfl))
 | rw=>cases l
 | my=>cases l
 | ri=>cases l
 | un=>cases l
 | pk=>cases l
theorem Bt {H:Hp} {lo:Int} {sg:List Nat} {s:Sk} {v:V} {d:Dv} (g:gd sg s d) (h:VT H lo v d):∃ L,Wi H lo sg s v (some d) L/\L.length<=100/\∀ w∈L,Leaf H lo sg w/\fW s=2:=by
 have lst:∀ z,dY s=some z->fW s=2->∀ os,d = .l os->∃ L,Wi H lo sg s v (some d) L/\L.length<=100/\∀ w∈L,Leaf H lo sg w/\fW s=2:=fun z hs h2 os e=>by
  subst e;obtain ⟨ok,c⟩:=(UF hs).mp g;obtain ⟨a,_,rfl,h⟩:=h;have ol:(ofs lo os).length=os.length:=Ζ _;have:=Wi.ls (sg:=sg) (lo:=lo) s z hs a (ofs lo os) (os.map fun o=>some (Dv.n o)) h (by rw [ol,Ζ]) (by rw [ol];exact ok.1) fun i u r e1 e2=>by
   obtain ⟨o,h1,rfl⟩:=Qa e1;rw [Ξ,h1] at e2
   cases Θ e2
   exact .wh o (ok.2 o (Τ h1))
  rw [iD,VV] at this
  dsimp only at this;rw [c,ofs,List.zip_map',d3] at this
  refine ⟨_,this,by rw [Ζ];exact ok.1,fun w hw=>?_⟩;obtain ⟨o,ho,rfl⟩:=ψ.mp hw;exact ⟨⟨.n o,rfl,ok.2 o ho,rfl,rfl⟩,h2⟩
 cases s with
 | wh=>cases d<;>first | exact g.elim | (cases (show v=_ from h);exact ⟨_,.wh _ g,by simp,fun w hw=>by cases hw⟩)
 | tx=>cases d<;>first | exact g.elim | (cases (show v=_ from h);exact ⟨_,.tx _ g.1 g.2,by simp,fun w hw=>by cases hw⟩)
 | rw =>
  cases d<;>first | exact g.elim | skip
  obtain ⟨a,_,rfl,h⟩:=h;refine ⟨_,.rw a _ _ _ _ h (.wh _ g.1) (.tx _ g.2.1 g.2.2),by simp,fun w hw=>⟨?_,rfl⟩⟩;rcases Υ.mp hw with rfl | hw
  ·exact ⟨_,rfl,g.1,rfl,rfl⟩
  ·cases ρ.mp hw
   exact ⟨_,rfl,g.2,rfl,rfl⟩
 | pk =>
  cases d<;>first | exact g.elim | skip
  obtain ⟨a,_,rfl,h⟩:=h;refine ⟨_,.pk a _ _ h (.wh _ g),by simp,fun w hw=>⟨?_,rfl⟩⟩
  cases ρ.mp hw
  exact ⟨_,rfl,g,rfl,rfl⟩
 | my=>cases d<;>first | exact g.elim | exact lst _ rfl rfl _ rfl
 | ri=>cases d<;>first | exact g.elim | exact lst _ rfl rfl _ rfl
 | un=>cases d<;>first | exact g.elim | exact lst _ rfl rfl _ rfl
inductive SfV (H2:Hp) (lo:Int) (sp a:Addr) (v:V) (I:Addr) (L:List (Sk×V×Option Dv)) (i:Nat) (σ:St) (H':Hp):Prop
 | mk (o4 o5:Option V) (is_:List Addr) (e:σ=[some (.ref sp),some (.ref a),some v,some (.ref I),o4,o5]) (sb:SameBut I H2 H') (hI:H' I=some (.lst (is_.map V.ref))) (nI:I∉is_) (inn:yZ H' is_ ((L.take i).map (Q3 lo)))
theorem Ho {k:Nat} {Z2:Addr} (R:g.dU Z2 "steps_from" "Stepper.steps_from" ZC ["self","shape","value"]) (yV:g.Fn k "things_within" ["book","shape","value"] (yP g.K)) (ZD:g.Me k Z2 "steps_from" ["self","shape","value"] (j7 g.K Z2 m)) (Z1L:g.Me k Z2 "steps_by" ["self","shape","value","inner"] (pU g.K Z2)) (Z7:Cls g.K Z2) (Z5:YY g.K Z2 "book") (Z6:YY g.K Z2 "lister"):g.Me (k+1) Z2 "steps_from" ["self","shape","value"] (j7 g.K Z2 (m+1)):=by
 refine R.me Zo (fun vs H Q E h=>by obtain ⟨sp,ds,ls,B,lo,sg,a,s,v,d,rfl,hst,hS,hg,hv,hm,q⟩:=h;rfl) fun f_ cdv A outer s H vs Q E hr h=>?_
 obtain ⟨sp,ds,ls,B,lo,sg,a,s,v,d,rfl,hst,hS,hg,hv,hm,q⟩:=h;refine ⟨_,(@Yf _ _ _ _ _ (@YA _ _ (3) _ _ _ _ Zo.nd rfl (.inl rfl) (@Yw _ _ _ _ Yc) (by rfl) (by first | exact .inl rfl | exact .inr rfl | assumption)) (@Yf _ _ _ _ _ (@XE _ _ _ _ _ _ _ _ bp rfl (@Xg _ _ _ _ (@Yz _ _ _ _ _ _ _ _ _ _ _ _ yV hr (@Ya _ _ _ _ _ (@vV _ _ _ _ _ (pv 0) rfl) (@Ya _ _ _ _ _ (pv 1) (@Ya _ _ _ _ _ (pv 2) Yc (by rfl)) (by rfl)) (by rfl)) (by omega) (by rfl) (by rfl) (by decide) (by rfl) (by rfl))) (@Wq _ _ _ _ _ (2) rfl (@YX _ _ _ _ _ (@YB _ _ (4) _ Zo.nd rfl (.inl rfl) (by first | exact .inl rfl | exact .inr rfl | assumption)) (@YX _ _ _ _ _ (@YB _ _ (5) _ Zo.nd rfl (.inl rfl) (by first | exact .inl rfl | exact .inr rfl | assumption)) X4 (by rfl)) (by rfl)) (by rfl) (by rfl)) (@Yg _ _ _ (@Y2 _ _ _ _ (@Xu _ _ _ _ _ _ _ _ _ _ _ _ bc be bn Y9 (pv 3) (@Ya _ _ _ _ _ (@QT _ _ _ _ _ _ _ _ _ _ _ _ _ _ _ _ ZD Z7 hr (pv 0) (@Ya _ _ _ _ _ (pv 4) (@Ya _ _ _ _ _ (pv 5) Yc (by rfl)) (by rfl)) (by omega) (by rfl) (by rfl) (by rfl) (by rfl)) Yc (by rfl)) (by rfl) (by rfl) (by rfl) (by rfl) (by rfl)) (by rfl))) (by intro _;rfl)) (@Yg _ _ _ (@Yl _ _ _ _ (@QT _ _ _ _ _ _ _ _ _ _ _ _ _ _ _ _ Z1L Z7 hr (pv 0) (@Ya _ _ _ _ _ (pv 1) (@Ya _ _ _ _ _ (pv 2) (@Ya _ _ _ _ _ (pv 3) Yc (by rfl)) (by rfl)) (by rfl)) (by omega) (by rfl) (by rfl) (by rfl) (by rfl)))))),?_⟩;refine Yq fun R rr=>?_
 walk_at "rd";refine ⟨few (by decide),fun I gI=>rr _ _ (Yq fun R rr=>?_)⟩;have sI:=Yd.aj gI (.lst []);have kI:=Yo sI;obtain ⟨L,hW,ach,hLf⟩:=Bt hg hv;refine WF (fun l xs H2=>∃ (ts:List Addr),xs=ts.map V.ref/\Yd (upd H I (.lst [])) H2/\H2 l=some (.lst (ts.map V.ref))/\l≠I/\Uf H2 lo sg ts L) (fun R r=>?_) ?_
 ·walk_at "rd"
  exact ⟨_,_,_,sI _ _ hst,Z7,Z5,_,Qb _ _,B,lo,sg,a,s,v,some d,L,rfl,hS.tp (YT kI),hW.kt kI,fun D ts H' s' gD hD pr=>r D _ H' (ao.of hD) ⟨ts,rfl,s',hD,(fun e=>by rw [e,Yb] at gD;cases gD),pr⟩⟩
 ·rintro l xs0 H2 _ ⟨ts,rfl,s2,hl,hlI,pr⟩
  have rN:=pr.1;have s02:=sI.trans s2;have oldS:∀ {H':Hp},SameBut I H2 H'->Yd H H':=fun sb b o e=>sb b o (Yk e gI) (s02 _ _ e)
  refine ⟨SfV H2 lo sp a v I L,⟨none,none,[],rfl,fun _ _ _ e=>e,s2 _ _ Yb,by simp,rfl,fun i a s e=>by cases e⟩,fun i σ H' _ ⟨_,_,_,_,sb,_,_,_⟩=>ao.of (sb _ _ hlI hl),?_,?_⟩
  ·rintro i x σ H' hx ⟨o4,o5,is_,rfl,sb,hI,nI,inn⟩
   rw [Ξ] at hx
   obtain ⟨t,ht,rfl⟩:=ο.mp hx;have hi:=(Ι.mp ht).1;have hwi:L[i]?=some (L[i]'(by omega)):=Η _;generalize L[i]'(by omega)=w at hwi;have uH:=Τ hwi;obtain ⟨c,e1,e2⟩:=pr.2 i t w ht hwi;obtain ⟨⟨dd,f1,f2,f3,f4⟩,hs2⟩:=hLf w uH;have Hq:Tp H2 H':=fun b ys e=>sb b _ (fun z=>by rw [z,s2 _ _ Yb] at e;cases e) e
   have k5:=oldS sb;have il:=inn.1;rw [Ζ,ba] at il
   refine ⟨t,_,rfl,aA.of (Hq _ _ e1),rfl,_,_,rfl,_,_,rfl,rfl,?_⟩;walk_at "rd";refine ⟨.inl ⟨rfl,_,ao.of hI⟩,_,_,k5 _ _ hst,Q2 _ _ (by decide +kernel) (by decide +kernel),sp,ds,ls,B,lo,sg,c,w.1,w.2.1,dd,rfl,k5 _ _ hst,e2.tp Hq,f2,f3.kt (Yo k5),by omega,fun D ys H5 s5 gD hD fy=>?_⟩;have hI5:=s5 _ _ hI;have DI:D≠I:=fun z=>by rw [z,hI] at gD;cases gD
   refine ⟨_,hI5,few (by rw [Ζ];omega),_,_,is_++[D],rfl,fun b o nb e=>by rw [Ye nb];exact s5 _ _ (sb b o nb e),by rw [Yb,af];rfl,fun h=>?_,?_⟩
   ·rcases ag.mp h with h | h
    ·exact nI h
    ·exact DI (ρ.mp h).symm
   ·rw [XA hwi,af]
    rw [YfO f1 f2 f4 fy] at hD
    refine ⟨by rw [Ρ,Ρ,inn.1];rfl,fun j b z c1 c2=>?_⟩;by_cases c:j<is_.length
    ·rw [ar c] at c1
     rw [ar (by have:=inn.1;omega)] at c2
     rw [Ye fun z=>nI (by rw [<- z];exact Τ c1)];exact s5 _ _ (inn.2 j b z c1 c2)
    ·have hj:j=is_.length:=by
      have:=(Ι.mp c1).1;rw [Ρ,aa] at this
      omega
     subst hj;rw [aE (Φ _),iN] at c1
     rw [inn.1,aE (Φ _),iN] at c2
     cases Θ c1
     cases Θ c2
     rw [Ye DI];exact hD
  ·rintro σ H' ⟨o4,o5,is_,rfl,sb,hI,nI,inn⟩
   refine rr _ _ ?_;rw [Ζ,rN,fq] at inn
   have k5:=oldS sb;walk_at "rd";refine ⟨_,_,k5 _ _ hst,Q2 _ _ (by decide +kernel) (by decide +kernel),sp,ds,ls,B,lo,sg,a,s,v,d,L,I,is_,rfl,k5 _ _ hst,hS.tp (YT (Yo k5)),hg,hv.kt (Yo k5),hW.kt (Yo k5),hI,inn,fun D ys H3 s3 gD hD f=>q D ys H3 (k5.trans s3) (k5.free gD) hD f⟩
def mR:Dv->Prop
 | .n _=>True
 | .t l=>l.length<=20
 | .r _ l=>l.length<=20
 | .l os=>os.length<=3
 | .p _=>True
theorem Ygm {sg:List Nat} {s:Sk} {d:Dv} (g:gd sg s d) (h:mR d):(st s d).length<=100:=by
 cases d with
 | n o=>rw [st,Ζ];have:=Wx o;omega
 | t l=>rw [st,Ζ,Vi];have h:l.length<=20:=h;omega
 | r o l=>rw [st,Ρ,Ζ,Ζ,Vi];have:=Wx o;have h:l.length<=20:=h;omega
 | l os =>
  rw [st,Ζ];have h:os.length<=3:=h;refine az (List.length_filter_le _ _) ?_;rw [Ρ,Vi];have h3:=Q0 (us:=os) (ss:=os.map cj) (M:=20) (fun s hs=>by obtain ⟨o,_,rfl⟩:=ψ.mp hs;exact Wx o) _ (Φ _);rw [Ζ] at h3
  show os.length+(KW.wi os (os.map cj)).length<=100
  unfold KW.wi;rw [Ζ];omega
 | p o=>rw [st,Ζ];have:=Wx o;omega
theorem Ygn {s:Sk} {d d':Dv} (h:mR d) (k:d'∈st s d):mR d':=by
 cases d with
 | n o=>obtain ⟨x,_,rfl⟩:=ψ.mp k;trivial
 | t l=>obtain ⟨x,hx,rfl⟩:=ψ.mp k;have:=VI hx;have h:l.length<=20:=h;show x.length<=20;omega
 | r o l =>
  have h:l.length<=20:=h;rcases ag.mp k with k | k
  ·obtain ⟨x,hx,rfl⟩:=ψ.mp k;exact h
  ·obtain ⟨x,hx,rfl⟩:=ψ.mp k;have:=VI hx;show x.length<=20;omega
 | l os =>
  have h:os.length<=3:=h;obtain ⟨x,hx,rfl⟩:=ψ.mp k;obtain ⟨hx,_⟩:=ip.mp hx
  show x.length<=3
  rcases ag.mp hx with hx | hx
  ·have:=VI hx;omega
  ·obtain ⟨m,hm,hx⟩:=List.mem_flatten.mp hx
   obtain ⟨i,hi,rfl⟩:=ψ.mp hm;obtain ⟨t,ht,rfl⟩:=ψ.mp hx;rw [gE,Ζ] at hi
   rw [Ρ,Ρ,ba,bb,aa];omega
 | p o=>obtain ⟨x,_,rfl⟩:=ψ.mp k;trivial
theorem Bu {sg:List Nat} {s:Sk} {d:Dv} (g:gd sg s d) (h:mR d):sz d<=100:=by
 have b:∀ o≤9,aU o<=4:=by decide +kernel
 have bl:∀ os:List Nat,(∀ o∈os,o<=9)->(os.map aU).sum<=4*os.length:=fun os=>by
  induction os with
  | nil=>exact fun _=>ay _
  | cons o os ih =>
   intro k;have:=ih fun x hx=>k x (.tail _ hx)
   have:=b o (k o (.head _));rw [ae,List.sum_cons,υ];omega
 cases d with
 | n o=>cases s<;>first | exact g.elim | (have:=b o g;show aU o<=100;omega)
 | t l=>have h:l.length<=20:=h;show l.length<=100;omega
 | r o l=>cases s<;>first | exact g.elim | (have:=b o g.1;have h:l.length<=20:=h;show aU o+l.length<=100;omega)
 | l os =>
  have h:os.length<=3:=h;have ok:okN os:=by cases s<;>first | exact g.elim | exact g.1 | exact g
  have:=bl os ok.2
  show os.length+(os.map aU).sum<=100
  omega
 | p o=>cases s<;>first | exact g.elim | (have:=b o g;show aU o<=100;omega)
def eO (sg:List Nat):Prop:=∀ c∈sg,c<1000
theorem rO {sg l:List Nat} (h:eO sg) (k:∀ c∈l,c∈sg):dq (S l)=true:=by
 show l.toArray.all (·<0x110000)=true
 rw [List.all_toArray,kb];intro c hc;have:=h c (k c hc);exact decide_eq_true (by omega)
theorem VJ {H:Hp} {lo:Int} {sg:List Nat} {s:Sk} {v:V} {d:Dv} (ks:eO sg) (g:gd sg s d) (h:VT H lo v d) (n:Nat):cI H 0 (n+2) v:=by
 cases d with
 | n o=>cases (show v=_ from h);exact .int _ _ _
 | t l=>cases (show v=_ from h);exact .str _ _ _ (by cases s<;>first | exact g.elim | exact rO ks g.1)
 | r o l =>
  obtain ⟨a,_,rfl,h⟩:=h;refine .tup _ _ a a _ _ h trivial h rfl (by simp) fun i u u' e1 e2=>?_
  match i,e1,e2 with
  | 0,e1,e2=>cases e1;cases e2;exact .int _ _ _
  | 1,e1,e2=>cases e1;cases e2;exact .str _ _ _ (by cases s<;>first | exact g.elim | exact rO ks g.2.1)
 | l os =>
  obtain ⟨a,_,rfl,h⟩:=h;have ok:okN os:=by cases s<;>first | exact g.elim | exact g.1 | exact g
  refine .lst _ _ a a _ _ h trivial h rfl (by rw [ofs,Ζ];exact ok.1) fun i u u' e1 e2=>?_
  rw [e1] at e2
  cases Θ e2
  obtain ⟨o,_,rfl⟩:=Qa e1;exact .int _ _ _
 | p o =>
  obtain ⟨a,_,rfl,h⟩:=h;refine .tup _ _ a a _ _ h trivial h rfl (by simp) fun i u u' e1 e2=>?_
  match i,e1,e2 with
  | 0,e1,e2=>cases e1;cases e2;exact .str _ _ _ (by decide +kernel)
  | 1,e1,e2=>cases e1;cases e2;exact .int _ _ _
def Fl:V->Prop
 | .ref _=>False
 | _=>True
theorem zq {N:Addr->Prop} {H H':Hp} {k n:Nat} {v v':V} (h:Cz N H H' k n v v') (f:Fl v):v'=v:=by
 cases h<;>first | rfl | exact f.elim
theorem Hr {N:Addr->Prop} {H H':Hp} {k n:Nat} {us us':List V} (hl:us.length=us'.length) (kk:∀ (i:Nat) u u',us[i]?=some u->us'[i]?=some u'->Cz N H H' k n u u') (f:∀ u∈us,Fl u):us'=us:=by
 refine gm fun i=>?_
 cases e:us[i]? with
 | none =>
  have:=bX.mp e;exact bX.mpr (by omega)
 | some u =>
  have hi:=(Ι.mp e).1;have e2:us'[i]?=some (us'[i]'(by omega)):=Η _;rw [e2];exact congrArg some (zq (kk i _ _ e e2) (f u (Τ e)))
theorem Hs {N:Addr->Prop} {H H':Hp} {lo:Int} {k n:Nat} {v v':V} {d:Dv} (c:Cz N H H' k n v v') (h:VT H lo v d):cO N H' lo v' d:=by
 have tp:∀ a us,v = .ref a->H a=some (.tup us)->(∀ u∈us,Fl u)->∃ b,N b/\v' = .ref b/\H' b=some (.tup us):=fun a us e ha f=>by
  subst e
  cases c with
  | cg _ _ _ h'=>rw [ha] at h';cases h'
  | tup _ _ _ b ws ws' ha' nb hb hl l kk =>
   rw [ha] at ha'
   cases HO.tup.inj (Θ ha')
   rw [Hr hl kk f] at hb
   exact ⟨b,nb,rfl,hb⟩
  | lst _ _ _ b ws ws' ha'=>rw [ha] at ha';cases ha'
 cases d with
 | n o=>cases (show v=_ from h);exact zq c trivial
 | t l=>cases (show v=_ from h);exact zq c trivial
 | r o l=>obtain ⟨a,_,e,h⟩:=h;exact tp a _ e h fun u hu=>by simp only [Υ,ι,or_false] at hu;rcases hu with rfl | rfl<;>trivial
 | p o=>obtain ⟨a,_,e,h⟩:=h;exact tp a _ e h fun u hu=>by simp only [Υ,ι,or_false] at hu;rcases hu with rfl | rfl<;>trivial
 | l os =>
  obtain ⟨a,_,rfl,ha⟩:=h
  cases c with
  | cg _ _ _ h'=>rw [ha] at h';cases h'
  | tup _ _ _ b ws ws' ha'=>rw [ha] at ha';cases ha'
  | lst _ _ _ b ws ws' ha' nb hb hl l kk =>
   rw [ha] at ha'
   cases HO.lst.inj (Θ ha')
   rw [Hr hl kk fun u hu=>by obtain ⟨o,_,rfl⟩:=ψ.mp hu;trivial] at hb
   exact ⟨b,nb,rfl,hb⟩
structure Gv (H:Hp) (lo:Int) (sg:List Nat) (s:Sk) (v:V) (d:Dv):Prop where
 ks:eO sg
 gd:KW.gd sg s d
 sm:mR d
 vt:VT H lo v d
theorem Gv.kt {H H':Hp} (k:Kt H H') {lo:Int} {sg:List Nat} {s:Sk} {v:V} {d:Dv} (h:Gv H lo sg s v d):Gv H' lo sg s v d:=⟨h.ks,h.gd,h.sm,h.vt.kt k⟩
theorem Gv.ctr {H:Hp} {lo:Int} {sg:List Nat} {s:Sk} {v:V} {d:Dv} (h:Gv H lo sg s v d) (n:Nat):cI H 0 (n+2) v:=VJ h.ks h.gd h.vt n
inductive fJ (K:Λ) (C:Addr) (vs:List V) (H:Hp) (Q:VK) (E:XK):Prop
 | mk (B:V) (lo:Int) (sg:List Nat) (a:Addr) (s:Sk) (v:V) (h0:vs=[B,.ref a,v]) (h1:Xc H lo sg a s) (h2:((Vx H lo sg s v none/\∀ H' d,Yd H H'->H' d=none->E (.ref C) (some d) (upd H' d (Xx d [("value",v)])))\/∃ d,Gv H lo sg s v d/\∀ L ys H',Yd H H'->H L=none->H' L=some (.lst ys)->F2 (cO (fun b=>H b=none) H' lo) ys (st s d)->Q (.ref L) H'))
theorem Ya3 {k:Nat} {Z0 Z2:Addr} (R:g.Raw "steps_of" "steps_of" yF ["book","shape","value"]) (ZN:g.Fn k "copied" ["thing"] (ig 4)) (Zq:g.bY k "refuse_no_value" ["book","shape","value"] (jr g.K Z0)) {dB:Nat} (Z1M:g.Ma dB "Stepper" Z2 ["self","book"] (Hf Z2)) (pW:dB+1<=k) (ZD:g.Me k Z2 "steps_from" ["self","shape","value"] (j7 g.K Z2 2)) (Z7:Cls g.K Z2) (Z5:YY g.K Z2 "book") (Z6:YY g.K Z2 "lister"):g.bY (k+1) "steps_of" ["book","shape","value"] (fJ g.K Z0):=by
 refine R.fnX T3 (fun vs H Q E h=>by obtain ⟨B,lo,sg,a,s,v,rfl,hS,h⟩:=h;rfl) fun f_ cdv A outer s H vs Q E hr h=>?_
 obtain ⟨B,lo,sg,a,s,v,rfl,hS,h⟩:=h;refine ⟨_,(@Yf _ _ _ _ _ (@Y2 _ _ _ _ (@XF _ _ _ _ _ _ _ _ _ _ _ _ _ Zq hr Ux (@Ya _ _ _ _ _ (pv 0) (@Ya _ _ _ _ _ (pv 1) (@Ya _ _ _ _ _ (pv 2) Yc (by rfl)) (by rfl)) (by rfl)) (by omega) (by rfl) (by rfl) (by decide) (by rfl) (by rfl)) (by rfl)) (@Yg _ _ _ (PS.cB (@Yl _ _ _ _ (@Yz _ _ _ _ _ _ _ _ _ _ _ _ ZN hr (@Ya _ _ _ _ _ (@QT _ _ _ _ _ _ _ _ _ _ _ _ _ _ _ _ ZD Z7 hr (@Ec _ _ _ _ _ _ _ _ _ _ _ _ _ Z1M hr (@Ya _ _ _ _ _ (pv 0) Yc (by rfl)) (by omega) (by rfl) (by rfl) (by decide) (by rfl) (by rfl)) (@Ya _ _ _ _ _ (pv 1) (@Ya _ _ _ _ _ (pv 2) Yc (by rfl)) (by rfl)) (by omega) (by rfl) (by rfl) (by rfl) (by rfl)) Yc (by rfl)) (by omega) (by rfl) (by rfl) (by decide) (by rfl) (by rfl)))))),?_⟩;refine Yq fun R rr=>?_
 walk_at "rd";rcases h with ⟨hv,qe⟩ | ⟨d,hg,q⟩
 ·exact ⟨B,lo,sg,a,s,v,none,rfl,hS,hv,(fun z=>by cases z),fun _ H' d' s' gd'=>qe H' d' s' gd'⟩
 ·refine ⟨B,lo,sg,a,s,v,some d,rfl,hS,Q1 hg.gd hg.vt,fun _ H1 s1=>rr _ _ ?_,(fun z=>by cases z)⟩
  walk_at "rd";intro x dx gx zu ne;refine ⟨x,dx,B,rfl,Yb,fun ls H2 sb hst=>⟨rfl,_,_,hst,Q2 _ _ (by decide +kernel) (by decide +kernel),x,dx,ls,B,lo,sg,a,s,v,d,rfl,hst,hS.tp (YT (Yo (s1.trans (W0 gx zu sb)))),hg.gd,hg.vt.kt (Yo (s1.trans (W0 gx zu sb))),yW s,fun D ys H3 s3 gD hD f=>⟨.ref D,rfl,?_,fun v' H4 s4 cz=>?_⟩⟩⟩
  ·have hl:=f.len
   have:=Ygm hg.gd hg.sm;refine .lst _ _ D D _ _ hD trivial hD rfl (by omega) fun i u u' e1 e2=>?_
   rw [e1] at e2
   cases Θ e2
   have hi:=(Ι.mp e1).1;have hd:(st s d)[i]?=some ((st s d)[i]'(by omega)):=Η _;exact VJ hg.ks (UH hg.gd (Τ hd)).1 (f.get i u _ e1 hd) 1
  ·cases cz with
   | tup _ _ _ b ws ws' ha'=>rw [hD] at ha';cases ha'
   | lst _ _ _ b ws ws' ha' nb hb hl l kk =>
    rw [hD] at ha'
    cases HO.lst.inj (Θ ha')
    have sA:=(s1.trans (W0 gx zu sb)).trans s3;refine q b ws' H4 (sA.trans s4) (sA.free nb) hb (F2.of (by rw [<- hl,f.len]) fun i y d' e1 e2=>?_);have hi:=(Ι.mp e1).1;have e0:ys[i]?=some (ys[i]'(by omega)):=Η _;exact (Hs (kk i _ y e0 e1) (f.get i _ d' e0 e2)).map fun a o u _ e=>⟨sA.free u,e⟩
def NL (H H':Hp):Prop:=(∀ b φ,H b=some (.ext φ)->H' b=some (.ext φ))/\∀ b o u,H b=some (.bR o u)->H' b=some (.bR o u)
theorem NL.trans {H H1 H2:Hp} (a:NL H H1) (b:NL H1 H2):NL H H2:=⟨fun c o e=>b.1 c o (a.1 c o e),fun c o u e=>b.2 c o u (a.2 c o u e)⟩
theorem Wn {H H':Hp} (s:Yd H H'):NL H H':=⟨fun b o e=>s b _ e,fun b o u e=>s b _ e⟩
theorem Kt.nl {H H':Hp} (k:Kt H H'):NL H H':=⟨fun b φ e=>k b _ (by intro _ z;cases z) e,fun b o u e=>k b _ (by intro _ z;cases z) e⟩
abbrev Ht (g:Gx) (n:Nat) (f:Addr) (fd:bt) (ps:List Str) (sp:Sp):Prop:=bw g.P g.w g.K g.mg g.base cG n f fd ps sp/\∀ us:List Α,us.length=ps.length->iq fd ⟨us,[]⟩=pure (ps.zip us)
def Xo (g:Gx) (H:Hp) (f:Addr) (b:Bool):Prop:=∃ fd sp,Ht g 45 f fd ["_law_thing"] sp/\H f=some (cD f fd) /\
 ∀ (H1:Hp) (v:V) (Q:VK),NL H H1->(∀ H',Yd H1 H'->Q (.bl b) H')->H1 f=some (cD f fd)/\sp [v] H1 Q E0
theorem Xo.nl {g:Gx} {H H':Hp} {f:Addr} {b:Bool} (h:Xo g H f b) (n:NL H H'):Xo g H' f b:=by
 obtain ⟨fd,sp,h1,h2,h3⟩:=h;exact ⟨fd,sp,h1,n.1 _ _ h2,fun H1 v Q n1=>h3 H1 v Q (n.trans n1)⟩
inductive iQ (g:Gx) (vs:List V) (H:Hp) (Q:VK) (E_:XK):Prop
 | mk (f:Addr) (v:V) (b:Bool) (h0:vs=[.ref f,v]) (h1:Xo g H f b) (h2:cI H 0 4 v) (h3:∀ H',Yd H H'->Q (.bl b) H')
theorem Yes {k:Nat}  (R:g.Raw "holds" "holds" U7 ["judge","value"]) (ZN:g.Fn k "copied" ["thing"] (ig 4)) (hkc:45<=k):g.Fn (k+1) "holds" ["judge","value"] (iQ g):=by
 refine R.fn TX (fun vs H Q E h=>by obtain ⟨f,v,b,rfl,⟨fd,s1,ok,hf,hj⟩,hv,q⟩:=h;rfl) fun f_ cdv A outer s H vs Q E hr h=>?_
 obtain ⟨f,v,b,rfl,⟨fd,s1,ok,hf,hj⟩,hv,q⟩:=h;refine ⟨_,(@Yg _ _ _ (@Yl _ _ _ _ (@Xn _ _ _ _ _ _ _ _ wG (@Fv _ (g) _ (45) _ _ _ _ _ _ 0 hr (@Ya _ _ _ _ _ (@Yz _ _ _ _ _ _ _ _ _ _ _ _ ZN hr (@Ya _ _ _ _ _ (pv 1) Yc (by rfl)) (by omega) (by rfl) (by rfl) (by decide) (by rfl) (by rfl)) Yc (by rfl)) (by omega) (by rfl) (by rfl) (by first | exact .inl rfl | exact .inr (.inl rfl) | exact .inr (.inr rfl)) (by decide) (by decide) (by rfl) (by rfl)) Xe (Yp _)))),?_⟩;walk_at "rd";refine ⟨f,fd,_,s1,rfl,ok.1,ok.2,hf,?_⟩;walk_at "rd";refine ⟨v,rfl,hv,fun v' H' sm _=>?_⟩;refine hj H' v' _ (Wn sm) fun H2 s2=>⟨_,rfl,?_⟩
 rw [show (b==true)=b by cases b<;>rfl];exact q H2 (sm.trans s2)
inductive nW (g:Gx) (vs:List V) (H:Hp) (Q:VK) (E_:XK):Prop
 | mk (f L:Addr) (b:Bool) (ys:List V) (h0:vs=[.ref f,.ref L]) (h1:Xo g H f b) (h2:H L=some (.lst ys)) (h3:(∀ y∈ys,cI H 0 4 y)) (h4:∀ H',Yd H H'->Q (if b then .non else ys.headD .non) H')
theorem Z2i {k:Nat}  (R:g.Raw "first_breach" "first_breach" yG ["judge","values"]) (jD:g.Fn k "holds" ["judge","value"] (iQ g)):g.Fn (k+1) "first_breach" ["judge","values"] (nW g):=by
 refine R.fn Gy (fun vs H Q E h=>by obtain ⟨f,L,b,ys,rfl,hj,hL,hc,q⟩:=h;rfl) fun f_ cdv A outer s H vs Q E hr h=>?_
 obtain ⟨f,L,b,ys,rfl,hj,hL,hc,q⟩:=h;refine ⟨_,(@Yf _ _ _ _ _ (@XE _ _ _ _ _ _ _ _ bp rfl (@Xg _ _ _ _ (pv 1)) (@YB _ _ (2) _ Gy.nd rfl (.inl rfl) (by first | exact .inl rfl | exact .inr rfl | assumption)) (@Yg _ _ _ (@YE _ _ _ _ _ _ _ _ (@Xt _ _ _ _ (@Y8 _ _ _ (@Yz _ _ _ _ _ _ _ _ _ _ _ _ jD hr (@Ya _ _ _ _ _ (pv 0) (@Ya _ _ _ _ _ (pv 2) Yc (by rfl)) (by rfl)) (by omega) (by rfl) (by rfl) (by decide) (by rfl) (by rfl)) (by intro _;rfl))) (@Yg _ _ _ (@Yl _ _ _ _ (pv 2))) Yr)) (by intro _;rfl)) (@Yg _ _ _ (@Yl _ _ _ _ Y5))),?_⟩;refine Yq fun R rr=>?_
 refine Uu (K:=g.K) (xs:=ys) (fun c i σ H'=>c=L/\(∃ o,σ=[some (.ref f),some (.ref L),o])/\Yd H H'/\(b=true\/i=0)) (fun R r=>by walk_at "rd";exact r L _ ⟨rfl,⟨_,rfl⟩,.refl _,.inr rfl⟩) (fun c i σ H' _ ⟨e,_,s,_⟩=>by subst e;exact ao.of (s _ _ hL)) ?_ ?_
 ·rintro c i x σ H' hx ⟨rfl,⟨o,rfl⟩,sm,hn⟩
  walk_at "rd";refine ⟨f,x,b,rfl,hj.nl (Wn sm),(hc x (Τ hx)).kt (Yo sm),fun H1 s1=>?_⟩;have q1:=q H1 (sm.trans s1)
  cases b with
  | true=>exact ⟨_,rfl,YH (by decide) ⟨sm.trans s1,.inl rfl⟩⟩
  | false =>
   rcases hn with hn | rfl
   ·cases hn
   refine ⟨_,rfl,Xd rfl ?_⟩
   cases ys with
   | nil=>cases hx
   | cons y ys=>cases Θ hx;exact q1
 ·rintro c σ H' ⟨rfl,⟨o,rfl⟩,sm,hn⟩
  refine rr _ _ ?_;walk_at "rd";have q1:=q H' sm;rcases hn with rfl | hn
  ·exact q1
  ·have:ys=[]:=ez.mp hn
   subst this
   cases b<;>exact q1
def Hu (g:Gx) (H:Hp) (f:Addr) (lo:Int) (sg:List Nat) (s:Sk):Prop:=∃ fd sp,Ht g 60 f fd ["breach"] sp/\H f=some (cD f fd) /\
 ∀ (H1:Hp) (v:V) (d:Dv) (Q:VK),Yd H H1->Gv H1 lo sg s v d->(∀ L ys H',Yd H1 H'->H1 L=none->H' L=some (.lst ys)->F2 (cO (fun b=>H1 b=none) H' lo) ys (st s d)->Q (.ref L) H')->H1 f=some (cD f fd)/\sp [v] H1 Q E0
inductive lH (g:Gx) (C:Addr) (vs:List V) (H:Hp) (Q:VK) (E:XK):Prop
 | mk (f fn:Addr) (v:V) (b:Bool) (lo:Int) (sg:List Nat) (s:Sk) (d:Dv) (h0:vs=[.ref f,v,.ref fn]) (h1:Xo g H f b) (h2:Hu g H fn lo sg s) (h3:Gv H lo sg s v d) (h4:(b=true->∀ H',Yd H H'->E (.ref C) none H')) (h5:(b=false->∀ B y ys H',Yd H H'->H' B=some (.lst (y::ys))->(ys=[]↔st s d=[])->Cz (fun _=>True) H H' 0 4 v y->Q (.ref B) H'))
theorem cO.nn {U:Addr->Prop} {H:Hp} {lo:Int} {v:V} {d:Dv} (h:cO U H lo v d):v ≠ .non:=by
 cases d with
 | n o=>cases (show v=_ from h);intro z;cases z
 | t l=>cases (show v=_ from h);intro z;cases z
 | r o l=>obtain ⟨a,_,rfl,_⟩:=h;intro z;cases z
 | l os=>obtain ⟨a,_,rfl,_⟩:=h;intro z;cases z
 | p o=>obtain ⟨a,_,rfl,_⟩:=h;intro z;cases z
inductive SbV (lo:Int) (sg:List Nat) (s:Sk) (H:Hp) (w:V) (d0:Dv) (f fn B:Addr) (a:Option Dv) (σ:St) (H':Hp):Prop
 | mk (ys:List V) (v:V) (e:σ=[some (.ref f),some w,some (.ref fn),some (.ref B),some v]) (sm:Yd H H') (hB:H' B=some (.lst ys)) (no:a=none->v = .non) (at_:∀ d,a=some d->cO (fun b=>b≠B) H' lo v d/\gd sg s d/\mR d/\sz d+ys.length<=sz d0) (h0:ys=[]->a=some d0/\Cz (fun b=>b≠B) H H' 0 4 w v) (hd:∀ y,ys[0]?=some y->Cz (fun b=>b≠B) H H' 0 4 w y) (h1:ys.length=1->a=(st s d0).head?) (h2:2<=ys.length->st s d0≠[])
theorem YaE {k:Nat} {Z1:Addr} (R:g.Raw "shrunk_by" "shrunk_by" yH ["judge","value","values_next"]) (ZN:g.Fn k "copied" ["thing"] (ig 4)) (ZS:g.Fn k "first_breach" ["judge","values"] (nW g)) (hkc:60<=k) (bD:g.mg "NoBreach"=some (.ref Z1)) (cY:W.excIn g.K Z1 WM "ValueError.__new__"=true):g.bY (k+1) "shrunk_by" ["judge","value","values_next"] (lH g Z1):=by
 refine R.fnX uq (fun vs H Q E h=>by obtain ⟨f,fn,w,b,lo,sg,s,d0,rfl,hj,hn,hg,q0,q1⟩:=h;rfl) fun f_ cdv A outer s H vs Q E hr h=>?_
 obtain ⟨f,fn,w,b,lo,sg,s,d0,rfl,hj,hn,hg,q0,q1⟩:=h;refine ⟨_,(@Yf _ _ _ _ _ (PS.cB (@YA _ _ (3) _ _ _ _ uq.nd rfl (.inl rfl) (@Yw _ _ _ _ Yc) (by rfl) (by first | exact .inl rfl | exact .inr rfl | assumption))) (@Yf _ _ _ _ _ (PS.cB (@YA _ _ (4) _ _ _ _ uq.nd rfl (.inl rfl) (@Yz _ _ _ _ _ _ _ _ _ _ _ _ ZS hr (@Ya _ _ _ _ _ (pv 0) (@Ya _ _ _ _ _ (@Yw _ _ _ _ (@Ya _ _ _ _ _ (@Yz _ _ _ _ _ _ _ _ _ _ _ _ ZN hr (@Ya _ _ _ _ _ (pv 1) Yc (by rfl)) (by omega) (by rfl) (by rfl) (by decide) (by rfl) (by rfl)) Yc (by rfl))) Yc (YL _ _ _ _)) (by rfl)) (by omega) (by rfl) (by rfl) (by decide) (by rfl) (by rfl)) (by rfl) (by first | exact .inl rfl | exact .inr rfl | assumption))) (@Yf _ _ _ _ _ (@YE _ _ _ _ _ _ _ _ (@Ys _ _ _ _ _ _ _ _ W8 (pv 4) Y5 (Yp _)) (@Yg _ _ _ (@O6 _ _ _ _ _ _ _ _ _ _ _ ⟨bD,cY⟩ O4 (@Ya _ _ _ _ _ Yn Yc (by rfl)) (by rfl) (by rfl) (by rfl) (by decide) (by rfl) (by rfl))) Yr) (@Yf _ _ _ _ _ (PS.cB (@Q8 _ _ _ _ _ _ bp (@Ys _ _ _ _ _ _ _ _ UL (pv 4) Y5 (Yp _)) (@Yf _ _ _ _ _ (@Y2 _ _ _ _ (@Xu _ _ _ _ _ _ _ _ _ _ _ _ bc be bn Y9 (pv 3) (@Ya _ _ _ _ _ (pv 4) Yc (by rfl)) (by rfl) (by rfl) (by rfl) (by rfl) (by rfl)) (by rfl)) (@Yg _ _ _ (@YA _ _ (4) _ _ _ _ uq.nd rfl (.inl rfl) (@Yz _ _ _ _ _ _ _ _ _ _ _ _ ZS hr (@Ya _ _ _ _ _ (pv 0) (@Ya _ _ _ _ _ (@Fv _ (g) _ (60) _ _ _ _ _ _ 2 hr (@Ya _ _ _ _ _ (pv 4) Yc (by rfl)) (by omega) (by rfl) (by rfl) (by first | exact .inl rfl | exact .inr (.inl rfl) | exact .inr (.inr rfl)) (by decide) (by decide) (by rfl) (by rfl)) Yc (by rfl)) (by rfl)) (by omega) (by rfl) (by rfl) (by decide) (by rfl) (by rfl)) (by rfl) (by first | exact .inl rfl | exact .inr rfl | assumption)))))) (@Yg _ _ _ (PS.cB (@Yl _ _ _ _ (pv 3)))))))),?_⟩;refine Yq fun R rr=>?_
 walk_at "rd";refine ⟨few (by decide),fun B gB=>rr _ _ (Yq fun R rr=>?_)⟩;have sB:=Yd.aj gB (.lst []);walk_at "rd";have hz:=Bu hg.gd hg.sm;refine ⟨w,rfl,(hg.ctr 2).kt (Yo sB),fun v1 H1 s1 c1=>⟨few (by decide),fun L gL=>?_⟩⟩;have s2:=Yd.aj gL (.lst [v1]);have sA:=(sB.trans s1).trans s2;have Hv:Cz (fun b=>b≠B) H H1 0 4 w v1:=(c1.back sB (hg.ctr 2)).map (Yo (.refl _)) fun b o nb _ e=>⟨(fun z=>by rw [z,Yb] at nb;cases nb),e⟩
 have Hw:=Hs Hv hg.vt;have JT:cI (upd H1 L (.lst [v1])) 0 4 v1:=VJ hg.ks hg.gd (Hw.vt.kt (Yo s2)) 2;refine ⟨f,L,b,[v1],rfl,hj.nl (Wn sA),Yb,(fun y hy=>by cases ρ.mp hy;exact JT),fun H2 s3=>rr _ _ ?_⟩
 cases b with
 | true =>
  walk_at "rd";exact ⟨few (by decide),q0 rfl H2 (sA.trans s3)⟩
 | false =>
  have Hy:=Hw.kt (Yo (s2.trans s3));have cz2:Cz (fun b=>b≠B) H H2 0 4 w v1:=Hv.map (Yo (.refl _)) fun b o nb _ e=>⟨nb,(s2.trans s3) _ _ e⟩
  show WI _ _ _ [some (.ref f),some w,some (.ref fn),some (.ref B),some v1] H2
  refine Yq fun R rr=>?_
  walk_at "rd";refine YH Hy.nn (rr _ _ (Yq fun R rr=>?_));have hB2:H2 B=some (.lst []):=s3 _ _ (s2 _ _ (s1 _ _ Yb));refine En (α:=Option Dv) (SbV lo sg s H w d0 f fn B) (fun a=>a.isSome) (fun a=>match a with | none=>0 | some d=>sz d+1) (some d0) ⟨[],v1,rfl,sA.trans s3,hB2,(fun z=>by cases z),(fun d z=>by cases z;exact ⟨Hy,hg.gd,hg.sm,by simp⟩),(fun _=>⟨rfl,cz2⟩),(fun y h=>by cases h),(fun z=>by cases z),fun z=>absurd z (by decide)⟩ ?_ ?_ ?_
  ·rintro o σ H' ⟨ys,v,rfl,sm,hB,no,cur,h0,hd,h1,h2⟩ R r
   walk_at "rd";have:=r H' ⟨ys,v,rfl,sm,hB,no,cur,h0,hd,h1,h2⟩
   cases o with
   | none=>cases no rfl;exact this
   | some d=>rw [decide_eq_false (cur d rfl).1.nn];exact this
  ·rintro o σ H' ⟨ys,v,rfl,sm,hB,no,cur,h0,hd,h1,h2⟩ ho
   cases o with
   | none=>cases ho
   | some d =>
    obtain ⟨c,kd,ks,hsz⟩:=cur d rfl;obtain ⟨fd,sp,HB,hfn,hnx⟩:=hn;refine Yq fun R rr=>?_
    walk_at "rd";refine ⟨.inl ⟨rfl,_,ao.of hB⟩,_,hB,few (by omega),rr _ _ ?_⟩;have uN:Yd H (upd H' B (.lst (ys++[v]))) := .bC gB sm _;have c':cO (fun b=>b≠B) (upd H' B (.lst (ys++[v]))) lo v d:=c.map fun a o u _ e=>⟨u,by rw [Ye u];exact e⟩
    have mv:∀ {y},Cz (fun b=>b≠B) H H' 0 4 w y->Cz (fun b=>b≠B) H (upd H' B (.lst (ys++[v]))) 0 4 w y:=fun h=>h.map (Yo (.refl _)) fun b o u _ e=>⟨u,by rw [Ye u];exact e⟩
    have hd':∀ y,(ys++[v])[0]?=some y->Cz (fun b=>b≠B) H (upd H' B (.lst (ys++[v]))) 0 4 w y:=fun y hy=>by
     cases ys with
     | nil=>cases Θ hy;exact mv (h0 rfl).2
     | cons z zs=>cases Θ hy;exact mv (hd y rfl)
    have h1':(ys++[v]).length=1->d=d0:=fun z=>by
     rw [Ρ,aa] at z
     have e:=(h0 (ez.mp (by omega))).1;exact Θ e
    have h2':2<=(ys++[v]).length->st s d0≠[]:=fun z=>by
     rw [Ρ,aa] at z
     by_cases e:ys.length=1
     ·have e1:=h1 e
      intro z;rw [z] at e1
      cases e1
     ·exact h2 (by omega)
    walk_at "rd";refine ⟨fn,fd,_,sp,rfl,HB.1,HB.2,uN _ _ hfn,?_⟩;walk_at "rd";refine hnx _ v d _ uN ⟨hg.ks,kd,ks,c'.vt⟩ fun L zs H4 s4 gL hL g4=>?_
    have HD:=s4 _ _ (Yb (H:=H') (a:=B) (o := .lst (ys++[v])));have ne:ys++[v]≠[]:=by simp
    have mem:∀ y∈zs,∃ d'∈st s d,cO (fun b=>b≠B) H4 lo y d':=fun y hy=>by
     obtain ⟨i,hi⟩:=ek hy;have hlt:=(Ι.mp hi).1;have hl:=g4.len;have e2:(st s d)[i]?=some ((st s d)[i]'(by omega)):=Η _;exact ⟨_,Τ e2,(g4.get i y _ hi e2).map fun a o u _ e=>⟨(fun z=>by rw [z,Yb] at u;cases u),e⟩⟩
    refine ⟨f,L,false,zs,rfl,hj.nl (Wn (uN.trans s4)),hL,(fun y hy=>?_),fun H5 s5=>?_⟩
    ·obtain ⟨d',hm,hv⟩:=mem y hy
     exact VJ hg.ks (UH kd hm).1 hv.vt 2
    ·have HF:∀ {y},Cz (fun b=>b≠B) H (upd H' B (.lst (ys++[v]))) 0 4 w y->Cz (fun b=>b≠B) H H5 0 4 w y:=fun h=>h.map (Yo (.refl _)) fun b o u _ e=>⟨u,s5 _ _ (s4 _ _ e)⟩
     have sF:=(uN.trans s4).trans s5
     cases hst:st s d with
     | nil =>
      rw [hst] at g4
      cases g4
      exact ⟨none,⟨ys++[v],.non,rfl,sF,s5 _ _ HD,(fun _=>rfl),(fun l z=>by cases z),(fun z=>absurd z ne),(fun y hy=>HF (hd' y hy)),(fun z=>by rw [<- h1' z,hst];rfl),h2'⟩,Nat.succ_pos _⟩
     | cons d' ds =>
      have hm:d'∈st s d:=by rw [hst];exact .head _
      have k':=UH kd hm;have sz':=k'.2;rw [hst] at g4
      cases g4 with
      | cons hy t =>
       rename_i y zs';refine ⟨some d',⟨ys++[v],y,rfl,sF,s5 _ _ HD,(fun z=>by cases z),(fun l2 z=>?_),(fun z=>absurd z ne),(fun y hy=>HF (hd' y hy)),(fun z=>by rw [<- h1' z,hst];rfl),h2'⟩,(by show sz d'+1<sz d+1;omega)⟩
       cases z
       refine ⟨hy.map fun a o u _ e=>⟨(fun z=>by rw [z,Yb] at u;cases u),s5 _ _ e⟩,k'.1,Ygn ks hm,(by rw [Ρ,aa];omega)⟩
  ·rintro o σ H' ⟨ys,v,rfl,sm,hB,no,cur,h0,hd,h1,h2⟩ ho
   cases o with
   | some l=>cases ho
   | none =>
    cases no rfl
    refine rr _ _ ?_;walk_at "rd"
    cases ys with
    | nil=>cases (h0 rfl).1
    | cons y ys =>
     refine q1 rfl B y ys H' sm hB ⟨fun e=>?_,fun e=>?_⟩ ((hd y rfl).map (Yo (.refl _)) fun b o _ _ e=>⟨trivial,e⟩)
     ·subst e
      have:=h1 rfl
      cases hs:st s d0 with
      | nil=>rfl
      | cons x xs=>rw [hs] at this;cases this
     ·cases ys with
      | nil=>rfl
      | cons z zs=>exact absurd e (h2 (by simp))
def YfP (K:Λ) (fv vs:List V) (H:Hp) (Q:VK):Prop:=∃ (B:V) (a:Addr) (v:V) (lo:Int) (sg:List Nat) (s:Sk) (d:Dv),fv=[.ref a,B]/\vs=[v]/\Xc H lo sg a s/\Gv H lo sg s v d/\∀ L ys H',Yd H H'->H L=none->H' L=some (.lst ys)->F2 (cO (fun b=>H b=none) H' lo) ys (st s d)->Q (.ref L) H'
theorem QN {k:Nat} {Z0:Addr}  {f_ c_:Addr} {pm ctv:Α} {l:Yy} (Zr:g.bY k "steps_of" ["book","shape","value"] (fJ g.K Z0)) (hl:l.map (·.1)=(["shape","book"]:List Str)) (hnd:l.as.Nodup):bw g.P g.w g.K g.mg g.base cG (k+1) f_ (ZE l.cl c_ pm ctv) ["breach"] (fun vs H Q _=>uh H f_ c_ (ZE l.cl c_ pm ctv) ZB l/\(YfP g.K) l.vs vs (off H l.as) fun v H'=>(∀ c∈l.as,H' c=none)->Q v (on H' H l.as)):=by
 refine S9 (N:=["breach","shape","book"]) (by rw [hl];exact QJ) hnd (fun vs H Q h=>by obtain ⟨B,a,v,lo,sg,s,d,pX,rfl,hS,hv,q⟩:=h;rfl) fun A outer s H vs Q hr h=>?_
 obtain ⟨B,a,v,lo,sg,s,d,pX,rfl,hS,hv,q⟩:=h;refine ⟨_,(@XF _ _ _ _ _ _ _ _ _ _ _ _ _ Zr hr Ww (@Ya _ _ _ _ _ (pv 2) (@Ya _ _ _ _ _ (pv 1) (@Ya _ _ _ _ _ (pv 0) Yc (by rfl)) (by rfl)) (by rfl)) (by omega) (by rfl) (by rfl) (by decide) (by rfl) (by rfl)),?_⟩;walk_at "rd";rw [pX];exact ⟨B,lo,sg,a,s,v,rfl,hS,.inr ⟨d,hv,q⟩⟩
def Y0 (H:Hp) (P:Addr):Prop:=H P=some (.aH #[])\/∃ c,H P=some (.aH #[cE 565,cE 35,.ref c])/\H c=some (dw c ZB)
theorem Y0.aH {H:Hp} {P:Addr} (h:Y0 H P):∃ ps,H P=some (.aH ps):=by
 rcases h with h | ⟨c,h,_⟩
 ·exact ⟨_,h⟩
 ·exact ⟨_,h⟩
def pY (H H':Hp):Prop:=∀ b o,(∀ us,o ≠ .lst us)->H b=some o->H' b=some o
theorem Qc {H H':Hp} (s:Yd H H'):pY H H':=fun b o _ e=>s _ _ e
theorem Y0.gK {H H':Hp} {P:Addr} (h:Y0 H P) (s:pY H H'):Y0 H' P:=by
 rcases h with h | ⟨c1,h,h1⟩
 ·exact .inl (s _ _ (by intro _ z;cases z) h)
 ·exact .inr ⟨c1,s _ _ (by intro _ z;cases z) h,s _ _ (by intro _ z;cases z) h1⟩
theorem Y0.keep {H H':Hp} {P:Addr} (h:Y0 H P) (s:Yd H H'):Y0 H' P:=h.gK (Qc s)
theorem Y0.but {H H':Hp} {P P2:Addr} {ps:Array Α} (h:Y0 H P) (hk:∀ a o,a≠P2->H a=some o->H' a=some o) (hP:H P2=some (.aH ps)) (n:P≠P2):Y0 H' P:=by
 rcases h with h | ⟨c1,h,h1⟩
 ·exact .inl (hk _ _ n h)
 ·exact .inr ⟨c1,hk _ _ n h,hk _ _ (YW h1 hP (by intro z;cases z)) h1⟩
theorem WQ {H H':Hp} {P:Addr} {ps:Array Α} (hk:∀ a o,a≠P->H a=some o->H' a=some o) (hP:H P=some (.aH ps)):Kt H H':=fun c o n e=>hk c o (YW e hP (n _)) e
theorem XO {H Hz:Hp} {l:Yy} (h:X1 H Hz l):Yd H Hz:=fun a o e=>by
 rw [h.2 a fun hm=>?_]
 ·exact e
 ·obtain ⟨p,hp,rfl⟩:=Y4 hm
  obtain ⟨_,_,n⟩:=h.1 p hp;rw [n] at e
  cases e
theorem Bv {l:Yy} {H:Hp} (hz:l.Z H) {a:Addr} {o:HO} (e:H a=some o) (n:∀ x u,o ≠ .bR x u):a∉l.as:=fun hm=>by
 obtain ⟨p,hp,rfl⟩:=Y4 hm;obtain ⟨x,z⟩:=hz p hp;rw [z] at e
 exact n _ _ (Θ e).symm
theorem Wo {l:Yy} {H:Hp} (hz:l.Z H) {a:Addr} {o:HO} (e:H a=some o) (n:∀ x u,o ≠ .bR x u):off H l.as a=some o:=by rw [YU (Bv hz e n)];exact e
theorem rP {l:Yy} {H:Hp} (hz:l.Z H):Tp H (off H l.as):=fun b xs e=>Wo hz e (by intro _ _ z;cases z)
theorem zx {l:Yy} {H:Hp} (hz:l.Z H):∀ b us,H b=some (.lst us)->off H l.as b=some (.lst us):=fun b us e=>Wo hz e (by intro _ _ z;cases z)
theorem uO {P:Addr} {l:Yy} {H:Hp} (hz:l.Z H) (h:Y0 H P):Y0 (off H l.as) P:=by
 rcases h with h | ⟨c,h,h1⟩
 ·exact .inl (Wo hz h (by intro _ _ z;cases z))
 ·exact .inr ⟨c,Wo hz h (by intro _ _ z;cases z),Wo hz h1 (by intro _ _ z;cases z)⟩
theorem HJ {l:Yy} {H1 Hz H':Hp} (h:X1 H1 Hz l) (s:Yd Hz H'):Yd H1 (off H' l.as):=fun a o e=>by
 rw [YU fun hm=>?_]
 ·exact s a o (XO h _ _ e)
 ·obtain ⟨p,hp,rfl⟩:=Y4 hm
  obtain ⟨_,_,n⟩:=h.1 p hp;rw [n] at e
  cases e
theorem VW {l:Yy} {H H':Hp} (s:Yd (off H l.as) H'):Yd H (on H' H l.as):=fun a o e=>by
 by_cases hm:a∈l.as
 ·rw [QX hm];exact e
 ·rw [Xl hm];exact s _ _ (by rw [YU hm];exact e)
theorem HN {l:Yy} {H H':Hp} (hc:∀ c∈l.as,H' c=none):Yd H' (on H' H l.as):=fun a o e=>by
 rw [Xl fun hm=>by rw [hc a hm] at e;cases e];exact e
theorem cO.tl {U:Addr->Prop} {H H':Hp} (t:Tp H H') (k:∀ b us,H b=some (.lst us)->H' b=some (.lst us)) {lo:Int} {v:V} {d:Dv} (h:cO U H lo v d):cO U H' lo v d:=by
 cases d with
 | n o=>exact h
 | t l=>exact h
 | r o l=>obtain ⟨a,u,e,h⟩:=h;exact ⟨a,u,e,t _ _ h⟩
 | l os=>obtain ⟨a,u,e,h⟩:=h;exact ⟨a,u,e,k _ _ h⟩
 | p o=>obtain ⟨a,u,e,h⟩:=h;exact ⟨a,u,e,t _ _ h⟩
theorem Cz.tl {N:Addr->Prop} {H Ha H' Hb:Hp} (k1:Kt H Ha) (t:Tp H' Hb) (k:∀ b us,H' b=some (.lst us)->Hb b=some (.lst us)) {kd n:Nat} {v v':V} (h:Cz N H H' kd n v v'):Cz N Ha Hb kd n v v':=by
 induction h with
 | non k n=>exact .non k n
 | bl k n b=>exact .bl k n b
 | int k n i=>exact .int k n i
 | str k n z h=>exact .str k n z h
 | cg k n a h=>exact .cg k n a (VH k1 h)
 | tup k n a b us us' ha nb hb hl l _ ih=>exact .tup k n a b us us' (k1.tup ha) nb (t _ _ hb) hl l ih
 | lst k' n a b us us' ha nb hb hl l _ ih=>exact .lst k' n a b us us' (k1.lst ha) nb (k _ _ hb) hl l ih
theorem Bw {N:Addr->Prop} {H H' H2:Hp} {k n:Nat} {v v':V} (c:cI H k n v) (s:Kt H H') (h:Cz N H' H2 k n v v'):Cz N H H2 k n v v':=by
 induction h with
 | non k n=>exact .non k n
 | bl k n b=>exact .bl k n b
 | int k n i=>exact .int k n i
 | str k n z h=>exact .str k n z h
 | cg k n a h =>
  cases c with
  | cg _ _ _ h'=>exact .cg k n a h'
  | tup _ _ _ _ us us' ha=>rw [s.tup ha] at h;cases h
  | lst _ _ _ _ us us' ha=>rw [s.lst ha] at h;cases h
 | tup k n a b us us' ha nb hb hl l _ ih =>
  cases c with
  | cg _ _ _ h'=>rw [VH s h'] at ha;cases ha
  | tup _ _ _ _ ws ws' ha' _ hb' _ _ kk =>
   rw [s.tup ha'] at ha
   cases HO.tup.inj (Θ ha)
   rw [ha'] at hb'
   cases HO.tup.inj (Θ hb')
   exact .tup k n a b _ us' ha' nb hb hl l fun i u u' e1 e2=>ih i u u' e1 e2 (kk i u u e1 e1)
  | lst _ _ _ _ ws ws' ha'=>rw [s.lst ha'] at ha;cases ha
 | lst k n a b us us' ha nb hb hl l _ ih =>
  cases c with
  | cg _ _ _ h'=>rw [VH s h'] at ha;cases ha
  | tup _ _ _ _ ws ws' ha'=>rw [s.tup ha'] at ha;cases ha
  | lst _ _ _ _ ws ws' ha' _ hb' _ _ kk =>
   rw [s.lst ha'] at ha
   cases HO.lst.inj (Θ ha)
   rw [ha'] at hb'
   cases HO.lst.inj (Θ hb')
   exact .lst k n a b _ us' ha' nb hb hl l fun i u u' e1 e2=>ih i u u' e1 e2 (kk i u u e1 e1)
abbrev jt (x1 x2 a:Addr) (B:V):Yy:=[("shape",x2,.ref a),("book",x1,B)]
theorem Yet {g:Gx} {Hz:Hp} {f c x1 x2 a CV:Addr} {B:V} {lo:Int} {sg:List Nat} {s:Sk} {pm ctv:Α} (F1:g.bY 59 "steps_of" ["book","shape","value"] (fJ g.K CV)) (nd:(jt x1 x2 a B).as.Nodup)
  (hf:Hz f=some (cD f (ZE (jt x1 x2 a B).cl c pm ctv))) (hc:Hz c=some (dw c ZB)) (hz:(jt x1 x2 a B).Z Hz) (hS:Xc Hz lo sg a s):Hu g Hz f lo sg s:=by
 have F:=QN (g:=g) (k:=59) (f_:=f) (c_:=c) (pm:=pm) (ctv:=ctv) (l:=jt x1 x2 a B) F1 rfl nd;refine ⟨_,_,⟨F,fun us hl=>?_⟩,hf,fun H1 v d Q s1 hv hk=>?_⟩
 ·match us,hl with
  | [_],_=>rfl
 ·have z1:=hz.keep s1
  refine ⟨s1 _ _ hf,⟨s1 _ _ hf,s1 _ _ hc,z1⟩,B,a,v,lo,sg,s,d,rfl,rfl,(hS.tp (YT (Yo s1))).tp (rP z1),⟨hv.ks,hv.gd,hv.sm,hv.vt.tl (rP z1) (zx z1)⟩,fun L ys H' s' gL hL f2 hcc=>?_⟩;have out:∀ {b:Addr} {o:HO},H' b=some o->b∉(jt x1 x2 a B).as:=fun e hm=>by rw [hcc _ hm] at e;cases e
  exact hk L ys _ (VW s') (by rw [YU (out hL)] at gL;exact gL) (HN hcc _ _ hL) (f2.imp fun _ _ h=>h.map fun b o u _ e=>⟨by rw [YU (out e)] at u;exact u,HN hcc _ _ e⟩)
def K1 (P:Addr) (H H':Hp):Prop:=∀ a o,a≠P->H a=some o->H' a=some o
theorem HS {P:Addr} {H H':Hp} (s:Yd H H'):K1 P H H':=fun a o _ e=>s _ _ e
inductive lJ (g:Gx) (PS CV CB:Addr) (vs:List V) (H:Hp) (Q:VK) (E:XK):Prop
 | mk (B:V) (a f:Addr) (v:V) (lo:Int) (sg:List Nat) (s:Sk) (h0:vs=[B,.ref a,.ref f,v]) (h1:Xc H lo sg a s) (h2:Y0 H PS) (h3:((Vx H lo sg s v none/\∀ H' d,Yd H H'->H' d=none->E (.ref CV) (some d) (upd H' d (Xx d [("value",v)])))\/∃ d b,Gv H lo sg s v d/\Xo g H f b/\(b=true->∀ H',K1 PS H H'->Y0 H' PS->E (.ref CB) none H') /\
 (b=false->∀ L y ys H',K1 PS H H'->Y0 H' PS->H' L=some (.lst (y::ys))->(ys=[]↔st s d=[])->Cz (fun _=>True) H H' 0 4 v y->Q (.ref L) H')))
theorem Ydz {k:Nat} {Z0 Z1 bJ aq:Addr} (R:g.dW "shrunk" "shrunk" pD ["book","shape","judge","value"] bJ) (bm:Bm g.mg g.base) (pZ:iA g.base bJ aq) (Zq:g.bY k "refuse_no_value" ["book","shape","value"] (jr g.K Z0)) (Zr:g.bY 59 "steps_of" ["book","shape","value"] (fJ g.K Z0)) (lY:g.bY k "shrunk_by" ["judge","value","values_next"] (lH g Z1)):g.bY (k+1) "shrunk" ["book","shape","judge","value"] (lJ g aq Z0 Z1):=by
 refine R.fnX T4 (fun vs H Q E h=>by obtain ⟨B,a,f,v,lo,sg,sk,rfl,hS,ts,h⟩:=h;rfl) fun f_ A outer s H vs Q E hr h=>?_
 obtain ⟨B,a,f,v,lo,sg,sk,rfl,hS,ts,h⟩:=h;refine ⟨_,(@Yf _ _ _ _ _ (@Y2 _ _ _ _ (@XF _ _ _ _ _ _ _ _ _ _ _ _ _ Zq hr Ux (@Ya _ _ _ _ _ (pv 0) (@Ya _ _ _ _ _ (pv 1) (@Ya _ _ _ _ _ (pv 3) Yc (by rfl)) (by rfl)) (by rfl)) (by omega) (by rfl) (by rfl) (by decide) (by rfl) (by rfl)) (by rfl)) (@Yg _ _ _ (@Yl _ _ _ _ (@Tc _ _ _ _ _ _ _ _ _ _ _ _ _ _ _ _ _ _ _ _ _ lY hr (@Ya _ _ _ _ _ (pv 2) (@Ya _ _ _ _ _ (pv 3) (@Ya _ _ _ _ _ (@RB _ _ _ _ _ _ _ _ _ bm pZ rfl rfl (Eq.trans rfl QK) rfl) Yc (by rfl)) (by rfl)) (by rfl)) (by omega) (by rfl) (by decide) (by rfl) (by rfl))))),?_⟩;refine Yq fun R rr=>?_
 walk_at "rd";rcases h with ⟨hv,qe⟩ | ⟨d,b,hg,hj,q0,q1⟩
 ·exact ⟨B,lo,sg,a,sk,v,none,rfl,hS,hv,(fun z=>by cases z),fun _ H' d' s' gd'=>qe H' d' s' gd'⟩
 refine ⟨B,lo,sg,a,sk,v,some d,rfl,hS,Q1 hg.gd hg.vt,fun _ H1 s1=>rr _ _ ?_,(fun z=>by cases z)⟩;have zy:=ts.keep s1;have HW:∀ n:Nat,(jt (n+1) (n+1+1) a B).as.Nodup:=fun n=>by
  show cr [n+1+1,n+1]
  simp
 have fin:∀ (fn c:Addr) (pm ctv:Α) (H3:Hp),K1 aq H1 H3->Kt H1 H3->Y0 H3 aq->H3 fn=some (cD fn (ZE (jt (s.heap.objs.size+1) (s.heap.objs.size+1+1) a B).cl c pm ctv))->H3 c=some (dw c ZB)->∃ l,
   Xk (g.cH [χ "book",χ "shape",χ "judge",χ "value"] (χ "shrunk") pD f_ (Ω bJ) A outer s H E) [some B,some (V.ref a),some (V.ref f),some v] l /\
    ((∀ (c:Addr),c∈l.as->H3 c=none)->∀ (Hz:Hp),X1 H3 Hz l->lH g Z1 [.ref f,v,.ref fn] Hz (fun v H'=>Q v (off H' l.as)) fun c d H'=>E c d (off H' l.as)):=by
  intro fn c pm ctv H3 kk3 k3 qd hfn hc;refine ⟨jt (s.heap.objs.size+1) (s.heap.objs.size+1+1) a B,⟨HW _,fun z hz=>?_⟩,fun _ Hz hL=>?_⟩
  ·simp only [Υ,ι,or_false] at hz
   rcases hz with rfl | rfl
   ·exact ⟨1,rfl,rfl,rfl,rfl⟩
   ·exact ⟨0,rfl,rfl,rfl,rfl⟩
  ·have sz:=XO hL
   have zz:=hL.z;have kz:Kt H Hz:=((Yo s1).trans k3).trans (Yo sz);have kf:∀ {H'},Yd Hz H'->K1 aq H (off H' _):=fun s' a o h1 e=>HJ hL s' _ _ (kk3 _ _ h1 (s1 _ _ e))
   refine ⟨f,fn,v,b,lo,sg,sk,d,rfl,hj.nl (Kt.nl kz),Yet Zr (HW _) (sz _ _ hfn) (sz _ _ hc) zz (hS.tp (YT kz)),hg.kt kz,fun hb H' s'=>q0 hb _ (kf s') (uO (zz.keep s') (qd.keep (sz.trans s'))),fun hb L y ys H' s' hL' hap hy=>?_⟩;have z':=zz.keep s';exact q1 hb L y ys _ (kf s') (uO z' (qd.keep (sz.trans s'))) (Wo z' hL' (by intro _ _ z;cases z)) hap (Bw (hg.ctr 2) kz (hy.tl (Yo (.refl _)) (rP z') (zx z')))
 walk_at "rd";unfold Gf;walk_at "rd";rcases zy with ht | ⟨c,ht,hc⟩
 ·refine ⟨_,ht,trivial,.inl ⟨rfl,fun fn c fd g1 g2 g3 ⟨pm,ctv,e⟩=>?_⟩⟩
  subst e;have n1:=Yk ht g1;have n2:=Yk ht g2;have kk:∀ (o1 o2 o3:HO) a o,a≠aq->H1 a=some o->upd (upd (upd H1 aq o1) c o2) fn o3 a=some o:=fun o1 o2 o3 a o h1 h2=>by rw [Ye (Yk h2 g1),Ye (Yk h2 g2),Ye h1];exact h2
  exact fin fn c pm ctv _ (kk _ _ _) (WQ (kk _ _ _) ht) (.inr ⟨c,by rw [Ye n1,Ye n2,Yb];rfl,by rw [Ye (ah g3),Yb]⟩) Yb (by rw [Ye (ah g3),Yb])
 ·refine ⟨_,ht,trivial,.inr ⟨c,rfl,fun fn fd g1 ⟨pm,ctv,e⟩=>?_⟩⟩
  subst e;have su:=Yd.aj g1 (cD fn (ZE (jt (s.heap.objs.size+1) (s.heap.objs.size+1+1) a B).cl c pm ctv));exact fin fn c pm ctv _ (HS su) (Yo su) (Y0.keep (.inr ⟨c,ht,hc⟩) su) Yb (su _ _ hc)
inductive jE (g:Gx) (CV:Addr) (vs:List V) (H:Hp) (Q:VK) (E:XK):Prop
 | mk (B:V) (a f:Addr) (v:V) (lo:Int) (sg:List Nat) (s:Sk) (h0:vs=[B,.ref a,.ref f,v]) (h1:Xc H lo sg a s) (h2:((Vx H lo sg s v none/\∀ H' d,Yd H H'->H' d=none->E (.ref CV) (some d) (upd H' d (Xx d [("value",v)])))\/∃ d b,Gv H lo sg s v d/\Xo g H f b/\∀ H',Yd H H'->Q (.bl (!b&&(st s d).isEmpty)) H'))
theorem Ycl {k:Nat} {Z0:Addr} (R:g.Raw "at_rest" "at_rest" yI ["book","shape","judge","value"]) (Zq:g.bY k "refuse_no_value" ["book","shape","value"] (jr g.K Z0)) (jD:g.Fn k "holds" ["judge","value"] (iQ g)) (Zr:g.bY k "steps_of" ["book","shape","value"] (fJ g.K Z0)) (ZS:g.Fn k "first_breach" ["judge","values"] (nW g)):g.bY (k+1) "at_rest" ["book","shape","judge","value"] (jE g Z0):=by
 refine R.fnX T5 (fun vs H Q E h=>by obtain ⟨B,a,f,v,lo,sg,s,rfl,hS,h⟩:=h;rfl) fun f_ cdv A outer s H vs Q E hr h=>?_
 obtain ⟨B,a,f,v,lo,sg,s,rfl,hS,h⟩:=h;refine ⟨_,(@Yf _ _ _ _ _ (@Y2 _ _ _ _ (@XF _ _ _ _ _ _ _ _ _ _ _ _ _ Zq hr Ux (@Ya _ _ _ _ _ (pv 0) (@Ya _ _ _ _ _ (pv 1) (@Ya _ _ _ _ _ (pv 3) Yc (by rfl)) (by rfl)) (by rfl)) (by omega) (by rfl) (by rfl) (by decide) (by rfl) (by rfl)) (by rfl)) (@Yg _ _ _ (@Yl _ _ _ _ (@Wa _ _ _ _ _ _ _ (@Ci _ _ _ _ (@Yz _ _ _ _ _ _ _ _ _ _ _ _ jD hr (@Ya _ _ _ _ _ (pv 2) (@Ya _ _ _ _ _ (pv 3) Yc (by rfl)) (by rfl)) (by omega) (by rfl) (by rfl) (by decide) (by rfl) (by rfl))) (@X9 _ _ _ _ _ (@Xn _ _ _ _ _ _ _ _ W8 (@Yz _ _ _ _ _ _ _ _ _ _ _ _ ZS hr (@Ya _ _ _ _ _ (pv 2) (@Ya _ _ _ _ _ (@XF _ _ _ _ _ _ _ _ _ _ _ _ _ Zr hr Ux (@Ya _ _ _ _ _ (pv 0) (@Ya _ _ _ _ _ (pv 1) (@Ya _ _ _ _ _ (pv 3) Yc (by rfl)) (by rfl)) (by rfl)) (by omega) (by rfl) (by rfl) (by decide) (by rfl) (by rfl)) Yc (by rfl)) (by rfl)) (by omega) (by rfl) (by rfl) (by decide) (by rfl) (by rfl)) Y5 (Yp _))))))),?_⟩;refine Yq fun R rr=>?_
 walk_at "rd";rcases h with ⟨hv,qe⟩ | ⟨d,b,hg,hj,q⟩
 ·exact ⟨B,lo,sg,a,s,v,none,rfl,hS,hv,(fun z=>by cases z),fun _ H' d' s' gd'=>qe H' d' s' gd'⟩
 refine ⟨B,lo,sg,a,s,v,some d,rfl,hS,Q1 hg.gd hg.vt,fun _ H1 s1=>rr _ _ ?_,(fun z=>by cases z)⟩;walk_at "rd";refine ⟨f,v,b,rfl,hj.nl (Wn s1),(hg.ctr 2).kt (Yo s1),fun H2 s2=>?_⟩;have s12:=s1.trans s2
 cases b with
 | true=>exact ⟨_,rfl,YH (by decide) (q H2 s12)⟩
 | false =>
  refine ⟨_,rfl,Xd rfl ⟨B,lo,sg,a,s,v,rfl,hS.tp (YT (Yo s12)),.inr ⟨d,hg.kt (Yo s12),fun L ys H3 s3 gL hL f2=>?_⟩⟩⟩;refine ⟨f,L,false,ys,rfl,hj.nl (Wn (s12.trans s3)),hL,(fun y hy=>?_),fun H4 s4=>?_⟩
  ·obtain ⟨i,hi⟩:=ek hy
   have hlt:=(Ι.mp hi).1;have hl:=f2.len;have e2:(st s d)[i]?=some ((st s d)[i]'(by omega)):=Η _;exact VJ hg.ks (UH hg.gd (Τ e2)).1 (f2.get i y _ hi e2).vt 2
  ·have q':=q H4 ((s12.trans s3).trans s4)
   cases hst:st s d with
   | nil=>rw [hst] at f2 q';cases f2;exact q'
   | cons d' ds =>
    rw [hst] at f2 q'
    cases f2 with
    | cons h t =>
     have:=h.nn;rename_i y ys'
     show Q (V.bl (decide (y = .non))) H4
     rw [decide_eq_false this];exact q'
inductive mU (K:Λ) (vs:List V) (H:Hp) (Q:VK) (E_:XK):Prop
 | mk (a:Addr) (ns:List Int) (k:Nat) (h0:vs=[.ref a,.int k]) (h1:ao K H a (ns.map V.int)) (h2:ns.length<=63) (h3:Q (.int (ns.getD k 0)) H)
theorem Z2o  (R:g.Raw "_law_cell_at" "_law_cell_at" yJ ["_law_script","_law_k"]) (aP:g.mg "len"=none):g.Fn (1) "_law_cell_at" ["_law_script","_law_k"] (mU g.K):=by
 refine R.fn T6 (fun vs H Q E h=>by obtain ⟨a,ns,k,rfl,hS,hl,q⟩:=h;rfl) fun f_ cdv A outer s H vs Q E hr h=>?_
 obtain ⟨a,ns,k,rfl,hS,hl,q⟩:=h;refine ⟨_,(@Yf _ _ _ _ _ (@YE _ _ _ _ _ _ _ _ (@Ys _ _ _ _ _ _ _ _ Ax (pv 1) (@YN _ _ _ _ _ _ _ _ _ _ aP Y6 (@Ya _ _ _ _ _ (pv 0) Yc (by rfl)) (by decide +kernel) (by rfl) (by rfl) (by decide) (by decide) (by rfl) (by rfl)) (Yp _)) (@Yg _ _ _ (@Yl _ _ _ _ (@YD _ _ _ _ _ _ _ XH (pv 0) (pv 1) (fun _ _=>rfl)))) Yr) (@Yg _ _ _ (@Yl _ _ _ _ Yi))),?_⟩;walk_at "rd";refine ⟨_,.inl hS,V8 (fun c=>?_) fun c=>?_⟩
 ·rw [Ζ] at c
  have hk:k<ns.length:=by omega
  have e:ns.getD k 0=ns[k]:=by simp [cK,Η hk]
  rw [e] at q
  exact ⟨_,hS,_,Yj (by rw [Ξ,Η hk];rfl),q⟩
 ·rw [Ζ] at c
  have hk:ns.length<=k:=by omega
  have e:ns.getD k 0=0:=by simp [cK,ef hk]
  rw [e] at q
  exact q
def Bx (fv vs:List V) (H:Hp) (Q:VK):Prop:=∃ (b:Bool) (v:V),fv=[.bl b]/\vs=[v]/\Q (.bl b) H
theorem Z0Z {k:Nat}   {f_ c_:Addr} {doc pm ctv:Α} {l:Yy}  (hl:l.map (·.1)=(["_law_answer"]:List Str)) (hnd:l.as.Nodup):bw g.P g.w g.K g.mg g.base cG (k+1) f_ (Zj l.cl c_ doc pm ctv) ["_law_thing"] (fun vs H Q _=>uh H f_ c_ (Zj l.cl c_ doc pm ctv) Za l/\(Bx) l.vs vs (off H l.as) fun v H'=>(∀ c∈l.as,H' c=none)->Q v (on H' H l.as)):=by
 refine Tj (N:=["_law_thing","_law_answer"]) (by rw [hl];exact Z0X) hnd (fun vs H Q h=>by obtain ⟨b,v,pX,rfl,q⟩:=h;rfl) fun A outer s H vs Q hr h=>?_
 obtain ⟨b,v,pX,rfl,q⟩:=h;refine ⟨_,(@Yg _ _ _ (@Yl _ _ _ _ (pv 1))),?_⟩;walk_at "rd";rw [pX];exact q
def Y7 (H:Hp) (P:Addr):Prop:=H P=some (.aH #[])\/∃ c,H P=some (.aH #[cE 589,cE 4,.ref c])/\H c=some (dw c Za)
theorem Y7.aH {H:Hp} {P:Addr} (h:Y7 H P):∃ ps,H P=some (.aH ps):=by
 rcases h with h | ⟨c,h,_⟩
 ·exact ⟨_,h⟩
 ·exact ⟨_,h⟩
theorem Y7.gK {H H':Hp} {P:Addr} (h:Y7 H P) (s:pY H H'):Y7 H' P:=by
 rcases h with h | ⟨c1,h,h1⟩
 ·exact .inl (s _ _ (by intro _ z;cases z) h)
 ·exact .inr ⟨c1,s _ _ (by intro _ z;cases z) h,s _ _ (by intro _ z;cases z) h1⟩
theorem Y7.keep {H H':Hp} {P:Addr} (h:Y7 H P) (s:Yd H H'):Y7 H' P:=h.gK (Qc s)
theorem Y7.but {H H':Hp} {P P2:Addr} {ps:Array Α} (h:Y7 H P) (hk:∀ a o,a≠P2->H a=some o->H' a=some o) (hP:H P2=some (.aH ps)) (n:P≠P2):Y7 H' P:=by
 rcases h with h | ⟨c1,h,h1⟩
 ·exact .inl (hk _ _ n h)
 ·exact .inr ⟨c1,hk _ _ n h,hk _ _ (YW h1 hP (by intro z;cases z)) h1⟩
theorem zA {P:Addr} {l:Yy} {H:Hp} (hz:l.Z H) (h:Y7 H P):Y7 (off H l.as) P:=by
 rcases h with h | ⟨c,h,h1⟩
 ·exact .inl (Wo hz h (by intro _ _ z;cases z))
 ·exact .inr ⟨c,Wo hz h (by intro _ _ z;cases z),Wo hz h1 (by intro _ _ z;cases z)⟩
def K2 (P P':Addr) (H H':Hp):Prop:=∀ a o,a≠P->a≠P'->H a=some o->H' a=some o
theorem K2.kt {P P':Addr} {H H':Hp} (h:K2 P P' H H') (h1:∃ ps,H P=some (.aH ps)) (h2:∃ ps,H P'=some (.aH ps)):Kt H H':=fun c o n e=>by
 obtain ⟨ps,h1⟩:=h1;obtain ⟨qs,h2⟩:=h2;exact h c o (YW e h1 (n _)) (YW e h2 (n _)) e
abbrev ju (x:Addr) (b:Bool):Yy:=[("_law_answer",x,.bl b)]
theorem HX (x:Addr) (b:Bool):(ju x b).as.Nodup:=by
 show cr [x]
 simp
theorem YdA {g:Gx} {Hz:Hp} {f c x:Addr} {b:Bool} {doc pm ctv:Α} (hf:Hz f=some (cD f (Zj (ju x b).cl c doc pm ctv))) (hc:Hz c=some (dw c Za)) (hz:(ju x b).Z Hz):Xo g Hz f b:=by
 have F:=Z0Z (g:=g) (k:=44) (f_:=f) (c_:=c) (doc:=doc) (pm:=pm) (ctv:=ctv) (l:=ju x b) rfl (HX x b);refine ⟨_,_,⟨F,fun us hl=>?_⟩,hf,fun H1 v Q n1 q=>?_⟩
 ·match us,hl with
  | [_],_=>rfl
 ·have z1:(ju x b).Z H1:=fun p hp=>by
   obtain ⟨o,z⟩:=hz p hp;exact ⟨o,n1.2 _ _ _ z⟩
  exact ⟨n1.1 _ _ hf,⟨n1.1 _ _ hf,n1.1 _ _ hc,z1⟩,b,v,rfl,rfl,fun _=>q _ (VW (.refl _))⟩
theorem z_k {l:Yy} {H H':Hp} (h:l.Z H) (s:Kt H H'):l.Z H':=fun p hp=>by
 obtain ⟨o,z⟩:=h p hp;exact ⟨o,s _ _ (fun ps q=>by cases q) z⟩
theorem Ygo {l:Yy} {P:Addr} {H1 Hz H':Hp} (h:X1 H1 Hz l) (s:K1 P Hz H'):K1 P H1 (off H' l.as):=fun a o n e=>by
 rw [YU fun hm=>?_]
 ·exact s a o n (XO h _ _ e)
 ·obtain ⟨p,hp,rfl⟩:=Y4 hm
  obtain ⟨_,_,n⟩:=h.1 p hp;rw [n] at e
  cases e
inductive jF (g:Gx) (P PS CV CB:Addr) (vs:List V) (H:Hp) (Q:VK) (E_:XK):Prop
 | mk (w:Nat) (B:V) (a:Addr) (b:Bool) (v:V) (lo:Int) (sg:List Nat) (s:Sk) (h0:vs=[.int (w:Nat),B,.ref a,.bl b,v]) (h1:Xc H lo sg a s) (h2:Y7 H P) (h3:Y0 H PS) (h4:P≠PS) (h5:((Vx H lo sg s v none/\∀ x d H',K2 P PS H H'->Y7 H' P->Y0 H' PS->H' x=some (XI x (.ref CV) (some d))->H' d=some (Xx d [("value",v)])->Q (.ref x) H')\/w=1/\b=true/\∃ d,Gv H lo sg s v d/\∀ x H',K2 P PS H H'->Y7 H' P->Y0 H' PS->H' x=some (XI x (.ref CB) none)->Q (.ref x) H'))
theorem Yeu {K:Λ} {cv:Α} {t:jh} {j:Nat} {ts:TS} {D:Ends} {σ:St} {H:Hp} (h:∀ E:XK,(∀ cls dc H2,(ix K cls cv=some true/\∀ a,H2 a=none->ts (D.gone j) (σ.set j (some (.ref a))) (upd H2 a (XI a cls dc)))->E cls dc H2)->t D.nx E σ H):Gh K cv t j ts D σ H:=h _ fun _ _ _ z=>z
theorem YaH {k:Nat} {Z4 Z0 Z1 aq aQ ak:Addr} (R:g.dW "_law_error" "_law_error" pF ["_law_way","_law_book","_law_shape","_law_answer","_law_value"] aQ) (bm:Bm g.mg g.base) (lK:iA g.base aQ ak) (Zr:g.bY k "steps_of" ["book","shape","value"] (fJ g.K Z0)) (iR:g.bY k "shrunk" ["book","shape","judge","value"] (lJ g aq Z0 Z1)) (qg:g.bY k "at_rest" ["book","shape","judge","value"] (jE g Z0)) (bL:g.mg "CountError"=some (.ref Z4)) (bF:ix g.K (.ref Z0) (.ref Z4)=some true) (aY:ix g.K (.ref Z1) (.ref Z4)=some true):g.bY (k+1) "_law_error" ["_law_way","_law_book","_law_shape","_law_answer","_law_value"] (jF g ak aq Z0 Z1):=by
 refine R.fnX ZJ (fun vs H Q E h=>by obtain ⟨w,B,a,b,v,lo,sg,sk,rfl,hS,te,ts,np,h⟩:=h;rfl) fun f_ A outer s H vs Q E hr h=>?_
 obtain ⟨w,B,a,b,v,lo,sg,sk,rfl,hS,te,ts,np,h⟩:=h;refine ⟨_,(@Yf _ _ _ _ _ (PS.cB (@xu _ _ _ _ _ _ _ _ _ _ 5 bm lK rfl rfl ZJ.nd rfl (.inl rfl) (Eq.trans rfl WU) rfl rfl rfl (.inr rfl))) (@Yf _ _ _ _ _ (PS.cB (@YA _ _ (6) _ _ _ _ ZJ.nd rfl (.inl rfl) Y5 (by rfl) (by first | exact .inl rfl | exact .inr rfl | assumption))) (@Yf _ _ _ _ _ (PS.cB (@Ti _ _ (7) _ _ _ _ _ _ _ _ _ _ _ (@Gi _ _ _ _ _ _ _ _ (@Ys _ _ _ _ _ _ _ _ YS (pv 0) Yi (Yp _)) (@Tg _ _ _ _ _ _ _ _ _ _ _ _ _ Zr hr (@Ya _ _ _ _ _ (pv 1) (@Ya _ _ _ _ _ (pv 2) (@Ya _ _ _ _ _ (pv 4) Yc (by rfl)) (by rfl)) (by rfl)) (by omega) (by rfl) (by rfl) (by decide) (by rfl) (by rfl) (by rfl)) (@Gi _ _ _ _ _ _ _ _ (@Ys _ _ _ _ _ _ _ _ YS (pv 0) Yi (Yp _)) (@Gp _ _ _ _ _ _ _ _ _ _ _ _ _ iR hr (@Ya _ _ _ _ _ (pv 1) (@Ya _ _ _ _ _ (pv 2) (@Ya _ _ _ _ _ (pv 5) (@Ya _ _ _ _ _ (pv 4) Yc (by rfl)) (by rfl)) (by rfl)) (by rfl)) (by omega) (by rfl) (by rfl) (by decide) (by rfl) (by rfl) (by intro _;rfl) (by rfl) (by rfl) (by rfl)) (@Gp _ _ _ _ _ _ _ _ _ _ _ _ _ qg hr (@Ya _ _ _ _ _ (pv 1) (@Ya _ _ _ _ _ (pv 2) (@Ya _ _ _ _ _ (pv 5) (@Ya _ _ _ _ _ (pv 4) Yc (by rfl)) (by rfl)) (by rfl)) (by rfl)) (by omega) (by rfl) (by rfl) (by decide) (by rfl) (by rfl) (by intro _;rfl) (by rfl) (by rfl) (by rfl)))) ZJ.nd rfl rfl bL (fun _=>(@Yg _ _ _ (@YA _ _ (6) _ _ _ _ ZJ.nd rfl (.inl rfl) (pv 7) (by rfl) (by first | exact .inl rfl | exact .inr rfl | assumption)))) (by rfl) (by rfl) (by rfl) (by rfl) (by decide))) (@Yg _ _ _ (PS.cB (@Yl _ _ _ _ (pv 6))))))),?_⟩;refine Yq fun R rr=>?_
 have fin:∀ (f c:Addr) (doc pm ctv:Α) (H2:Hp),K1 ak H H2->Kt H H2->Y7 H2 ak->Y0 H2 aq->H2 f=some (cD f (Zj (ju (s.heap.objs.size+1) b).cl c doc pm ctv))->H2 c=some (dw c Za)->R [some (.int (w:Nat)),some B,some (.ref a),some (.bl b),some v,some (.ref f),none,none] H2:=by
  intro f c doc pm ctv H2 k2 fj te2 jP hf hc;refine rr _ _ (Yq fun R rr=>?_);walk_at "rd";refine rr _ _ (Yq fun R rr=>?_);walk_at "rd";refine Yeu fun E' hE'=>?_
  have hE:∀ cls dc H2,ix g.K (.ref cls) (.ref Z4)=some true->(∀ x,H2 x=none->Q (.ref x) (upd H2 x (XI x (.ref cls) dc)))->E' (.ref cls) dc H2:=fun cls dc H2 m hq=>hE' _ _ _ ⟨m,fun x hx=>by
   walk_at "rd";refine rr _ _ ?_;walk_at "rd";exact hq x hx⟩
  have tb2:=te2.aH;have cells:Xk (g.cH [χ "_law_way",χ "_law_book",χ "_law_shape",χ "_law_answer",χ "_law_value",χ "_law_holds",χ "_law_error_here",χ "e"] (χ "_law_error") pF f_ (Ω aQ) A outer s H E).cB [some (V.int (w:Nat)),some B,some (V.ref a),some (V.bl b),some v,some (V.ref f),some V.non,none] (ju (s.heap.objs.size+1) b):=⟨HX _ _,fun z hz=>by
   cases ρ.mp hz
   exact ⟨3,rfl,rfl,rfl,rfl⟩⟩
  have hS2:=hS.tp (YT fj);unfold xT;walk_at "rd";rcases h with ⟨hv,qv⟩ | ⟨rfl,rfl,d,hg,qb⟩
  ·have hV:∀ H' d,K2 ak aq H H'->Y7 H' ak->Y0 H' aq->H' d=some (Xx d [("value",v)])->E' (.ref Z0) (some d) H':=fun H' d k' t1 t2 hd=>hE _ _ _ bF fun x hx=>by
    have su:=Yd.aj hx (XI x (.ref Z0) (some d));exact qv x d _ (fun a o n1 n2 e=>su _ _ (k' a o n1 n2 e)) (t1.keep su) (t2.keep su) Yb (su _ _ hd)
   have len:∀ {Hz:Hp},X1 H2 Hz (ju (s.heap.objs.size+1) b)->∀ H' d,Yd Hz H'->H' d=none->E' (.ref Z0) (some d) (off (upd H' d (Xx d [("value",v)])) (ju (s.heap.objs.size+1) b).as):=fun {Hz} hL H' d s' gd'=>by
    have sd:=s'.trans (.aj gd' (Xx d [("value",v)]));have z':=hL.z.keep sd;have s2:=(XO hL).trans sd;exact hV _ d (fun a o n1 _ e=>HJ hL sd _ _ (k2 a o n1 e)) (zA z' (te2.keep s2)) (uO z' (jP.keep s2)) (Wo z' Yb (by intro _ _ z;cases z))
   refine V8 (fun _=>?_) fun _=>V8 (fun _=>?_) fun _=>?_
   ·unfold Gg
    walk_at "rd";refine ⟨B,lo,sg,a,sk,v,rfl,hS2,.inl ⟨hv.kt fj,fun H' d s' gd'=>?_⟩⟩;have sd:=s'.trans (.aj gd' (Xx d [("value",v)]));exact hV _ d (fun a o n1 _ e=>sd _ _ (k2 a o n1 e)) (te2.keep sd) (jP.keep sd) Yb
   ·unfold VS
    walk_at "rd";refine ⟨_,cells,fun _ Hz hL=>?_⟩;have sz:=XO hL;exact ⟨B,a,f,v,lo,sg,sk,rfl,hS2.tp (YT (Yo sz)),jP.keep sz,.inl ⟨(hv.kt fj).kt (Yo sz),len hL⟩⟩
   ·unfold VS
    walk_at "rd";refine ⟨_,cells,fun _ Hz hL=>?_⟩;have sz:=XO hL;exact ⟨B,a,f,v,lo,sg,sk,rfl,hS2.tp (YT (Yo sz)),.inl ⟨(hv.kt fj).kt (Yo sz),len hL⟩⟩
  ·refine YH (by decide) (Xd rfl ?_)
   unfold VS;walk_at "rd";refine ⟨_,cells,fun _ Hz hL=>?_⟩;have sz:=XO hL;refine ⟨B,a,f,v,lo,sg,sk,rfl,hS2.tp (YT (Yo sz)),jP.keep sz,.inr ⟨d,true,hg.kt (fj.trans (Yo sz)),YdA (sz _ _ hf) (sz _ _ hc) hL.z,fun _ H' k' t'=>?_,fun z=>by cases z⟩⟩;obtain ⟨ps,hps⟩:=(jP.keep sz).aH;have z':=z_k hL.z (WQ k' hps);refine hE _ _ _ aY fun x hx=>?_
   have su:=Yd.aj hx (XI x (.ref Z1) none);exact qb x _ (fun a o n1 n2 e=>su _ _ (Ygo hL k' a o n2 (k2 a o n1 e))) ((zA z' ((te2.keep sz).but k' hps np)).keep su) ((uO z' t').keep su) Yb
 walk_at "rd";unfold rJ;walk_at "rd";rcases te with ht | ⟨c,ht,hc⟩
 ·refine ⟨_,ht,trivial,.inl ⟨rfl,fun f c fd g1 g2 g3 ⟨doc,pm,ctv,e⟩=>?_⟩⟩
  subst e;have n1:=Yk ht g1;have n2:=Yk ht g2;have kk:∀ (o1 o2 o3:HO) a o,a≠ak->H a=some o->upd (upd (upd H ak o1) c o2) f o3 a=some o:=fun o1 o2 o3 a o h1 h2=>by rw [Ye (Yk h2 g1),Ye (Yk h2 g2),Ye h1];exact h2
  exact fin f c doc pm ctv _ (kk _ _ _) (WQ (kk _ _ _) ht) (.inr ⟨c,by rw [Ye n1,Ye n2,Yb];rfl,by rw [Ye (ah g3),Yb]⟩) (ts.but (kk _ _ _) ht (ah np)) (by rw [Yb];rfl) (by rw [Ye (ah g3),Yb])
 ·refine ⟨_,ht,trivial,.inr ⟨c,rfl,fun f fd g1 ⟨doc,pm,ctv,e⟩=>?_⟩⟩
  subst e;have su:∀ o,Yd H (upd H f o):=fun o=>Yd.aj g1 o
  exact fin f c doc pm ctv _ (HS (su _)) (Yo (su _)) (Y7.keep (.inr ⟨c,ht,hc⟩) (su _)) (ts.keep (su _)) (by rw [Yb];rfl) (su _ _ _ hc)
inductive iT (CV CB:Addr) (vs:List V) (H:Hp) (Q:VK) (E_:XK):Prop
 | mk (x:Addr) (od:Option Addr) (C:Addr) (h0:vs=[.ref x]) (h1:(C=CV\/C=CB)) (h2:H x=some (XI x (.ref C) od)) (h3:∀ H',Yd H H'->Q (.bl true) H')
theorem YaI {Z4 Z0 Z1 Zu Zh Zm:Addr} (R:g.Raw "_law_above" "_law_above" yL ["_law_error_here"]) (ZO:g.mg "ValueError"=none) (Z3:g.mg "isinstance"=none) (bL:g.mg "CountError"=some (.ref Z4)) (bD:g.mg "NoBreach"=some (.ref Z1)) (dZ:g.mg "NoDraw"=some (.ref Zu)) (cZ:g.mg "NoNumber"=some (.ref Zh)) (cC:g.mg "NoValue"=some (.ref Z0)) (dD:g.mg "TooMany"=some (.ref Zm)) (aM:cQ g.K Z1) (aN:cQ g.K Z0) (bG:aw g.K (.ref Z0) (.ref Z4)=some true) (bH:aw g.K (.ref Z0) (.type "ValueError")=some true) (bZ:aw g.K (.ref Z0) (.ref Zu)=some false) (bM:aw g.K (.ref Z0) (.ref Zh)=some false) (bU:aw g.K (.ref Z0) (.ref Zm)=some false) (aZ:aw g.K (.ref Z1) (.ref Z4)=some true) (bf:aw g.K (.ref Z1) (.type "ValueError")=some true) (bV:aw g.K (.ref Z1) (.ref Zu)=some false) (bI:aw g.K (.ref Z1) (.ref Zh)=some false) (bN:aw g.K (.ref Z1) (.ref Zm)=some false) (aR:aw g.K (.ref Z0) (.ref Z0)=some true) (bO:aw g.K (.ref Z0) (.ref Z1)=some false) (aO:aw g.K (.ref Z1) (.ref Z1)=some true) (bQ:aw g.K (.ref Z1) (.ref Z0)=some false):g.Fn (1) "_law_above" ["_law_error_here"] (iT Z0 Z1):=by
 refine R.fn Gz (fun vs H Q E h=>by obtain ⟨x,od,C,rfl,hC,hx,q⟩:=h;rfl) fun f_ cdv A outer s H vs Q E hr h=>?_
 obtain ⟨x,od,C,rfl,hC,hx,q⟩:=h;refine ⟨_,(@Yf _ _ _ _ _ (@XE _ _ _ _ _ _ _ _ bp rfl (@Xg _ _ _ _ (@Yw _ _ _ _ (@Ya _ _ _ _ _ (@YN _ _ _ _ _ _ _ _ _ _ Z3 (Xb (K:=g.K) (YV aN (YV aM XW))) (@Ya _ _ _ _ _ (pv 0) (@Ya _ _ _ _ _ (@We _ _ _ _ _ dZ (by rfl) (by rfl) (by decide)) Yc (by rfl)) (by rfl)) (by decide +kernel) (by rfl) (by rfl) (by decide) (by decide) (by rfl) (by rfl)) (@Ya _ _ _ _ _ (@YN _ _ _ _ _ _ _ _ _ _ Z3 (Xb (K:=g.K) (YV aN (YV aM XW))) (@Ya _ _ _ _ _ (pv 0) (@Ya _ _ _ _ _ (@We _ _ _ _ _ cZ (by rfl) (by rfl) (by decide)) Yc (by rfl)) (by rfl)) (by decide +kernel) (by rfl) (by rfl) (by decide) (by decide) (by rfl) (by rfl)) (@Ya _ _ _ _ _ (@YN _ _ _ _ _ _ _ _ _ _ Z3 (Xb (K:=g.K) (YV aN (YV aM XW))) (@Ya _ _ _ _ _ (pv 0) (@Ya _ _ _ _ _ (@We _ _ _ _ _ dD (by rfl) (by rfl) (by decide)) Yc (by rfl)) (by rfl)) (by decide +kernel) (by rfl) (by rfl) (by decide) (by decide) (by rfl) (by rfl)) Yc (by rfl)) (by rfl)) (by rfl)))) (@YB _ _ (1) _ Gz.nd rfl (.inl rfl) (by first | exact .inl rfl | exact .inr rfl | assumption)) (@Yg _ _ _ (@YE _ _ _ _ _ _ _ _ (@Y8 _ _ _ (pv 1) (by intro _;rfl)) (@Yg _ _ _ (@Yl _ _ _ _ Xe)) Yr)) (by intro _;rfl)) (@Yf _ _ _ _ _ (@YE _ _ _ _ _ _ _ _ (@Ys _ _ _ _ _ _ _ _ YS (@YN _ _ _ _ _ _ _ _ _ _ Z3 (Xb (K:=g.K) (YV aN (YV aM XW))) (@Ya _ _ _ _ _ (pv 0) (@Ya _ _ _ _ _ (@We _ _ _ _ _ cC (by rfl) (by rfl) (by decide)) Yc (by rfl)) (by rfl)) (by decide +kernel) (by rfl) (by rfl) (by decide) (by decide) (by rfl) (by rfl)) (@YN _ _ _ _ _ _ _ _ _ _ Z3 (Xb (K:=g.K) (YV aN (YV aM XW))) (@Ya _ _ _ _ _ (pv 0) (@Ya _ _ _ _ _ (@We _ _ _ _ _ bD (by rfl) (by rfl) (by decide)) Yc (by rfl)) (by rfl)) (by decide +kernel) (by rfl) (by rfl) (by decide) (by decide) (by rfl) (by rfl)) (Yp _)) (@Yg _ _ _ (@Yl _ _ _ _ Xe)) Yr) (@Yg _ _ _ (@Yl _ _ _ _ (@Wa _ _ _ _ _ _ _ (@YN _ _ _ _ _ _ _ _ _ _ Z3 (Xb (K:=g.K) (YV aN (YV aM XW))) (@Ya _ _ _ _ _ (pv 0) (@Ya _ _ _ _ _ (@We _ _ _ _ _ bL (by rfl) (by rfl) (by decide)) Yc (by rfl)) (by rfl)) (by decide +kernel) (by rfl) (by rfl) (by decide) (by decide) (by rfl) (by rfl)) (@X9 _ _ _ _ _ (@YN _ _ _ _ _ _ _ _ _ _ Z3 (Xb (K:=g.K) (YV aN (YV aM XW))) (@Ya _ _ _ _ _ (pv 0) (@Ya _ _ _ _ _ (@XU _ _ _ _ ("ValueError") ZO (by decide +kernel) (by rfl) (by rfl) (by decide) (by decide)) Yc (by rfl)) (by rfl)) (by decide +kernel) (by rfl) (by rfl) (by decide) (by decide) (by rfl) (by rfl)))))))),?_⟩;have hm:C∈[Z0,Z1]:=by rcases hC with rfl | rfl<;>simp
 have k:∀ {b:Bool} {w:Α},aw g.K (.ref Z0) w=some b->aw g.K (.ref Z1) w=some b->aw g.K (.ref C) w=some b:=fun h1 h2=>by
  rcases hC with rfl | rfl
  ·exact h1
  ·exact h2
 refine Yq fun R rr=>?_
 refine Uu (K:=g.K) (xs:=[.bl false,.bl false,.bl false]) (fun c i σ H'=>(∃ o,σ=[some (.ref x),o])/\Yd H H'/\H' c=some (.lst [.bl false,.bl false,.bl false])) (fun R r=>?_) (fun c i σ H' _ ⟨_,_,h⟩=>ao.of h) ?_ ?_
 ·walk_at "rd"
  exact ⟨C,hm,x,_,_,false,od,rfl,rfl,hx,k bZ bV,C,hm,x,_,_,false,od,rfl,rfl,hx,k bM bI,C,hm,x,_,_,false,od,rfl,rfl,hx,k bU bN,few (by decide),fun p hp=>r p _ ⟨⟨_,rfl⟩,.aj hp _,Yb⟩⟩
 ·rintro c i y σ H' hy ⟨⟨o,rfl⟩,sm,hl⟩
  have:y = .bl false:=by
   match i,hy with
   | 0,hy=>exact (Θ hy).symm
   | 1,hy=>exact (Θ hy).symm
   | 2,hy=>exact (Θ hy).symm
  subst this;walk_at "rd";exact ⟨sm,hl⟩
 ·rintro c σ H' ⟨⟨o,rfl⟩,sm,_⟩
  refine rr _ _ (Yq fun R rr=>?_);have hx':=sm _ _ hx;walk_at "rd";rcases hC with rfl | rfl
  ·refine ⟨C,hm,x,_,_,true,od,rfl,rfl,hx',aR,C,hm,x,_,_,false,od,rfl,rfl,hx',bO,?_⟩
   refine ⟨rfl,YH (by intro z;cases z) (rr _ _ ?_)⟩;walk_at "rd";exact ⟨C,hm,x,_,_,true,od,rfl,rfl,hx',bG,_,rfl,Xd rfl ⟨C,hm,x,_,_,true,od,rfl,rfl,hx',bH,q H' sm⟩⟩
  ·refine ⟨C,hm,x,_,_,false,od,rfl,rfl,hx',bQ,C,hm,x,_,_,true,od,rfl,rfl,hx',aO,?_⟩
   refine ⟨rfl,YH (by intro z;cases z) (rr _ _ ?_)⟩;walk_at "rd";exact ⟨C,hm,x,_,_,true,od,rfl,rfl,hx',aZ,_,rfl,Xd rfl ⟨C,hm,x,_,_,true,od,rfl,rfl,hx',bf,q H' sm⟩⟩
inductive mV (g:Gx) (P PS CV CB:Addr) (vs:List V) (H:Hp) (Q:VK) (E_:XK):Prop
 | mk (B:V) (a:Addr) (b:Bool) (v:V) (lo:Int) (sg:List Nat) (s:Sk) (h0:vs=[B,.ref a,.bl b,v]) (h1:Xc H lo sg a s) (h2:Y7 H P) (h3:Y0 H PS) (h4:P≠PS) (h5:Vx H lo sg s v none) (h6:cI H 2 9 v) (h7:∀ H',K2 P PS H H'->Y7 H' P->Y0 H' PS->Q (.bl true) H')
theorem Z1W {k:Nat} {Z0 Z1 aq ak:Addr} (R:g.Raw "_law_is_refused" "_law_is_refused" yM ["_law_book","_law_shape","_law_answer","_law_value"]) (zB:g.bY k "_law_error" ["_law_way","_law_book","_law_shape","_law_answer","_law_value"] (jF g ak aq Z0 Z1)) (zE:g.Fn k "_law_above" ["_law_error_here"] (iT Z0 Z1)) (bK:c6 g.K (.ref Z0) "value"=some none) (Z3:g.mg "isinstance"=none) (Zv:g.mg "range"=none) (cC:g.mg "NoValue"=some (.ref Z0)) (aM:cQ g.K Z1) (aN:cQ g.K Z0) (aR:aw g.K (.ref Z0) (.ref Z0)=some true):g.Fn (k+1) "_law_is_refused" ["_law_book","_law_shape","_law_answer","_law_value"] (mV g ak aq Z0 Z1):=by
 refine R.fn ZX (fun vs H Q E h=>by obtain ⟨B,a,b,v,lo,sg,s,rfl,hS,te,ts,np,hv,hc,q⟩:=h;rfl) fun f_ cdv A outer s H vs Q E hr h=>?_
 obtain ⟨B,a,b,v,lo,sg,s,rfl,hS,te,ts,np,hv,hc,q⟩:=h;refine ⟨_,(@Yf _ _ _ _ _ (@XE _ _ _ _ _ _ _ _ bp rfl (@WV _ _ _ _ _ _ rfl Zv (@Ya _ _ _ _ _ Yi Yc (by rfl)) (by rfl)) (@YB _ _ (4) _ ZX.nd rfl (.inl rfl) (by first | exact .inl rfl | exact .inr rfl | assumption)) (@Yf _ _ _ _ _ (@YA _ _ (5) _ _ _ _ ZX.nd rfl (.inl rfl) (@XF _ _ _ _ _ _ _ _ _ _ _ _ _ zB hr Ww (@Ya _ _ _ _ _ (pv 4) (@Ya _ _ _ _ _ (pv 0) (@Ya _ _ _ _ _ (pv 1) (@Ya _ _ _ _ _ (pv 2) (@Ya _ _ _ _ _ (pv 3) Yc (by rfl)) (by rfl)) (by rfl)) (by rfl)) (by rfl)) (by omega) (by rfl) (by rfl) (by decide) (by rfl) (by rfl)) (by rfl) (by first | exact .inl rfl | exact .inr rfl | assumption)) (@Yg _ _ _ (@YE _ _ _ _ _ _ _ _ (@XY _ _ _ _ _ _ _ (@Ys _ _ _ _ _ _ _ _ W8 (pv 5) Y5 (Yp _)) (@XY _ _ _ _ _ _ _ (@Xt _ _ _ _ (@Y8 _ _ _ (@YN _ _ _ _ _ _ _ _ _ _ Z3 (Xb (K:=g.K) (YV aN (YV aM XW))) (@Ya _ _ _ _ _ (pv 5) (@Ya _ _ _ _ _ (@We _ _ _ _ _ cC (by rfl) (by rfl) (by decide)) Yc (by rfl)) (by rfl)) (by decide +kernel) (by rfl) (by rfl) (by decide) (by decide) (by rfl) (by rfl)) (by intro _;rfl))) (@XY _ _ _ _ _ _ _ (@Xt _ _ _ _ (@Y8 _ _ _ (@Yz _ _ _ _ _ _ _ _ _ _ _ _ zE hr (@Ya _ _ _ _ _ (pv 5) Yc (by rfl)) (by omega) (by rfl) (by rfl) (by decide) (by rfl) (by rfl)) (by intro _;rfl))) (@Wp _ _ _ _ (@Ys _ _ _ _ _ _ _ _ (Gn hr.units) (@Bk _ _ _ _ _ _ _ aN bK (pv 5) (by rfl) (by rfl)) (pv 3) (Yp _)))))).pt (@Yg _ _ _ (@Yl _ _ _ _ Xe)) Yr))) (by intro _;rfl)) (@Yg _ _ _ (@Yl _ _ _ _ Xe))),?_⟩;refine Yq fun R rr=>?_
 refine Nu (n:=3) (fun i σ H'=>(∃ o4 o5,σ=[some B,some (.ref a),some (.bl b),some v,o4,o5])/\K2 ak aq H H'/\Y7 H' ak/\Y0 H' aq) (fun R r=>by walk_at "rd";exact r) (by decide) ⟨⟨_,_,rfl⟩,fun _ _ _ _ e=>e,te,ts⟩ ?_ ?_
 ·rintro i σ H' hi ⟨⟨o4,o5,rfl⟩,k2,te',ts'⟩
  have fj:=k2.kt te.aH ts.aH;refine Yq fun R rr=>?_
  walk_at "rd";refine ⟨i,B,a,b,v,lo,sg,s,rfl,hS.tp (YT fj),te',ts',np,.inl ⟨hv.kt fj,fun x d H2 k3 t1 t2 hx hd=>rr _ _ ?_⟩⟩;have qj:=fj.trans (k3.kt te'.aH ts'.aH);walk_at "rd";refine YH (by intro z;cases z) ⟨Z0,by simp,x,_,_,true,some d,rfl,rfl,hx,aR,_,rfl,YH (by decide) ⟨x,some d,Z0,rfl,.inl rfl,hx,fun H3 s3=>⟨_,rfl,YH (by decide) ?_⟩⟩⟩;unfold Ga;walk_at "rd";exact ⟨d,s3 _ _ hx,_,s3 _ _ hd,v,rfl,(hc.kt (qj.trans (Yo s3))).sam (by decide),fun y o n1 n2 e=>s3 _ _ (k3 y o n1 n2 (k2 y o n1 n2 e)),t1.keep s3,t2.keep s3⟩
 ·rintro σ H' ⟨⟨o4,o5,rfl⟩,k2,te',ts'⟩
  refine rr _ _ ?_;walk_at "rd";exact q H' k2 te' ts'
def HY (b:Bool) (fv vs:List V) (H:Hp) (Q:VK):Prop:=∃ (v:V),vs=[v]/\Q (.bl b) H
theorem Z0M {k:Nat}   {f_ c_:Addr} {doc pm ctv:Α} {l:Yy}  (hl:l.map (·.1)=([]:List Str)) (hnd:l.as.Nodup):bw g.P g.w g.K g.mg g.base cG (k+1) f_ (Ze l.cl c_ doc pm ctv) ["_law_thing"] (fun vs H Q _=>rH H f_ c_ (Ze l.cl c_ doc pm ctv) Zc l/\(HY false) l.vs vs (off H l.as) fun v H'=>(∀ c∈l.as,H' c=none)->Q v (on H' H l.as)):=by
 refine Fo (N:=["_law_thing"]) (by rw [hl];exact Z0L) hnd (fun vs H Q h=>by obtain ⟨v,rfl,q⟩:=h;rfl) fun A outer s H vs Q hr h=>?_
 obtain ⟨v,rfl,q⟩:=h;refine ⟨_,(@Yg _ _ _ (@Yl _ _ _ _ Xe)),?_⟩;walk_at "rd";exact q
theorem Z0G {k:Nat}   {f_ c_:Addr} {doc pm ctv:Α} {l:Yy}  (hl:l.map (·.1)=([]:List Str)) (hnd:l.as.Nodup):bw g.P g.w g.K g.mg g.base cG (k+1) f_ (Zp l.cl c_ doc pm ctv) ["_law_thing"] (fun vs H Q _=>rH H f_ c_ (Zp l.cl c_ doc pm ctv) Zb l/\(HY true) l.vs vs (off H l.as) fun v H'=>(∀ c∈l.as,H' c=none)->Q v (on H' H l.as)):=by
 refine Fo (N:=["_law_thing"]) (by rw [hl];exact Z0F) hnd (fun vs H Q h=>by obtain ⟨v,rfl,q⟩:=h;rfl) fun A outer s H vs Q hr h=>?_
 obtain ⟨v,rfl,q⟩:=h;refine ⟨_,(@Yg _ _ _ (@Yl _ _ _ _ Xe)),?_⟩;walk_at "rd";exact q
theorem UI {g:Gx} {H:Hp} {f c:Addr} {doc pm ctv:Α} (hf:H f=some (cD f (Ze [] c doc pm ctv))) (hc:H c=some (dw c Zc)):Xo g H f false:=by
 have F:=Z0M (g:=g) (k:=44) (f_:=f) (c_:=c) (doc:=doc) (pm:=pm) (ctv:=ctv) (l:=[]) rfl (by simp [Yy.as]);refine ⟨_,_,⟨F,fun us hl=>?_⟩,hf,fun H1 v Q n1 q=>⟨n1.1 _ _ hf,⟨n1.1 _ _ hf,n1.1 _ _ hc,fun p hp=>by cases hp⟩,v,rfl,fun _=>q _ (VW (.refl _))⟩⟩
 match us,hl with
 | [_],_=>rfl
theorem V3 {g:Gx} {H:Hp} {f c:Addr} {doc pm ctv:Α} (hf:H f=some (cD f (Zp [] c doc pm ctv))) (hc:H c=some (dw c Zb)):Xo g H f true:=by
 have F:=Z0G (g:=g) (k:=44) (f_:=f) (c_:=c) (doc:=doc) (pm:=pm) (ctv:=ctv) (l:=[]) rfl (by simp [Yy.as]);refine ⟨_,_,⟨F,fun us hl=>?_⟩,hf,fun H1 v Q n1 q=>⟨n1.1 _ _ hf,⟨n1.1 _ _ hf,n1.1 _ _ hc,fun p hp=>by cases hp⟩,v,rfl,fun _=>q _ (VW (.refl _))⟩⟩
 match us,hl with
 | [_],_=>rfl
theorem rQ {t:TS} {u:(St->V->Hp->Prop)->St->Hp->Prop} {R:St->V->Hp->Prop} {σ:St} {H:Hp} (h:∀ N:St->Hp->Prop,(∀ σ H,u R σ H->N σ H)->t { nx:=N,rt:=fun _ _=>False } σ H):tZ t u R σ H:=h _ fun _ _ z=>z
theorem Q4 {t:TS} {u:(St->V->Hp->Prop)->St->Hp->Prop} {R:St->V->Hp->Prop} {σ:St} {H:Hp} (h:∀ N:St->Hp->Prop,(∀ σ H,u R σ H->N σ H)->t { nx:=N,rt:=fun v H'=>∀ σ',R σ' v H' } σ H):Gk t u R σ H:=h _ fun _ _ z=>z
theorem JV {t1 t2:TS} {u:(St->V->Hp->Prop)->St->Hp->Prop} {R:St->V->Hp->Prop} {σ:St} {H:Hp} (M:St->Hp->Prop) (h1:∀ σ H,M σ H->u R σ H) (h2:∀ N:St->Hp->Prop,(∀ σ H,M σ H->N σ H)->t1 { nx:=fun σ H=>t2 { nx:=N,rt:=fun _ _=>False } σ H,rt:=fun _ _=>False } σ H):tZ t1 (tZ t2 u) R σ H:=h2 _ h1
def Xr (H:Hp) (P:Addr):Prop:=H P=some (.aH #[])\/∃ c1 c2,H P=some (.aH #[cE 620,cE 4,.ref c1,cE 623,cE 4,.ref c2])/\H c1=some (dw c1 Zc)/\H c2=some (dw c2 Zb)
theorem Xr.gK {H H':Hp} {P:Addr} (h:Xr H P) (s:pY H H'):Xr H' P:=by
 rcases h with h | ⟨c1,c2,h,h1,h2⟩
 ·exact .inl (s _ _ (by intro _ z;cases z) h)
 ·exact .inr ⟨c1,c2,s _ _ (by intro _ z;cases z) h,s _ _ (by intro _ z;cases z) h1,s _ _ (by intro _ z;cases z) h2⟩
theorem Xr.keep {H H':Hp} {P:Addr} (h:Xr H P) (s:Yd H H'):Xr H' P:=h.gK (Qc s)
theorem Xr.k2 {H H':Hp} {P P1 P2:Addr} (h:Xr H P) (k:K2 P1 P2 H H') (h1:∃ ps,H P1=some (.aH ps)) (h2:∃ ps,H P2=some (.aH ps)) (n1:P≠P1) (n2:P≠P2):Xr H' P:=by
 have kt:=k.kt h1 h2;rcases h with h | ⟨c1,c2,h,k1,k2⟩
 ·exact .inl (k _ _ n1 n2 h)
 ·exact .inr ⟨c1,c2,k _ _ n1 n2 h,kt _ _ (by intro _ z;cases z) k1,kt _ _ (by intro _ z;cases z) k2⟩
theorem Xr.k1 {H H':Hp} {P P1:Addr} (h:Xr H P) (k:K1 P1 H H') (h1:∃ ps,H P1=some (.aH ps)) (n1:P≠P1):Xr H' P:=h.k2 (P2:=P1) (fun a o n _ e=>k a o n e) h1 h1 n1 n1
inductive uP (g:Gx) (P PT PS CV CB:Addr) (vs:List V) (H:Hp) (Q:VK) (E_:XK):Prop
 | mk (B:V) (a:Addr) (v:V) (lo:Int) (sg:List Nat) (s:Sk) (d:Dv) (h0:vs=[B,.ref a,v]) (h1:Xc H lo sg a s) (h2:Y7 H P) (h3:Y0 H PS) (h4:Xr H PT) (h5:P≠PS) (h6:PT≠P) (h7:PT≠PS) (h8:Gv H lo sg s v d) (h9:∀ H',Kt H H'->Y7 H' P->Y0 H' PS->Xr H' PT->Q (.bl true) H')
theorem Z2j {k:Nat} {Z0 Z1 aq ak aJ au:Addr} (R:g.dW "_law_is_taken" "_law_is_taken" Zt ["_law_book","_law_shape","_law_value"] aJ) (bm:Bm g.mg g.base) (eU:iA g.base aJ au) (Zr:g.bY k "steps_of" ["book","shape","value"] (fJ g.K Z0)) (iR:g.bY k "shrunk" ["book","shape","judge","value"] (lJ g aq Z0 Z1)) (qg:g.bY k "at_rest" ["book","shape","judge","value"] (jE g Z0)) (zB:g.bY k "_law_error" ["_law_way","_law_book","_law_shape","_law_answer","_law_value"] (jF g ak aq Z0 Z1)) (zE:g.Fn k "_law_above" ["_law_error_here"] (iT Z0 Z1)) (Z3:g.mg "isinstance"=none) (aP:g.mg "len"=none) (aW:g.mg "list"=none) (bD:g.mg "NoBreach"=some (.ref Z1)) (aM:cQ g.K Z1) (aN:cQ g.K Z0) (aO:PySem.W.kitOne g.K (.ref Z1) (.ref Z1)=some true):g.Fn (k+1) "_law_is_taken" ["_law_book","_law_shape","_law_value"] (uP g ak au aq Z0 Z1):=by
 refine R.RW Zn (fun vs H Q E h=>by obtain ⟨B,a,v,lo,sg,sk,d,rfl,hS,te,ts,tn,np,zF,uQ,hg,q⟩:=h;rfl) fun f_ A outer s H vs Q E hr h=>?_
 obtain ⟨B,a,v,lo,sg,sk,d,rfl,hS,te,ts,tn,np,zF,uQ,hg,q⟩:=h;refine ⟨_,(@Vg _ _ _ _ _ (@YA _ _ (3) _ _ _ _ Zn.nd rfl (.inl rfl) (@XF _ _ _ _ _ _ _ _ _ _ _ _ _ zB hr Ww (@Ya _ _ _ _ _ Yi (@Ya _ _ _ _ _ (pv 0) (@Ya _ _ _ _ _ (pv 1) (@Ya _ _ _ _ _ Xe (@Ya _ _ _ _ _ (pv 2) Yc (by rfl)) (by rfl)) (by rfl)) (by rfl)) (by rfl)) (by omega) (by rfl) (by rfl) (by decide) (by rfl) (by rfl)) (by rfl) (by first | exact .inl rfl | exact .inr rfl | assumption)) (@Vq _ _ _ _ _ (@YE _ _ _ _ _ _ _ _ (@XY _ _ _ _ _ _ _ (@Ys _ _ _ _ _ _ _ _ W8 (pv 3) Y5 (Yp _)) (@XY _ _ _ _ _ _ _ (@Xt _ _ _ _ (@Y8 _ _ _ (@YN _ _ _ _ _ _ _ _ _ _ Z3 (Xb (K:=g.K) (YV aN (YV aM XW))) (@Ya _ _ _ _ _ (pv 3) (@Ya _ _ _ _ _ (@We _ _ _ _ _ bD (by rfl) (by rfl) (by decide)) Yc (by rfl)) (by rfl)) (by decide +kernel) (by rfl) (by rfl) (by decide) (by decide) (by rfl) (by rfl)) (by intro _;rfl))) (@Wp _ _ _ _ (@Xt _ _ _ _ (@Y8 _ _ _ (@Yz _ _ _ _ _ _ _ _ _ _ _ _ zE hr (@Ya _ _ _ _ _ (pv 3) Yc (by rfl)) (by omega) (by rfl) (by rfl) (by decide) (by rfl) (by rfl)) (by intro _;rfl)))))).pt (@Yg _ _ _ (@Yl _ _ _ _ Xe)) Yr) (@Vg _ _ _ _ _ (@xu _ _ _ _ _ _ _ _ _ _ 4 bm eU rfl rfl Zn.nd rfl (.inl rfl) (Eq.trans rfl WE) rfl rfl rfl (.inr rfl)) (@Vg _ _ _ _ _ (@xu _ _ _ _ _ _ _ _ _ _ 5 bm eU rfl rfl Zn.nd rfl (.inl rfl) (Eq.trans rfl WA) rfl rfl rfl (.inr rfl)) (@Vg _ _ _ _ _ (@YA _ _ (6) _ _ _ _ Zn.nd rfl (.inl rfl) (@XF _ _ _ _ _ _ _ _ _ _ _ _ _ Zr hr Ww (@Ya _ _ _ _ _ (pv 0) (@Ya _ _ _ _ _ (pv 1) (@Ya _ _ _ _ _ (pv 2) Yc (by rfl)) (by rfl)) (by rfl)) (by omega) (by rfl) (by rfl) (by decide) (by rfl) (by rfl)) (by rfl) (by first | exact .inl rfl | exact .inr rfl | assumption)) (@Vq _ _ _ _ _ (@YE _ _ _ _ _ _ _ _ (@XY _ _ _ _ _ _ _ (@Xt _ _ _ _ (@Y8 _ _ _ (@YN _ _ _ _ _ _ _ _ _ _ Z3 Y1 (@Ya _ _ _ _ _ (pv 6) (@Ya _ _ _ _ _ (@XU _ _ _ _ ("list") aW (by decide +kernel) (by rfl) (by rfl) (by decide) (by decide)) Yc (by rfl)) (by rfl)) (by decide +kernel) (by rfl) (by rfl) (by decide) (by decide) (by rfl) (by rfl)) (by intro _;rfl))) (@Wp _ _ _ _ (@Ys _ _ _ _ _ _ _ _ NT (@XF _ _ _ _ _ _ _ _ _ _ _ _ _ qg hr Ww (@Ya _ _ _ _ _ (pv 0) (@Ya _ _ _ _ _ (pv 1) (@Ya _ _ _ _ _ (pv 5) (@Ya _ _ _ _ _ (pv 2) Yc (by rfl)) (by rfl)) (by rfl)) (by rfl)) (by omega) (by rfl) (by rfl) (by decide) (by rfl) (by rfl)) Xe (Yp _)))).pt (@Yg _ _ _ (@Yl _ _ _ _ Xe)) Yr) (@Vg _ _ _ _ _ (@YA _ _ (7) _ _ _ _ Zn.nd rfl (.inl rfl) (@XF _ _ _ _ _ _ _ _ _ _ _ _ _ iR hr Ww (@Ya _ _ _ _ _ (pv 0) (@Ya _ _ _ _ _ (pv 1) (@Ya _ _ _ _ _ (pv 4) (@Ya _ _ _ _ _ (pv 2) Yc (by rfl)) (by rfl)) (by rfl)) (by rfl)) (by omega) (by rfl) (by rfl) (by decide) (by rfl) (by rfl)) (by rfl) (by first | exact .inl rfl | exact .inr rfl | assumption)) (@Vq _ _ _ _ _ (@YE _ _ _ _ _ _ _ _ (@XY _ _ _ _ _ _ _ (@Xt _ _ _ _ (@Y8 _ _ _ (@YN _ _ _ _ _ _ _ _ _ _ Z3 Y1 (@Ya _ _ _ _ _ (pv 7) (@Ya _ _ _ _ _ (@XU _ _ _ _ ("list") aW (by decide +kernel) (by rfl) (by rfl) (by decide) (by decide)) Yc (by rfl)) (by rfl)) (by decide +kernel) (by rfl) (by rfl) (by decide) (by decide) (by rfl) (by rfl)) (by intro _;rfl))) (@XY _ _ _ _ _ _ _ (@Ys _ _ _ _ _ _ _ _ (Gj hr.gQ (K:=g.K)) (pv 7) (@Yw _ _ _ _ Yc) (Yp _)) (@Wp _ _ _ _ (@Ys _ _ _ _ _ _ _ _ (Gn hr.units) (@YD _ _ _ _ _ _ _ XH (pv 7) Yi (fun _ _=>rfl)) (pv 2) (Yp _))))).pt (@Yg _ _ _ (@Yl _ _ _ _ Xe)) Yr) (@Vq _ _ _ _ _ (@YE _ _ _ _ _ _ _ _ (@Ys _ _ _ _ _ _ _ _ (Gj hr.gQ (K:=g.K)) (pv 6) (@Yw _ _ _ _ Yc) (Yp _)) (@Yg _ _ _ (@Yl _ _ _ _ (@Wa _ _ _ _ _ _ _ (@Xn _ _ _ _ _ _ _ _ wG (@XF _ _ _ _ _ _ _ _ _ _ _ _ _ qg hr Ww (@Ya _ _ _ _ _ (pv 0) (@Ya _ _ _ _ _ (pv 1) (@Ya _ _ _ _ _ (pv 4) (@Ya _ _ _ _ _ (pv 2) Yc (by rfl)) (by rfl)) (by rfl)) (by rfl)) (by omega) (by rfl) (by rfl) (by decide) (by rfl) (by rfl)) Xe (Yp _)) (@X9 _ _ _ _ _ (@Xn _ _ _ _ _ _ _ _ YS (@YN _ _ _ _ _ _ _ _ _ _ aP Y6 (@Ya _ _ _ _ _ (pv 7) Yc (by rfl)) (by decide +kernel) (by rfl) (by rfl) (by decide) (by decide) (by rfl) (by rfl)) Yi (Yp _)))))) Yr) (@RD _ _ _ _ (@Wa _ _ _ _ _ _ _ (@Xn _ _ _ _ _ _ _ _ wG (@XF _ _ _ _ _ _ _ _ _ _ _ _ _ qg hr Ww (@Ya _ _ _ _ _ (pv 0) (@Ya _ _ _ _ _ (pv 1) (@Ya _ _ _ _ _ (pv 4) (@Ya _ _ _ _ _ (pv 2) Yc (by rfl)) (by rfl)) (by rfl)) (by rfl)) (by omega) (by rfl) (by rfl) (by decide) (by rfl) (by rfl)) Xe (Yp _)) (@X9 _ _ _ _ _ (@Xn _ _ _ _ _ _ _ _ CW (@YN _ _ _ _ _ _ _ _ _ _ aP Y6 (@Ya _ _ _ _ _ (pv 7) Yc (by rfl)) (by decide +kernel) (by rfl) (by rfl) (by decide) (by decide) (by rfl) (by rfl)) Yi (Yp _)))))))))))))),?_⟩;refine rQ fun R rr=>?_
 walk_at "rd";refine ⟨1,B,a,true,v,lo,sg,sk,rfl,hS,te,ts,np,.inr ⟨rfl,rfl,d,hg,fun x H1 k1 te1 zy hx=>rr _ _ (Q4 fun R rr=>?_)⟩⟩;have kt1:=k1.kt te.aH ts.aH;have tn1:=tn.k2 k1 te.aH ts.aH zF uQ;walk_at "rd";refine YH (by intro z;cases z) ⟨Z1,by simp,x,_,_,true,none,rfl,rfl,hx,aO,_,rfl,YH (by decide) ⟨x,none,Z1,rfl,.inr rfl,hx,fun H2 s2=>⟨_,rfl,YH (by decide) (rr _ _ ?_)⟩⟩⟩;have fj:=kt1.trans (Yo s2);have te2:=te1.keep s2;have jP:=zy.keep s2;have tn2:=tn1.keep s2;refine JV (fun σ H3=>∃ f1 f2,σ=[some B,some (.ref a),some v,some (.ref x),some (.ref f1),some (.ref f2),none,none]/\Kt H2 H3/\Y7 H3 ak/\Y0 H3 aq/\Xr H3 au/\Xo g H3 f1 false/\Xo g H3 f2 true) ?_ ?_
 rotate_left
 ·intro N hN
  unfold rJ;rcases tn2 with ht | ⟨c1,c2,ht,k1,k2⟩
  ·refine ⟨_,ht,trivial,.inl ⟨rfl,fun b cb fb g1 g2 g3 ⟨nY,uR,nZ,e1⟩=>?_⟩⟩
   subst e1;have bP:=Yk ht g1;have cP:=Yk ht g2;refine ⟨#[cE 620,cE 4,.ref cb],by rw [Ye bP,Ye cP,Yb];rfl,trivial,.inl ⟨rfl,fun f cf ff g4 g5 g6 ⟨rR,zG,rT,e2⟩=>?_⟩⟩;subst e2;have fb:f≠b:=fun z=>by rw [z,Yb] at g4;cases g4
   rw [Ye fb] at g4
   have zH:f≠cb:=fun z=>by rw [z,Yb] at g4;cases g4
   rw [Ye zH] at g4
   have fP:f≠au:=fun z=>by rw [z,Yb] at g4;cases g4
   rw [Ye fP] at g4
   have Ia:cf≠b:=fun z=>by rw [z,Yb] at g5;cases g5
   rw [Ye Ia] at g5
   have rW:cf≠cb:=fun z=>by rw [z,Yb] at g5;cases g5
   rw [Ye rW] at g5
   have Ib:cf≠au:=fun z=>by rw [z,Yb] at g5;cases g5
   rw [Ye Ib] at g5
   have kk:∀ (o1 o2 o3 o4 o5 o6:HO) a o,a≠au->H2 a=some o->upd (upd (upd (upd (upd (upd H2 au o1) cb o2) b o3) au o4) cf o5) f o6 a=some o:=fun o1 o2 o3 o4 o5 o6 a o h1 h2=>by rw [Ye (Yk h2 g4),Ye (Yk h2 g5),Ye h1,Ye (Yk h2 g1),Ye (Yk h2 g2),Ye h1];exact h2
   refine hN _ _ ⟨b,f,rfl,WQ (kk _ _ _ _ _ _) ht,te2.but (kk _ _ _ _ _ _) ht (ah zF),jP.but (kk _ _ _ _ _ _) ht (ah uQ),.inr ⟨cb,cf,?_,?_,?_⟩,UI (c:=cb) (doc:=nY) (pm:=uR) (ctv:=nZ) ?_ ?_,V3 (c:=cf) (doc:=rR) (pm:=zG) (ctv:=rT) ?_ ?_⟩
   ·rw [Ye (ah fP),Ye (ah Ib),Yb];rfl
   ·rw [Ye (ah zH),Ye (ah rW),Ye (ah cP),Ye (ah g3),Yb]
   ·rw [Ye (ah g6),Yb]
   ·rw [Ye (ah fb),Ye (ah Ia),Ye (ah bP),Yb];rfl
   ·rw [Ye (ah zH),Ye (ah rW),Ye (ah cP),Ye (ah g3),Yb]
   ·rw [Yb];rfl
   ·rw [Ye (ah g6),Yb]
  ·refine ⟨_,ht,trivial,.inr ⟨c1,rfl,fun b fb g1 ⟨nY,uR,nZ,e1⟩=>?_⟩⟩
   subst e1;have s1:∀ o,Yd H2 (upd H2 b o):=fun o=>Yd.aj g1 o
   refine ⟨_,s1 _ _ _ ht,trivial,.inr ⟨c2,rfl,fun f ff g4 ⟨rR,zG,rT,e2⟩=>?_⟩⟩;subst e2;have hh:∀ o',Yd H2 (upd (upd H2 b (cD b (Ze [] c1 nY uR nZ))) f o'):=fun o'=>(s1 _).trans (Yd.aj g4 o')
   refine hN _ _ ⟨b,f,rfl,Yo (hh _),te2.keep (hh _),jP.keep (hh _),Xr.keep (.inr ⟨c1,c2,ht,k1,k2⟩) (hh _),UI (c:=c1) (doc:=nY) (pm:=uR) (ctv:=nZ) ((Yd.aj g4 _) _ _ (by rw [Yb];rfl)) (hh _ _ _ k1),V3 (c:=c2) (doc:=rR) (pm:=zG) (ctv:=rT) (by rw [Yb];rfl) (hh _ _ _ k2)⟩
 ·rintro σ H3 ⟨f1,f2,rfl,qj,te3,qd,tn3,j1,j2⟩
  have ret:∀ σ' H',Kt H3 H'->Y7 H' ak->Y0 H' aq->Xr H' au->∃ l,Xk (g.cx [χ "_law_book",χ "_law_shape",χ "_law_value",χ "_law_error_here",χ "_law_none",χ "_law_every",χ "_law_found",χ "_law_way"] (χ "_law_is_taken") Zt f_ (Ω aJ) A outer s H E) σ' l/\((∀ (c:Addr),c∈l.as->H' c=none)->Q (.bl true) (lay H' l)):=fun σ' H' k1 k2 k3 k4=>⟨[],⟨kL,fun z hz=>by cases hz⟩,fun _=>q H' ((fj.trans qj).trans k1) k2 k3 k4⟩
  have uT:=hS.tp (YT (fj.trans qj));have uU:=hg.kt (fj.trans qj);refine rQ fun R rr=>?_
  walk_at "rd";refine ⟨B,lo,sg,a,sk,v,rfl,uT,.inr ⟨d,uU,fun L ys H4 s4 gL hL f4=>rr _ _ (Q4 fun R rr=>?_)⟩⟩;walk_at "rd";have ql:=Yo s4;refine ⟨_,rfl,_,.lst hL,true,rfl,YH (by decide) ⟨B,a,f2,v,lo,sg,sk,rfl,uT.tp (YT ql),.inr ⟨d,true,uU.kt ql,j2.nl (Wn s4),fun H5 s5=>⟨_,rfl,YH (by simp) (rr _ _ (rQ fun R rr=>?_))⟩⟩⟩⟩;have mW:=s4.trans s5;have zJ:=Yo mW;walk_at "rd";refine ⟨B,a,f1,v,lo,sg,sk,rfl,uT.tp (YT zJ),qd.keep mW,.inr ⟨d,false,uU.kt zJ,j1.nl (Wn mW),(fun z=>by cases z),fun _ W y zs H6 k6 uV hW hap cz=>rr _ _ (Q4 fun R rr=>?_)⟩⟩;have qm:=(qd.keep mW).aH;have te6:Y7 H6 ak:=by
   obtain ⟨ps,hps⟩:=qm;exact (te3.keep mW).but k6 hps np
  have uW:=(tn3.keep mW).k1 k6 qm uQ;have mX:Kt H3 H6:=zJ.trans (by obtain ⟨ps,hps⟩:=qm;exact WQ k6 hps);have hL6:H6 L=some (.lst ys):=by obtain ⟨ps,hps⟩:=qm;exact (WQ k6 hps).lst (s5 _ _ hL)
  have Ie:=uU.kt mX;have Ig:=uT.tp (YT mX);have Ih:=j1.nl (Kt.nl mX);walk_at "rd";refine ⟨_,rfl,_,.lst hW,true,rfl,YH (by decide) ⟨few (by decide),fun p gp=>?_⟩⟩;have s7:=Yd.aj gp (.lst []);refine ⟨_,ao.of (s7 _ _ hW),ao.of Yb,YH (by intro z;cases z) ⟨_,ao.of (s7 _ _ hW),_,Yj (j:=0) rfl,?_,rr _ _ (Q4 fun R rr=>?_)⟩⟩
  ·obtain ⟨dd,h1,h2,h3,h4⟩:=(Cz.kt ((by obtain ⟨ps,hps⟩:=qm;exact WQ k6 hps:Kt _ H6).trans (Yo s7)) (Yo s7) cz).den (K:=g.K) rfl
   exact .den h2 h1 (by omega) h4
  have yl:=f4.len;walk_at "rd";refine ⟨few (by decide),fun p2 gp2=>?_⟩;have fX:=s7.trans (.aj gp2 (.lst []));have qp:=mX.trans (Yo fX);refine ⟨_,ao.of (fX _ _ hL6),ao.of Yb,V8 (fun he=>?_) fun he=>?_⟩
  ·have:ys=[]:=List.isEmpty_iff.mp he
   subst this;have hst:st sk d=[]:=ez.mp yl.symm
   cases hap.mpr hst
   refine ⟨B,a,f1,v,lo,sg,sk,rfl,Ig.tp (YT (Yo fX)),.inr ⟨d,false,Ie.kt (Yo fX),Ih.nl (Wn fX),fun H9 s9=>⟨_,rfl,Xd (by rw [hst];rfl) ⟨_,.inl (ao.of (s9 _ _ (fX _ _ hW))),fun σ'=>?_⟩⟩⟩⟩;have jw:=fX.trans s9;exact ret σ' H9 (mX.trans (Yo jw)) (te6.keep jw) (uV.keep jw) (uW.keep jw)
  ·have hst:st sk d≠[]:=fun z=>by rw [z] at yl;exact he (by rw [ez.mp yl];rfl)
   refine rr _ _ ?_;unfold xG;walk_at "rd";refine ⟨B,a,f1,v,lo,sg,sk,rfl,Ig.tp (YT (Yo fX)),.inr ⟨d,false,Ie.kt (Yo fX),Ih.nl (Wn fX),fun H9 s9=>⟨_,rfl,Xd (by cases e:st sk d with | nil=>exact absurd e hst | cons _ _=>rfl) ⟨_,.inl (ao.of (s9 _ _ (fX _ _ hW))),?_⟩⟩⟩⟩;have jw:=fX.trans s9
   cases zs with
   | nil=>exact absurd (hap.mp rfl) hst
   | cons z zs =>
    rw [show decide ((1:Int)<((y::z::zs).length:Int))=true from decide_eq_true (by simp only [υ];omega)];exact ret _ H9 (mX.trans (Yo jw)) (te6.keep jw) (uV.keep jw) (uW.keep jw)
def Rw (H:Hp) (lo:Int) (sg:List Nat) (t:Addr):Prop:=∃ (a:Addr) (v:V) (O:Addr) (us:List V) (s:Sk) (d:Dv),H t=some (.tup [.ref a,v,.ref O])/\Xc H lo sg a s/\Gv H lo sg s v d/\H O=some (.lst us)/\us.length<=100/\∀ u∈us,Vx H lo sg s u none/\cI H 2 9 u
theorem Rw.kt {H H':Hp} (k:Kt H H') {lo:Int} {sg:List Nat} {t:Addr} (h:Rw H lo sg t):Rw H' lo sg t:=by
 obtain ⟨a,v,O,us,s,d,h1,h2,h3,h4,h5,h6⟩:=h;exact ⟨a,v,O,us,s,d,k.tup h1,h2.tp (YT k),h3.kt k,k.lst h4,h5,fun u hu=>⟨(h6 u hu).1.kt k,(h6 u hu).2.kt k⟩⟩
def uX (H:Hp) (D:Addr) (lo:Int) (sg:List Nat) (r:Addr):Prop:=∀ H',SameBut D H H'->Rw H' lo sg r
theorem uX.sb {H H1:Hp} {D:Addr} {lo:Int} {sg:List Nat} {r:Addr} (h:uX H D lo sg r) (s:SameBut D H H1):uX H1 D lo sg r:=fun H' s'=>h H' fun q o n e=>s' q o n (s q o n e)
def d7:V->Bool
 | .ref _=>false
 | .str z=>dq z
 | .non=>true
 | .bl _=>true
 | .int _=>true
 | _=>false
theorem Ii {H:Hp} {u:V} (h:d7 u=true) (k n:Nat):cI H k (n+1) u:=by
 cases u<;>first | (cases h;done) | exact .non _ _ | exact .bl _ _ _ | exact .int _ _ _ | exact .str _ _ _ h
theorem Ij {H:Hp} {a:Addr} {us:List V} (h:H a=some (.lst us)) (l:us.length<=100) {k n:Nat} (f:∀ u∈us,cI H (k - 1) n u):cI H k (n+1) (.ref a) := .lst _ _ a a _ _ h trivial h rfl l fun i u u' e1 e2=>by
 rw [e1] at e2
 cases Θ e2
 exact f u (Τ e1)
theorem Ygp {H:Hp} {a:Addr} {us:List V} (h:H a=some (.tup us)) (l:us.length<=100) {k n:Nat} (f:∀ u∈us,cI H 0 n u):cI H k (n+1) (.ref a) := .tup _ _ a a _ _ h trivial h rfl l fun i u u' e1 e2=>by
 rw [e1] at e2
 cases Θ e2
 exact f u (Τ e1)
theorem WR {H:Hp} {a:Addr} {us:List V} (h:H a=some (.lst us)) (l:us.length<=100) (f:us.all d7=true) (k n:Nat):cI H k (n+2) (.ref a):=Ij h l fun u hu=>Ii (kb.mp f u hu) _ _
theorem Xm {H:Hp} {a:Addr} {us:List V} (h:H a=some (.tup us)) (l:us.length<=100) (f:us.all d7=true) (k n:Nat):cI H k (n+2) (.ref a):=Ygp h l fun u hu=>Ii (kb.mp f u hu) _ _
abbrev Od (H:Hp) (lo:Int) (sg:List Nat) (s:Sk) (u:V):Prop:=Vx H lo sg s u none/\cI H 2 9 u
theorem WS {H:Hp} {lo:Int} {sg:List Nat} {s:Sk}:∀ u∈([]:List V),Od H lo sg s u:=fun u h=>by cases h
theorem Yu {H:Hp} {lo:Int} {sg:List Nat} {s:Sk} {u:V} {us:List V} (h:Od H lo sg s u) (k:∀ u∈us,Od H lo sg s u):∀ x∈u::us,Od H lo sg s x:=fun x hx=>by
 rcases Υ.mp hx with rfl | hx
 ·exact h
 ·exact k x hx
theorem JW {H:Hp} {lo:Int} {sg:List Nat} {w p p1 x O r:Addr} (ks:eO sg) (hw:H w=some (.tup (eZ lo))) (hp:H p=some (.lst [.int lo])) (hp1:H p1=some (.tup [.int lo])) (hx:H x=some (.dK [])) (hO:H O=some (.lst [.int (lo - 1),.int (lo+10),.bl true,.non,.str "1",.ref p,.ref p1,.ref x])) (hr:H r=some (.tup [.ref w,.int (lo+3),.ref O])):Rw H lo sg r :=
 ⟨w,_,O,_,.wh,.n 3,hr,hw,⟨ks,(by decide:3<=9),trivial,rfl⟩,hO,by simp,Yu ⟨.gn _ (by omega),.int _ _ _⟩ (Yu ⟨.gn _ (by omega),.int _ _ _⟩ (Yu ⟨.eG _ _ (.bl _) (by decide),.bl _ _ _⟩ (Yu ⟨.eG _ _ .non (by decide),.non _ _⟩ (Yu ⟨.eG _ _ (.str _) (by decide),.str _ _ _ (by decide +kernel)⟩ (Yu ⟨.eG _ _ (.lst _ _ hp) (by decide),WR hp (by simp) rfl _ _⟩ (Yu ⟨.eG _ _ (.tup _ _ hp1) (by decide),Xm hp1 (by simp) rfl _ _⟩ (Yu ⟨.eG _ _ (.cg _ hx) (by decide),.cg _ _ _ hx⟩ WS)))))))⟩
theorem JX {H:Hp} {lo:Int} {sg:List Nat} {q:Nat} {t p p1 O r:Addr} (ks:eO (q::sg)) (hq:q∉sg) (hl:sg.length<=20) (ht:H t=some (.tup (jN sg))) (hp:H p=some (.lst [.str (S sg)])) (hp1:H p1=some (.tup [.str (S sg)])) (hO:H O=some (.lst [.str (S (sg++[q])),.str (S [q]),.int 3,.ref p,.non,.bl false,.ref p1])) (hr:H r=some (.tup [.ref t,.str (S sg),.ref O])):Rw H lo sg r:=by
 have k1:eO sg:=fun c hc=>ks c (.tail _ hc)
 have so:∀ l:List Nat,(∀ c∈l,c∈q::sg)->dq (S l)=true:=fun l h=>rO ks h
 have s0:dq (S sg)=true:=so sg fun c hc => .tail _ hc
 have al:([.str (S sg)]:List V).all d7=true:=by show (dq (S sg)&&true)=true;rw [s0];rfl
 exact ⟨t,_,O,_,.tx,.t sg,hr,ht,⟨k1,⟨fun c hc=>hc,by omega⟩,hl,rfl⟩,hO,by simp,Yu ⟨.mL _ (fun h=>hq (h q (by simp))) (by simp;omega),.str _ _ _ (so _ fun c hc=>by simpa [or_comm] using hc)⟩ (Yu ⟨.mL _ (fun h=>hq (h q (by simp))) (by simp),.str _ _ _ (so _ fun c hc=>by simp at hc;simp [hc])⟩ (Yu ⟨.gq _ _ (.int _) (by decide),.int _ _ _⟩ (Yu ⟨.gq _ _ (.lst _ _ hp) (by decide),WR hp (by simp) al _ _⟩ (Yu ⟨.gq _ _ .non (by decide),.non _ _⟩ (Yu ⟨.gq _ _ (.bl _) (by decide),.bl _ _ _⟩ (Yu ⟨.gq _ _ (.tup _ _ hp1) (by decide),Xm hp1 (by simp) al _ _⟩ WS))))))⟩
theorem uY {H:Hp} {lo:Int} {sg:List Nat} {i:Int} (n:Nat) (e:i=lo+(n:Nat)) (h:n<=9):Vx H lo sg .wh (.int i) (some (.n n)):=by
 subst e;exact .wh n h
theorem VM {H:Hp} {lo:Int} {sg:List Nat}:Vx H lo sg .wh (.int lo) (some (.n 0)):=uY 0 (by omega) (by decide)
theorem zK {H:Hp} {lo:Int} {sg:List Nat} {s:Sk} {z:Str} {a:Addr} {us:List V} {rs:List (Option Dv)} (hs:dY s=some z) (h:H a=some (.lst us)) (f:F2 (Vx H lo sg .wh) us rs) (hl:us.length<=100) (e:iD s rs=none):Vx H lo sg s (.ref a) none:=e▸Vx.ls s z hs a us rs h f.len hl fun i u r e1 e2=>f.get i u r e1 e2
theorem VX {H:Hp} {lo:Int} {sg:List Nat} {s:Sk} {z:Str} {a:Addr} {us:List V} {rs:List (Option Dv)} (hs:dY s=some z) (h:H a=some (.lst us)) (f:F2 (Vx H lo sg .wh) us rs) (hl:us.length<=100) (e:iD s rs=none) (al:us.all d7=true):Od H lo sg s (.ref a):=⟨zK hs h f hl e,WR h hl al _ _⟩
theorem W5:dq ("":Str)=true:=by decide +kernel
theorem W6:dq ("a":Str)=true:=by decide +kernel
theorem W7:dq ("b":Str)=true:=by decide +kernel
theorem JZ {H:Hp} {lo:Int} {sg:List Nat} {a b w t v p1 p2 p3 p4 p5 p6 O r:Addr} (ks:eO sg) (ha:H a=some (.tup [.str "row",.ref b])) (hb:H b=some (.tup [.ref w,.ref t])) (hw:H w=some (.tup (eZ lo))) (ht:H t=some (.tup (jN sg))) (hv:H v=some (.tup [.int lo,.str ""]))
  (h1:H p1=some (.tup [.int lo])) (h2:H p2=some (.tup [.int lo,.str "",.str ""])) (h3:H p3=some (.lst [.int lo,.str ""])) (h4:H p4=some (.tup [.int lo,.int 5])) (h5:H p5=some (.tup [.str "",.int lo])) (h6:H p6=some (.tup [])) (hO:H O=some (.lst [.ref p1,.ref p2,.ref p3,.ref p4,.ref p5,.ref p6,.non])) (hr:H r=some (.tup [.ref a,.ref v,.ref O])):Rw H lo sg r :=
 ⟨a,_,O,_,.rw,.r 0 [],hr,⟨b,w,t,ha,hb,hw,ht⟩,⟨ks,⟨by decide,(fun c hc=>by cases hc),by decide⟩,(by decide:([]:List Nat).length<=20),⟨v,trivial,rfl,by rw [hv,show lo+((0:Nat):Int)=lo by omega];rfl⟩⟩,hO,by simp,Yu ⟨.mO _ _ h1 (by simp),Xm h1 (by simp) rfl _ _⟩ (Yu ⟨.mO _ _ h2 (by simp),Xm h2 (by simp) (by simp [d7,W5,W6,W7]) _ _⟩ (Yu ⟨.pG _ _ (.lst _ _ h3) (by decide),WR h3 (by simp) (by simp [d7,W5,W6,W7]) _ _⟩ (Yu ⟨.rw _ _ _ _ none h4 VM (.gq _ _ (.int _) (by decide)),Xm h4 (by simp) rfl _ _⟩ (Yu ⟨.rw _ _ _ none none h5 (.eG _ _ (.str _) (by decide)) (.gq _ _ (.int _) (by decide)),Xm h5 (by simp) (by simp [d7,W5,W6,W7]) _ _⟩ (Yu ⟨.mO _ _ h6 (by decide),Xm h6 (by simp) rfl _ _⟩ (Yu ⟨.pG _ _ .non (by decide),.non _ _⟩ WS))))))⟩
theorem J0 {H:Hp} {lo:Int} {sg:List Nat} {a w v p1 p2 p3 p4 p5 O r:Addr} (ks:eO sg) (ha:H a=some (.tup [.str "many",.ref w])) (hw:H w=some (.tup (eZ lo))) (hv:H v=some (.lst [.int lo]))
  (h1:H p1=some (.tup [.int lo])) (h2:H p2=some (.lst [.int (lo - 1)])) (h3:H p3=some (.lst [.int lo,.non])) (h4:H p4=some (.lst [.ref p5])) (h5:H p5=some (.lst [.int lo])) (hO:H O=some (.lst [.ref p1,.ref p2,.ref p3,.str "",.ref p4,.int lo])) (hr:H r=some (.tup [.ref a,.ref v,.ref O])):Rw H lo sg r :=
 ⟨a,_,O,_,.my,.l [0],hr,⟨_,w,rfl,ha,hw⟩,⟨ks,⟨by decide,by decide⟩,(by decide:[0].length<=3),⟨v,trivial,rfl,by rw [hv,ofs,ae,dS,show lo+((0:Nat):Int)=lo by omega]⟩⟩,hO,by simp,Yu ⟨.lsN _ _ rfl _ _ (.tup _ _ h1) (by decide),Xm h1 (by simp) rfl _ _⟩ (Yu (VX (rs:=[none]) rfl h2 (.cons (.gn _ (by omega)) .nil) (by simp) rfl rfl) (Yu (VX (rs:=[some (.n 0),none]) rfl h3 (.cons VM (.cons (.eG _ _ .non (by decide)) .nil)) (by simp) rfl rfl) (Yu ⟨.lsN _ _ rfl _ _ (.str _) (by decide),.str _ _ _ (by decide +kernel)⟩ (Yu ⟨zK (rs:=[none]) rfl h4 (.cons (.eG _ _ (.lst _ _ h5) (by decide)) .nil) (by simp) rfl,Ij h4 (by simp) fun u hu=>by cases ρ.mp hu;exact WR h5 (by simp) rfl _ _⟩ (Yu ⟨.lsN _ _ rfl _ _ (.int _) (by decide),.int _ _ _⟩ WS)))))⟩
theorem J1 {H:Hp} {lo:Int} {sg:List Nat} {a w v p1 p2 p3 O r:Addr} (ks:eO sg) (ha:H a=some (.tup [.str "rising",.ref w])) (hw:H w=some (.tup (eZ lo))) (hv:H v=some (.lst [.int lo,.int lo]))
  (h1:H p1=some (.lst [.int (lo+1),.int lo])) (h2:H p2=some (.lst [.int lo,.int (lo+10)])) (h3:H p3=some (.tup [.int lo,.int lo])) (hO:H O=some (.lst [.ref p1,.ref p2,.ref p3])) (hr:H r=some (.tup [.ref a,.ref v,.ref O])):Rw H lo sg r :=
 ⟨a,_,O,_,.ri,.l [0,0],hr,⟨_,w,rfl,ha,hw⟩,⟨ks,⟨⟨by decide,by decide⟩,by decide⟩,(by decide:[0,0].length<=3),⟨v,trivial,rfl,by rw [hv,ofs,ae,ae,dS,show lo+((0:Nat):Int)=lo by omega]⟩⟩,hO,by simp,Yu (VX (rs:=[some (.n 1),some (.n 0)]) rfl h1 (.cons (uY 1 rfl (by decide)) (.cons VM .nil)) (by simp) (by decide) rfl) (Yu (VX (rs:=[some (.n 0),none]) rfl h2 (.cons VM (.cons (.gn _ (by omega)) .nil)) (by simp) rfl rfl) (Yu ⟨.lsN _ _ rfl _ _ (.tup _ _ h3) (by decide),Xm h3 (by simp) rfl _ _⟩ WS))⟩
theorem J2 {H:Hp} {lo:Int} {sg:List Nat} {a w v p1 p2 O r:Addr} (ks:eO sg) (ha:H a=some (.tup [.str "unlike",.ref w])) (hw:H w=some (.tup (eZ lo))) (hv:H v=some (.lst [.int lo,.int (lo+1)]))
  (h1:H p1=some (.lst [.int lo,.int lo])) (h2:H p2=some (.lst [.int (lo+2),.int lo,.int (lo+1)])) (hO:H O=some (.lst [.ref p1,.ref p2,.non])) (hr:H r=some (.tup [.ref a,.ref v,.ref O])):Rw H lo sg r :=
 ⟨a,_,O,_,.un,.l [0,1],hr,⟨_,w,rfl,ha,hw⟩,⟨ks,⟨⟨by decide,by decide⟩,by decide⟩,(by decide:[0,1].length<=3),⟨v,trivial,rfl,by rw [hv,ofs,ae,ae,dS,show lo+((0:Nat):Int)=lo by omega];rfl⟩⟩,hO,by simp,Yu (VX (rs:=[some (.n 0),some (.n 0)]) rfl h1 (.cons VM (.cons VM .nil)) (by simp) (by decide) rfl) (Yu (VX (rs:=[some (.n 2),some (.n 0),some (.n 1)]) rfl h2 (.cons (uY 2 rfl (by decide)) (.cons VM (.cons (uY 1 rfl (by decide)) .nil))) (by simp) (by decide) rfl) (Yu ⟨.lsN _ _ rfl _ _ .non (by decide),.non _ _⟩ WS))⟩
theorem J3 {H:Hp} {lo:Int} {sg:List Nat} {a b c0 c1 w t v p1 p2 p3 p4 p5 p6 p7 p8 O r:Addr} (ks:eO sg) (ha:H a=some (.tup [.str "pick",.ref b])) (hP:iM H lo sg b c0 c1 w t) (hv:H v=some (.tup [.str "a",.int (lo+1)]))
  (h1:H p1=some (.tup [.str "b",.int lo])) (h2:H p2=some (.tup [.str "a",.int lo,.int 0])) (h3:H p3=some (.lst [.str "a",.int lo])) (h4:H p4=some (.tup [.str "a",.int (lo - 1)])) (h5:H p5=some (.tup [.str "a"])) (h6:H p6=some (.tup [.int lo,.str "a"])) (h7:H p7=some (.tup [.str "",.int lo])) (h8:H p8=some (.tup [.non,.int lo])) (hO:H O=some (.lst [.ref p1,.ref p2,.ref p3,.ref p4,.str "a",.ref p5,.ref p6,.ref p7,.ref p8])) (hr:H r=some (.tup [.ref a,.ref v,.ref O])):Rw H lo sg r :=
 ⟨a,_,O,_,.pk,.p 1,hr,⟨b,c0,c1,w,t,ha,hP⟩,⟨ks,(by decide:1<=9),trivial,⟨v,trivial,rfl,hv⟩⟩,hO,by simp,Yu ⟨.gF _ (.st _ _ _ h1 (by decide +kernel) (by decide +kernel)),Xm h1 (by simp) (by simp [d7,W5,W6,W7]) _ _⟩ (Yu ⟨.gF _ (.len _ _ h2 (by simp)),Xm h2 (by simp) (by simp [d7,W5,W6,W7]) _ _⟩ (Yu ⟨.gF _ (.not _ _ (.lst _ _ h3) (by decide)),WR h3 (by simp) (by simp [d7,W5,W6,W7]) _ _⟩ (Yu ⟨.pk _ _ none h4 (.gn _ (by omega)),Xm h4 (by simp) (by simp [d7,W5,W6,W7]) _ _⟩ (Yu ⟨.gF _ (.not _ _ (.str _) (by decide)),.str _ _ _ (by decide +kernel)⟩ (Yu ⟨.gF _ (.len _ _ h5 (by simp)),Xm h5 (by simp) (by simp [d7,W5,W6,W7]) _ _⟩ (Yu ⟨.gF _ (.mk _ _ _ _ h6 (.int _) (by decide)),Xm h6 (by simp) (by simp [d7,W5,W6,W7]) _ _⟩ (Yu ⟨.gF _ (.st _ _ _ h7 (by decide +kernel) (by decide +kernel)),Xm h7 (by simp) (by simp [d7,W5,W6,W7]) _ _⟩ (Yu ⟨.gF _ (.mk _ _ _ _ h8 .non (by decide)),Xm h8 (by simp) rfl _ _⟩ WS))))))))⟩
theorem WT {t u:TS} {D:Ends} {σ:St} {H:Hp} (M:St->Hp->Prop) (h2:∀ N:St->Hp->Prop,(∀ σ H,M σ H->N σ H)->t { D with nx:=N } σ H) (h1:∀ σ H,M σ H->u D σ H):WI t u D σ H:=Yq fun R rr=>h2 R fun σ H m=>rr σ H (h1 σ H m)
inductive RV (H:Hp) (lo:Int) (sg:List Nat) (w t D:Addr) (H':Hp) (ts:List Addr):Prop
 | mk (sm:Yd H H') (gD:H D=none) (hw:H' w=some (.tup (eZ lo))) (ht:H' t=some (.tup (jN sg))) (hD:H' D=some (.lst (ts.map V.ref))) (rw:∀ r∈ts,uX H' D lo sg r)
theorem RV.add {H H' Ha:Hp} {lo:Int} {sg:List Nat} {w t D r:Addr} {ts:List Addr} (h:RV H lo sg w t D H' ts) (s:Yd H' Ha) (hr:∀ Hb,SameBut D Ha Hb->Rw Hb lo sg r):RV H lo sg w t D (upd Ha D (.lst (ts.map V.ref++[.ref r]))) (ts++[r]):=by
 obtain ⟨sm,gD,hw,ht,hD,dR⟩:=h;have nd:∀ {b:Addr} {xs:List V},H' b=some (.tup xs)->b≠D:=fun e=>YW e hD (by intro z;cases z)
 refine ⟨.bC gD (sm.trans s) _,gD,by rw [Ye (nd hw)];exact s _ _ hw,by rw [Ye (nd ht)];exact s _ _ ht,by rw [Yb,af];rfl,fun x hx=>?_⟩;rcases ag.mp hx with hx | hx
 ·exact (dR x hx).sb fun b o n e=>by rw [Ye n];exact s _ _ e
 ·cases ρ.mp hx
  exact fun Hb sb=>hr Hb fun b o n e=>sb b o n (by rw [Ye n];exact e)
theorem RV.keep {H H' Ha:Hp} {lo:Int} {sg:List Nat} {w t D:Addr} {ts:List Addr} (h:RV H lo sg w t D H' ts) (s:Yd H' Ha):RV H lo sg w t D Ha ts:=by
 obtain ⟨sm,gD,hw,ht,hD,dR⟩:=h;exact ⟨sm.trans s,gD,s _ _ hw,s _ _ ht,s _ _ hD,fun r hr=>(dR r hr).sb fun b o _ e=>s _ _ e⟩
inductive mY (K:Λ) (vs:List V) (H:Hp) (Q:VK) (E_:XK):Prop
 | mk (lo:Int) (sg:List Nat) (q:Nat) (h0:vs=[.int lo,.str (S sg),.str (S [q])]) (h1:eO (q::sg)) (h2:q∉sg) (h3:sg.length<=20) (h4:sg≠[]) (h5:∀ D (ts:List Addr) H',Yd H H'->H' D=some (.lst (ts.map V.ref))->ts.length<=10->(∀ t∈ts,Rw H' lo sg t)->Q (.ref D) H')
theorem Ya4  (R:g.Raw "_law_rows" "_law_rows" yK ["_law_low","_law_signs","_law_strange"]):g.Fn (1) "_law_rows" ["_law_low","_law_signs","_law_strange"] (mY g.K):=by
 refine R.fn ZG (fun vs H Q E h=>by obtain ⟨lo,sg,q,rfl,hk,hq,hl,hne,qq⟩:=h;rfl) fun f_ cdv A outer s H vs Q E hr h=>?_
 obtain ⟨lo,sg,q,rfl,hk,hq,hl,hne,qq⟩:=h;refine ⟨_,(@Yf _ _ _ _ _ (@YA _ _ (3) _ _ _ _ ZG.nd rfl (.inl rfl) (@Yv _ _ _ _ _ (@Ya _ _ _ _ _ Yn (@Ya _ _ _ _ _ (pv 0) (@Ya _ _ _ _ _ (@YC _ _ _ _ _ _ _ _ Xa (pv 0) Yi) Yc (by rfl)) (by rfl)) (by rfl))) (by rfl) (by first | exact .inl rfl | exact .inr rfl | assumption)) (@Yf _ _ _ _ _ (@YA _ _ (4) _ _ _ _ ZG.nd rfl (.inl rfl) (@Yv _ _ _ _ _ (@Ya _ _ _ _ _ Yn (@Ya _ _ _ _ _ (pv 1) Yc (by rfl)) (by rfl))) (by rfl) (by first | exact .inl rfl | exact .inr rfl | assumption)) (@Yf _ _ _ _ _ (@YA _ _ (5) _ _ _ _ ZG.nd rfl (.inl rfl) (@Yw _ _ _ _ (@Ya _ _ _ _ _ (@Yv _ _ _ _ _ (@Ya _ _ _ _ _ (pv 3) (@Ya _ _ _ _ _ (@YC _ _ _ _ _ _ _ _ Xa (pv 0) Yi) (@Ya _ _ _ _ _ (@Yw _ _ _ _ (@Ya _ _ _ _ _ (@YC _ _ _ _ _ _ _ _ WJ (pv 0) Yi) (@Ya _ _ _ _ _ (@YC _ _ _ _ _ _ _ _ Xa (pv 0) Yi) (@Ya _ _ _ _ _ Xe (@Ya _ _ _ _ _ Y5 (@Ya _ _ _ _ _ Yn (@Ya _ _ _ _ _ (@Yw _ _ _ _ (@Ya _ _ _ _ _ (pv 0) Yc (by rfl))) (@Ya _ _ _ _ _ (@Yv _ _ _ _ _ (@Ya _ _ _ _ _ (pv 0) Yc (by rfl))) (@Ya _ _ _ _ _ Mi Yc (by rfl)) (Yt _ _ _ _ _)) (YL _ _ _ _)) (by rfl)) (by rfl)) (by rfl)) (by rfl)) (by rfl))) Yc (YL _ _ _ _)) (by rfl)) (by rfl))) Yc (Yt _ _ _ _ _))) (by rfl) (by first | exact .inl rfl | exact .inr rfl | assumption)) (@Yf _ _ _ _ _ (@Y2 _ _ _ _ (@Xu _ _ _ _ _ _ _ _ _ _ _ _ bc be bn Y9 (pv 5) (@Ya _ _ _ _ _ (@Yv _ _ _ _ _ (@Ya _ _ _ _ _ (pv 4) (@Ya _ _ _ _ _ (pv 1) (@Ya _ _ _ _ _ (@Yw _ _ _ _ (@Ya _ _ _ _ _ (@YC _ _ _ _ _ _ _ _ Uj (pv 1) (pv 2)) (@Ya _ _ _ _ _ (pv 2) (@Ya _ _ _ _ _ Yi (@Ya _ _ _ _ _ (@Yw _ _ _ _ (@Ya _ _ _ _ _ (pv 1) Yc (by rfl))) (@Ya _ _ _ _ _ Y5 (@Ya _ _ _ _ _ Xe (@Ya _ _ _ _ _ (@Yv _ _ _ _ _ (@Ya _ _ _ _ _ (pv 1) Yc (by rfl))) Yc (Yt _ _ _ _ _)) (by rfl)) (by rfl)) (YL _ _ _ _)) (by rfl)) (by rfl)) (by rfl))) Yc (YL _ _ _ _)) (by rfl)) (by rfl))) Yc (Yt _ _ _ _ _)) (by rfl) (by rfl) (by rfl) (by rfl) (by rfl)) (by rfl)) (@Yf _ _ _ _ _ (@YA _ _ (6) _ _ _ _ ZG.nd rfl (.inl rfl) (@Yv _ _ _ _ _ (@Ya _ _ _ _ _ Yn (@Ya _ _ _ _ _ (@Yv _ _ _ _ _ (@Ya _ _ _ _ _ (pv 3) (@Ya _ _ _ _ _ (pv 4) Yc (by rfl)) (by rfl))) Yc (Yt _ _ _ _ _)) (by rfl))) (by rfl) (by first | exact .inl rfl | exact .inr rfl | assumption)) (@Yf _ _ _ _ _ (@Y2 _ _ _ _ (@Xu _ _ _ _ _ _ _ _ _ _ _ _ bc be bn Y9 (pv 5) (@Ya _ _ _ _ _ (@Yv _ _ _ _ _ (@Ya _ _ _ _ _ (pv 6) (@Ya _ _ _ _ _ (@Yv _ _ _ _ _ (@Ya _ _ _ _ _ (pv 0) (@Ya _ _ _ _ _ Yn Yc (by rfl)) (by rfl))) (@Ya _ _ _ _ _ (@Yw _ _ _ _ (@Ya _ _ _ _ _ (@Yv _ _ _ _ _ (@Ya _ _ _ _ _ (pv 0) Yc (by rfl))) (@Ya _ _ _ _ _ (@Yv _ _ _ _ _ (@Ya _ _ _ _ _ (pv 0) (@Ya _ _ _ _ _ Yn (@Ya _ _ _ _ _ Yn Yc (by rfl)) (by rfl)) (by rfl))) (@Ya _ _ _ _ _ (@Yw _ _ _ _ (@Ya _ _ _ _ _ (pv 0) (@Ya _ _ _ _ _ Yn Yc (by rfl)) (by rfl))) (@Ya _ _ _ _ _ (@Yv _ _ _ _ _ (@Ya _ _ _ _ _ (pv 0) (@Ya _ _ _ _ _ Yi Yc (by rfl)) (by rfl))) (@Ya _ _ _ _ _ (@Yv _ _ _ _ _ (@Ya _ _ _ _ _ Yn (@Ya _ _ _ _ _ (pv 0) Yc (by rfl)) (by rfl))) (@Ya _ _ _ _ _ (@Yv _ _ _ _ _ Yc) (@Ya _ _ _ _ _ Y5 Yc (by rfl)) (Yt _ _ _ _ _)) (Yt _ _ _ _ _)) (Yt _ _ _ _ _)) (YL _ _ _ _)) (Yt _ _ _ _ _)) (Yt _ _ _ _ _))) Yc (YL _ _ _ _)) (Yt _ _ _ _ _)) (by rfl))) Yc (Yt _ _ _ _ _)) (by rfl) (by rfl) (by rfl) (by rfl) (by rfl)) (by rfl)) (@Yf _ _ _ _ _ (@Y2 _ _ _ _ (@Xu _ _ _ _ _ _ _ _ _ _ _ _ bc be bn Y9 (pv 5) (@Ya _ _ _ _ _ (@Yv _ _ _ _ _ (@Ya _ _ _ _ _ (@Yv _ _ _ _ _ (@Ya _ _ _ _ _ Yn (@Ya _ _ _ _ _ (pv 3) Yc (by rfl)) (by rfl))) (@Ya _ _ _ _ _ (@Yw _ _ _ _ (@Ya _ _ _ _ _ (pv 0) Yc (by rfl))) (@Ya _ _ _ _ _ (@Yw _ _ _ _ (@Ya _ _ _ _ _ (@Yv _ _ _ _ _ (@Ya _ _ _ _ _ (pv 0) Yc (by rfl))) (@Ya _ _ _ _ _ (@Yw _ _ _ _ (@Ya _ _ _ _ _ (@YC _ _ _ _ _ _ _ _ WJ (pv 0) Yi) Yc (by rfl))) (@Ya _ _ _ _ _ (@Yw _ _ _ _ (@Ya _ _ _ _ _ (pv 0) (@Ya _ _ _ _ _ Y5 Yc (by rfl)) (by rfl))) (@Ya _ _ _ _ _ Yn (@Ya _ _ _ _ _ (@Yw _ _ _ _ (@Ya _ _ _ _ _ (@Yw _ _ _ _ (@Ya _ _ _ _ _ (pv 0) Yc (by rfl))) Yc (YL _ _ _ _))) (@Ya _ _ _ _ _ (pv 0) Yc (by rfl)) (YL _ _ _ _)) (by rfl)) (YL _ _ _ _)) (YL _ _ _ _)) (Yt _ _ _ _ _))) Yc (YL _ _ _ _)) (YL _ _ _ _)) (Yt _ _ _ _ _))) Yc (Yt _ _ _ _ _)) (by rfl) (by rfl) (by rfl) (by rfl) (by rfl)) (by rfl)) (@Yf _ _ _ _ _ (@Y2 _ _ _ _ (@Xu _ _ _ _ _ _ _ _ _ _ _ _ bc be bn Y9 (pv 5) (@Ya _ _ _ _ _ (@Yv _ _ _ _ _ (@Ya _ _ _ _ _ (@Yv _ _ _ _ _ (@Ya _ _ _ _ _ Yn (@Ya _ _ _ _ _ (pv 3) Yc (by rfl)) (by rfl))) (@Ya _ _ _ _ _ (@Yw _ _ _ _ (@Ya _ _ _ _ _ (pv 0) (@Ya _ _ _ _ _ (pv 0) Yc (by rfl)) (by rfl))) (@Ya _ _ _ _ _ (@Yw _ _ _ _ (@Ya _ _ _ _ _ (@Yw _ _ _ _ (@Ya _ _ _ _ _ (@YC _ _ _ _ _ _ _ _ Xa (pv 0) Yi) (@Ya _ _ _ _ _ (pv 0) Yc (by rfl)) (by rfl))) (@Ya _ _ _ _ _ (@Yw _ _ _ _ (@Ya _ _ _ _ _ (pv 0) (@Ya _ _ _ _ _ (@YC _ _ _ _ _ _ _ _ Xa (pv 0) Yi) Yc (by rfl)) (by rfl))) (@Ya _ _ _ _ _ (@Yv _ _ _ _ _ (@Ya _ _ _ _ _ (pv 0) (@Ya _ _ _ _ _ (pv 0) Yc (by rfl)) (by rfl))) Yc (Yt _ _ _ _ _)) (YL _ _ _ _)) (YL _ _ _ _))) Yc (YL _ _ _ _)) (YL _ _ _ _)) (Yt _ _ _ _ _))) Yc (Yt _ _ _ _ _)) (by rfl) (by rfl) (by rfl) (by rfl) (by rfl)) (by rfl)) (@Yf _ _ _ _ _ (@Y2 _ _ _ _ (@Xu _ _ _ _ _ _ _ _ _ _ _ _ bc be bn Y9 (pv 5) (@Ya _ _ _ _ _ (@Yv _ _ _ _ _ (@Ya _ _ _ _ _ (@Yv _ _ _ _ _ (@Ya _ _ _ _ _ Yn (@Ya _ _ _ _ _ (pv 3) Yc (by rfl)) (by rfl))) (@Ya _ _ _ _ _ (@Yw _ _ _ _ (@Ya _ _ _ _ _ (pv 0) (@Ya _ _ _ _ _ (@YC _ _ _ _ _ _ _ _ Xa (pv 0) Yi) Yc (by rfl)) (by rfl))) (@Ya _ _ _ _ _ (@Yw _ _ _ _ (@Ya _ _ _ _ _ (@Yw _ _ _ _ (@Ya _ _ _ _ _ (pv 0) (@Ya _ _ _ _ _ (pv 0) Yc (by rfl)) (by rfl))) (@Ya _ _ _ _ _ (@Yw _ _ _ _ (@Ya _ _ _ _ _ (@YC _ _ _ _ _ _ _ _ Xa (pv 0) Yi) (@Ya _ _ _ _ _ (pv 0) (@Ya _ _ _ _ _ (@YC _ _ _ _ _ _ _ _ Xa (pv 0) Yi) Yc (by rfl)) (by rfl)) (by rfl))) (@Ya _ _ _ _ _ Y5 Yc (by rfl)) (YL _ _ _ _)) (YL _ _ _ _))) Yc (YL _ _ _ _)) (YL _ _ _ _)) (Yt _ _ _ _ _))) Yc (Yt _ _ _ _ _)) (by rfl) (by rfl) (by rfl) (by rfl) (by rfl)) (by rfl)) (@Yf _ _ _ _ _ (@YA _ _ (7) _ _ _ _ ZG.nd rfl (.inl rfl) (@Yw _ _ _ _ (@Ya _ _ _ _ _ (@Yv _ _ _ _ _ (@Ya _ _ _ _ _ Yn (@Ya _ _ _ _ _ (pv 0) Yc (by rfl)) (by rfl))) (@Ya _ _ _ _ _ (@Yv _ _ _ _ _ (@Ya _ _ _ _ _ Yn (@Ya _ _ _ _ _ (pv 0) (@Ya _ _ _ _ _ Yi Yc (by rfl)) (by rfl)) (by rfl))) (@Ya _ _ _ _ _ (@Yw _ _ _ _ (@Ya _ _ _ _ _ Yn (@Ya _ _ _ _ _ (pv 0) Yc (by rfl)) (by rfl))) (@Ya _ _ _ _ _ (@Yv _ _ _ _ _ (@Ya _ _ _ _ _ Yn (@Ya _ _ _ _ _ (@YC _ _ _ _ _ _ _ _ WJ (pv 0) Yi) Yc (by rfl)) (by rfl))) (@Ya _ _ _ _ _ Yn (@Ya _ _ _ _ _ (@Yv _ _ _ _ _ (@Ya _ _ _ _ _ Yn Yc (by rfl))) (@Ya _ _ _ _ _ (@Yv _ _ _ _ _ (@Ya _ _ _ _ _ (pv 0) (@Ya _ _ _ _ _ Yn Yc (by rfl)) (by rfl))) (@Ya _ _ _ _ _ (@Yv _ _ _ _ _ (@Ya _ _ _ _ _ Yn (@Ya _ _ _ _ _ (pv 0) Yc (by rfl)) (by rfl))) (@Ya _ _ _ _ _ (@Yv _ _ _ _ _ (@Ya _ _ _ _ _ Y5 (@Ya _ _ _ _ _ (pv 0) Yc (by rfl)) (by rfl))) Yc (Yt _ _ _ _ _)) (Yt _ _ _ _ _)) (Yt _ _ _ _ _)) (Yt _ _ _ _ _)) (by rfl)) (Yt _ _ _ _ _)) (YL _ _ _ _)) (Yt _ _ _ _ _)) (Yt _ _ _ _ _))) (by rfl) (by first | exact .inl rfl | exact .inr rfl | assumption)) (@Yf _ _ _ _ _ (@Y2 _ _ _ _ (@Xu _ _ _ _ _ _ _ _ _ _ _ _ bc be bn Y9 (pv 5) (@Ya _ _ _ _ _ (@Yv _ _ _ _ _ (@Ya _ _ _ _ _ (@Yv _ _ _ _ _ (@Ya _ _ _ _ _ Yn (@Ya _ _ _ _ _ (@Yv _ _ _ _ _ (@Ya _ _ _ _ _ (@Yv _ _ _ _ _ (@Ya _ _ _ _ _ Yn (@Ya _ _ _ _ _ (pv 3) Yc (by rfl)) (by rfl))) (@Ya _ _ _ _ _ (@Yv _ _ _ _ _ (@Ya _ _ _ _ _ Yn (@Ya _ _ _ _ _ (pv 4) Yc (by rfl)) (by rfl))) Yc (Yt _ _ _ _ _)) (Yt _ _ _ _ _))) Yc (Yt _ _ _ _ _)) (by rfl))) (@Ya _ _ _ _ _ (@Yv _ _ _ _ _ (@Ya _ _ _ _ _ Yn (@Ya _ _ _ _ _ (@YC _ _ _ _ _ _ _ _ Xa (pv 0) Yi) Yc (by rfl)) (by rfl))) (@Ya _ _ _ _ _ (pv 7) Yc (by rfl)) (Yt _ _ _ _ _)) (Yt _ _ _ _ _))) Yc (Yt _ _ _ _ _)) (by rfl) (by rfl) (by rfl) (by rfl) (by rfl)) (by rfl)) (@Yg _ _ _ (@Yl _ _ _ _ (pv 5)))))))))))))),?_⟩;refine Yq fun R rr=>?_
 walk_at "rd";refine ⟨few (by decide),fun w gw=>rr _ _ (Yq fun R rr=>?_)⟩;walk_at "rd";refine ⟨few (by decide),fun t gt=>rr _ _ ?_⟩;have ks:eO sg:=fun c hc=>hk c (.tail _ hc)
 have sw:=Yd.aj gw (.tup [.str "whole",.int lo,.int (lo+9)]);have st':=Yd.aj gt (.tup [.str "text",.str (S sg)]);have sA:=sw.trans st';have hw:_=some (HO.tup (eZ lo)):=st' _ _ (Yb (H:=H) (a:=w) (o := .tup [.str "whole",.int lo,.int (lo+9)]));have ht:_=some (HO.tup (jN sg)):=Yb (H:=upd H w (.tup [.str "whole",.int lo,.int (lo+9)])) (a:=t) (o := .tup [.str "text",.str (S sg)]);generalize upd (upd H w (.tup [.str "whole",.int lo,.int (lo+9)])) t (.tup [.str "text",.str (S sg)])=H0 at sA hw ht ⊢;refine WT (fun σ H'=>∃ D r,σ=[some (.int lo),some (.str (S sg)),some (.str (S [q])),some (.ref w),some (.ref t),some (.ref D),none,none]/\RV H lo sg w t D H' [r]) ?_ ?_
 ·intro N hN
  walk_at "rd";refine ⟨few (by decide),fun p gp=>⟨few (by decide),fun p1 uZ=>?_⟩⟩;have sp:=Yd.aj gp (.lst [.int lo]);have lM:=Yd.aj uZ (.tup [.int lo]);unfold Dt;walk_at "rd";intro x gx;have sx:=Yd.aj gx (.dK []);refine ⟨few (by decide),fun O gO=>?_⟩;have sO:=Yd.aj gO (.lst [.int (lo - 1),.int (lo+10),.bl true,.non,.str "1",.ref p,.ref p1,.ref x]);refine ⟨few (by decide),fun r gr=>?_⟩;have sr:=Yd.aj gr (.tup [.ref w,.int (lo+3),.ref O]);refine ⟨few (by decide),fun D gD=>hN _ _ ⟨D,r,rfl,?_⟩⟩;have sD:=Yd.aj gD (.lst [.ref r]);have s1:=(sp.trans lM).trans ((sx.trans sO).trans sr);refine ⟨(sA.trans s1).trans sD,(sA.trans s1).free gD,sD _ _ (s1 _ _ hw),sD _ _ (s1 _ _ ht),Yb,fun r' hr'=>?_⟩
  cases ρ.mp hr'
  intro Hb sb;have mv:∀ {b:Addr} {o:HO},_=some o->Hb b=some o:=fun {b o} (e:_=some o)=>sb b o (Yk e gD) (sD _ _ e)
  exact JW ks (mv (s1 _ _ hw)) (mv ((lM.trans ((sx.trans sO).trans sr)) _ _ Yb)) (mv (((sx.trans sO).trans sr) _ _ Yb)) (mv ((sO.trans sr) _ _ Yb)) (mv (sr _ _ Yb)) (mv Yb)
 ·rintro σ H1 ⟨D,r1,rfl,rv⟩
  refine WT (fun σ H'=>∃ r2,σ=[some (.int lo),some (.str (S sg)),some (.str (S [q])),some (.ref w),some (.ref t),some (.ref D),none,none]/\RV H lo sg w t D H' ([r1]++[r2])) ?_ ?_
  ·intro N hN
   obtain ⟨_,_,hw,ht,hD,_⟩:=id rv;walk_at "rd";refine ⟨.inl ⟨rfl,_,ao.of hD⟩,by rw [XV,XV];exact few (by simp;omega),?_⟩;rw [QU];refine ⟨few (by decide),fun p gp=>?_⟩;have sp:=Yd.aj gp (.lst [.str (S sg)]);refine ⟨few (by decide),fun p1 uZ=>?_⟩;have lM:=Yd.aj uZ (.tup [.str (S sg)]);refine ⟨few (by decide),fun O gO=>?_⟩;have sO:=Yd.aj gO (.lst [.str (S (sg++[q])),.str (S [q]),.int 3,.ref p,.non,.bl false,.ref p1]);refine ⟨few (by decide),fun r gr=>?_⟩;have sr:=Yd.aj gr (.tup [.ref t,.str (S sg),.ref O]);have s1:=((sp.trans lM).trans sO).trans sr;refine ⟨_,s1 _ _ hD,few (by simp),hN _ _ ⟨r,rfl,rv.add s1 fun Hb sb=>?_⟩⟩;have n0:∀ {b:Addr} {H':Hp},H' b=none->Yd H1 H'->b≠D:=fun g' s' z=>by rw [z,s' _ _ hD] at g';cases g'
   exact JX hk hq hl (sb _ _ (YW ht hD (by intro z;cases z)) (s1 _ _ ht)) (sb _ _ (n0 gp (.refl _)) (((lM.trans sO).trans sr) _ _ Yb)) (sb _ _ (n0 uZ sp) ((sO.trans sr) _ _ Yb)) (sb _ _ (n0 gO (sp.trans lM)) (sr _ _ Yb)) (sb _ _ (n0 gr ((sp.trans lM).trans sO)) Yb)
  ·rintro σ Hc ⟨r2,rfl,rv⟩
   refine WT (fun σ H'=>∃ a b,σ=[some (.int lo),some (.str (S sg)),some (.str (S [q])),some (.ref w),some (.ref t),some (.ref D),some (.ref a),none]/\RV H lo sg w t D H' ([r1]++[r2])/\H' a=some (.tup [.str "row",.ref b])/\H' b=some (.tup [.ref w,.ref t])) ?_ ?_
   ·intro N hN
    walk_at "rd";refine ⟨few (by decide),fun b g1=>?_⟩;have s1:=Yd.aj g1 (.tup [.ref w,.ref t]);refine ⟨few (by decide),fun a g2=>hN _ _ ⟨a,b,rfl,rv.keep (s1.trans (.aj g2 _)),Yb,(Yd.aj g2 _) _ _ Yb⟩⟩
   clear rv;rintro σ Hc ⟨a,b,rfl,rv,ha,hb⟩;refine WT (fun σ H'=>∃ r3,σ=[some (.int lo),some (.str (S sg)),some (.str (S [q])),some (.ref w),some (.ref t),some (.ref D),some (.ref a),none]/\RV H lo sg w t D H' (([r1]++[r2])++[r3])) ?_ ?_
   ·intro N hN
    obtain ⟨_,_,hw,ht,hD,_⟩:=id rv;walk_at "rd";refine ⟨.inl ⟨rfl,_,ao.of hD⟩,?_⟩;refine ⟨few (by decide),fun v g1=>?_⟩;have s1:=Yd.aj g1 (.tup [.int lo,.str ""]);refine ⟨few (by decide),fun p1 g2=>?_⟩;have s2:=Yd.aj g2 (.tup [.int lo]);refine ⟨few (by decide),fun p2 g3=>?_⟩;have s3:=Yd.aj g3 (.tup [.int lo,.str "",.str ""]);refine ⟨few (by decide),fun p3 g4=>?_⟩;have s4:=Yd.aj g4 (.lst [.int lo,.str ""]);refine ⟨few (by decide),fun p4 g5=>?_⟩;have s5:=Yd.aj g5 (.tup [.int lo,.int 5]);refine ⟨few (by decide),fun p5 g6=>?_⟩;have s6:=Yd.aj g6 (.tup [.str "",.int lo]);refine ⟨few (by decide),fun p6 g7=>?_⟩;have s7:=Yd.aj g7 (.tup []);refine ⟨few (by decide),fun O g8=>?_⟩;have s8:=Yd.aj g8 (.lst [.ref p1,.ref p2,.ref p3,.ref p4,.ref p5,.ref p6,.non]);refine ⟨few (by decide),fun r g9=>?_⟩;have s9:=Yd.aj g9 (.tup [.ref a,.ref v,.ref O]);have s0:=((((((((s1.trans s2).trans s3).trans s4).trans s5).trans s6).trans s7).trans s8).trans s9);have n0:∀ {b:Addr} {H':Hp},H' b=none->Yd Hc H'->b≠D:=fun g' s' z=>by rw [z,s' _ _ hD] at g';cases g'
    refine ⟨_,s0 _ _ hD,few (by simp),hN _ _ ⟨r,rfl,rv.add s0 fun Hb sb=>?_⟩⟩;have tw:=sb _ _ (YW hw hD (by intro z;cases z)) (s0 _ _ hw);have tt:=sb _ _ (YW ht hD (by intro z;cases z)) (s0 _ _ ht);exact JZ ks (sb _ _ (YW ha hD (by intro z;cases z)) (s0 _ _ ha)) (sb _ _ (YW hb hD (by intro z;cases z)) (s0 _ _ hb)) tw tt (sb _ _ (n0 g1 (.refl _)) ((((((((s2.trans s3).trans s4).trans s5).trans s6).trans s7).trans s8).trans s9) _ _ Yb)) (sb _ _ (n0 g2 s1) (((((((s3.trans s4).trans s5).trans s6).trans s7).trans s8).trans s9) _ _ Yb)) (sb _ _ (n0 g3 (s1.trans s2)) ((((((s4.trans s5).trans s6).trans s7).trans s8).trans s9) _ _ Yb)) (sb _ _ (n0 g4 ((s1.trans s2).trans s3)) (((((s5.trans s6).trans s7).trans s8).trans s9) _ _ Yb)) (sb _ _ (n0 g5 (((s1.trans s2).trans s3).trans s4)) ((((s6.trans s7).trans s8).trans s9) _ _ Yb)) (sb _ _ (n0 g6 ((((s1.trans s2).trans s3).trans s4).trans s5)) (((s7.trans s8).trans s9) _ _ Yb)) (sb _ _ (n0 g7 (((((s1.trans s2).trans s3).trans s4).trans s5).trans s6)) ((s8.trans s9) _ _ Yb)) (sb _ _ (n0 g8 ((((((s1.trans s2).trans s3).trans s4).trans s5).trans s6).trans s7)) (s9 _ _ Yb)) (sb _ _ (n0 g9 (((((((s1.trans s2).trans s3).trans s4).trans s5).trans s6).trans s7).trans s8)) Yb)
   clear rv ha hb;rintro σ Hc ⟨r3,rfl,rv⟩;refine WT (fun σ H'=>∃ r4,σ=[some (.int lo),some (.str (S sg)),some (.str (S [q])),some (.ref w),some (.ref t),some (.ref D),some (.ref a),none]/\RV H lo sg w t D H' ((([r1]++[r2])++[r3])++[r4])) ?_ ?_
   ·intro N hN
    obtain ⟨_,_,hw,ht,hD,_⟩:=id rv;walk_at "rd";refine ⟨.inl ⟨rfl,_,ao.of hD⟩,?_⟩;refine ⟨few (by decide),fun a4 g1=>?_⟩;have s1:=Yd.aj g1 (.tup [.str "many",.ref w]);refine ⟨few (by decide),fun v g2=>?_⟩;have s2:=Yd.aj g2 (.lst [.int lo]);refine ⟨few (by decide),fun p1 g3=>?_⟩;have s3:=Yd.aj g3 (.tup [.int lo]);refine ⟨few (by decide),fun p2 g4=>?_⟩;have s4:=Yd.aj g4 (.lst [.int (lo - 1)]);refine ⟨few (by decide),fun p3 g5=>?_⟩;have s5:=Yd.aj g5 (.lst [.int lo,.non]);refine ⟨few (by decide),fun p5 g6=>?_⟩;have s6:=Yd.aj g6 (.lst [.int lo]);refine ⟨few (by decide),fun p4 g7=>?_⟩;have s7:=Yd.aj g7 (.lst [.ref p5]);refine ⟨few (by decide),fun O g8=>?_⟩;have s8:=Yd.aj g8 (.lst [.ref p1,.ref p2,.ref p3,.str "",.ref p4,.int lo]);refine ⟨few (by decide),fun r g9=>?_⟩;have s9:=Yd.aj g9 (.tup [.ref a4,.ref v,.ref O]);have s0:=((((((((s1.trans s2).trans s3).trans s4).trans s5).trans s6).trans s7).trans s8).trans s9);have n0:∀ {b:Addr} {H':Hp},H' b=none->Yd Hc H'->b≠D:=fun g' s' z=>by rw [z,s' _ _ hD] at g';cases g'
    refine ⟨_,s0 _ _ hD,few (by simp),hN _ _ ⟨r,rfl,rv.add s0 fun Hb sb=>?_⟩⟩;have tw:=sb _ _ (YW hw hD (by intro z;cases z)) (s0 _ _ hw);have tt:=sb _ _ (YW ht hD (by intro z;cases z)) (s0 _ _ ht);exact J0 ks (sb _ _ (n0 g1 (.refl _)) ((((((((s2.trans s3).trans s4).trans s5).trans s6).trans s7).trans s8).trans s9) _ _ Yb)) tw (sb _ _ (n0 g2 s1) (((((((s3.trans s4).trans s5).trans s6).trans s7).trans s8).trans s9) _ _ Yb)) (sb _ _ (n0 g3 (s1.trans s2)) ((((((s4.trans s5).trans s6).trans s7).trans s8).trans s9) _ _ Yb)) (sb _ _ (n0 g4 ((s1.trans s2).trans s3)) (((((s5.trans s6).trans s7).trans s8).trans s9) _ _ Yb)) (sb _ _ (n0 g5 (((s1.trans s2).trans s3).trans s4)) ((((s6.trans s7).trans s8).trans s9) _ _ Yb)) (sb _ _ (n0 g7 (((((s1.trans s2).trans s3).trans s4).trans s5).trans s6)) ((s8.trans s9) _ _ Yb)) (sb _ _ (n0 g6 ((((s1.trans s2).trans s3).trans s4).trans s5)) (((s7.trans s8).trans s9) _ _ Yb)) (sb _ _ (n0 g8 ((((((s1.trans s2).trans s3).trans s4).trans s5).trans s6).trans s7)) (s9 _ _ Yb)) (sb _ _ (n0 g9 (((((((s1.trans s2).trans s3).trans s4).trans s5).trans s6).trans s7).trans s8)) Yb)
   clear rv;rintro σ Hc ⟨r4,rfl,rv⟩;refine WT (fun σ H'=>∃ r5,σ=[some (.int lo),some (.str (S sg)),some (.str (S [q])),some (.ref w),some (.ref t),some (.ref D),some (.ref a),none]/\RV H lo sg w t D H' (((([r1]++[r2])++[r3])++[r4])++[r5])) ?_ ?_
   ·intro N hN
    obtain ⟨_,_,hw,ht,hD,_⟩:=id rv;walk_at "rd";refine ⟨.inl ⟨rfl,_,ao.of hD⟩,?_⟩;refine ⟨few (by decide),fun a5 g1=>?_⟩;have s1:=Yd.aj g1 (.tup [.str "rising",.ref w]);refine ⟨few (by decide),fun v g2=>?_⟩;have s2:=Yd.aj g2 (.lst [.int lo,.int lo]);refine ⟨few (by decide),fun p1 g3=>?_⟩;have s3:=Yd.aj g3 (.lst [.int (lo+1),.int lo]);refine ⟨few (by decide),fun p2 g4=>?_⟩;have s4:=Yd.aj g4 (.lst [.int lo,.int (lo+10)]);refine ⟨few (by decide),fun p3 g5=>?_⟩;have s5:=Yd.aj g5 (.tup [.int lo,.int lo]);refine ⟨few (by decide),fun O g6=>?_⟩;have s6:=Yd.aj g6 (.lst [.ref p1,.ref p2,.ref p3]);refine ⟨few (by decide),fun r g7=>?_⟩;have s7:=Yd.aj g7 (.tup [.ref a5,.ref v,.ref O]);have s0:=((((((s1.trans s2).trans s3).trans s4).trans s5).trans s6).trans s7);have n0:∀ {b:Addr} {H':Hp},H' b=none->Yd Hc H'->b≠D:=fun g' s' z=>by rw [z,s' _ _ hD] at g';cases g'
    refine ⟨_,s0 _ _ hD,few (by simp),hN _ _ ⟨r,rfl,rv.add s0 fun Hb sb=>?_⟩⟩;have tw:=sb _ _ (YW hw hD (by intro z;cases z)) (s0 _ _ hw);have tt:=sb _ _ (YW ht hD (by intro z;cases z)) (s0 _ _ ht);exact J1 ks (sb _ _ (n0 g1 (.refl _)) ((((((s2.trans s3).trans s4).trans s5).trans s6).trans s7) _ _ Yb)) tw (sb _ _ (n0 g2 s1) (((((s3.trans s4).trans s5).trans s6).trans s7) _ _ Yb)) (sb _ _ (n0 g3 (s1.trans s2)) ((((s4.trans s5).trans s6).trans s7) _ _ Yb)) (sb _ _ (n0 g4 ((s1.trans s2).trans s3)) (((s5.trans s6).trans s7) _ _ Yb)) (sb _ _ (n0 g5 (((s1.trans s2).trans s3).trans s4)) ((s6.trans s7) _ _ Yb)) (sb _ _ (n0 g6 ((((s1.trans s2).trans s3).trans s4).trans s5)) (s7 _ _ Yb)) (sb _ _ (n0 g7 (((((s1.trans s2).trans s3).trans s4).trans s5).trans s6)) Yb)
   clear rv;rintro σ Hc ⟨r5,rfl,rv⟩;refine WT (fun σ H'=>∃ r6,σ=[some (.int lo),some (.str (S sg)),some (.str (S [q])),some (.ref w),some (.ref t),some (.ref D),some (.ref a),none]/\RV H lo sg w t D H' ((((([r1]++[r2])++[r3])++[r4])++[r5])++[r6])) ?_ ?_
   ·intro N hN
    obtain ⟨_,_,hw,ht,hD,_⟩:=id rv;walk_at "rd";refine ⟨.inl ⟨rfl,_,ao.of hD⟩,?_⟩;refine ⟨few (by decide),fun a6 g1=>?_⟩;have s1:=Yd.aj g1 (.tup [.str "unlike",.ref w]);refine ⟨few (by decide),fun v g2=>?_⟩;have s2:=Yd.aj g2 (.lst [.int lo,.int (lo+1)]);refine ⟨few (by decide),fun p1 g3=>?_⟩;have s3:=Yd.aj g3 (.lst [.int lo,.int lo]);refine ⟨few (by decide),fun p2 g4=>?_⟩;have s4:=Yd.aj g4 (.lst [.int (lo+2),.int lo,.int (lo+1)]);refine ⟨few (by decide),fun O g5=>?_⟩;have s5:=Yd.aj g5 (.lst [.ref p1,.ref p2,.non]);refine ⟨few (by decide),fun r g6=>?_⟩;have s6:=Yd.aj g6 (.tup [.ref a6,.ref v,.ref O]);have s0:=(((((s1.trans s2).trans s3).trans s4).trans s5).trans s6);have n0:∀ {b:Addr} {H':Hp},H' b=none->Yd Hc H'->b≠D:=fun g' s' z=>by rw [z,s' _ _ hD] at g';cases g'
    refine ⟨_,s0 _ _ hD,few (by simp),hN _ _ ⟨r,rfl,rv.add s0 fun Hb sb=>?_⟩⟩;have tw:=sb _ _ (YW hw hD (by intro z;cases z)) (s0 _ _ hw);have tt:=sb _ _ (YW ht hD (by intro z;cases z)) (s0 _ _ ht);exact J2 ks (sb _ _ (n0 g1 (.refl _)) (((((s2.trans s3).trans s4).trans s5).trans s6) _ _ Yb)) tw (sb _ _ (n0 g2 s1) ((((s3.trans s4).trans s5).trans s6) _ _ Yb)) (sb _ _ (n0 g3 (s1.trans s2)) (((s4.trans s5).trans s6) _ _ Yb)) (sb _ _ (n0 g4 ((s1.trans s2).trans s3)) ((s5.trans s6) _ _ Yb)) (sb _ _ (n0 g5 (((s1.trans s2).trans s3).trans s4)) (s6 _ _ Yb)) (sb _ _ (n0 g6 ((((s1.trans s2).trans s3).trans s4).trans s5)) Yb)
   clear rv;rintro σ Hc ⟨r6,rfl,rv⟩;refine Yq fun R rr=>?_
   walk_at "rd";obtain ⟨_,_,hw,ht,hD,_⟩:=id rv;refine ⟨few (by decide),fun p1 g1=>?_⟩;have s1:=Yd.aj g1 (.tup [.str "b",.int lo]);refine ⟨few (by decide),fun p2 g2=>?_⟩;have s2:=Yd.aj g2 (.tup [.str "a",.int lo,.int 0]);refine ⟨few (by decide),fun p3 g3=>?_⟩;have s3:=Yd.aj g3 (.lst [.str "a",.int lo]);refine ⟨few (by decide),fun p4 g4=>?_⟩;have s4:=Yd.aj g4 (.tup [.str "a",.int (lo - 1)]);refine ⟨few (by decide),fun p5 g5=>?_⟩;have s5:=Yd.aj g5 (.tup [.str "a"]);refine ⟨few (by decide),fun p6 g6=>?_⟩;have s6:=Yd.aj g6 (.tup [.int lo,.str "a"]);refine ⟨few (by decide),fun p7 g7=>?_⟩;have s7:=Yd.aj g7 (.tup [.str "",.int lo]);refine ⟨few (by decide),fun p8 g8=>?_⟩;have s8:=Yd.aj g8 (.tup [.non,.int lo]);refine ⟨few (by decide),fun O g9=>rr _ _ (Yq fun R rr=>?_)⟩;have s9:=Yd.aj g9 (.lst [.ref p1,.ref p2,.ref p3,.ref p4,.str "a",.ref p5,.ref p6,.ref p7,.ref p8]);have sB:=((((((((s1.trans s2).trans s3).trans s4).trans s5).trans s6).trans s7).trans s8).trans s9);walk_at "rd";refine ⟨.inl ⟨rfl,_,ao.of (sB _ _ hD)⟩,?_⟩;refine ⟨few (by decide),fun c0 Ik=>?_⟩;have dj:=Yd.aj Ik (.tup [.str "a",.ref w]);refine ⟨few (by decide),fun c1 Il=>?_⟩;have dH:=Yd.aj Il (.tup [.str "c",.ref t]);refine ⟨few (by decide),fun b7 Im=>?_⟩;have s12:=Yd.aj Im (.tup [.ref c0,.ref c1]);refine ⟨few (by decide),fun a7 Io=>?_⟩;have d8:=Yd.aj Io (.tup [.str "pick",.ref b7]);refine ⟨few (by decide),fun v Ip=>?_⟩;have c7:=Yd.aj Ip (.tup [.str "a",.int (lo+1)]);refine ⟨few (by decide),fun r Ir=>?_⟩;have d9:=Yd.aj Ir (.tup [.ref a7,.ref v,.ref O]);have s0:=sB.trans (((((dj.trans dH).trans s12).trans d8).trans c7).trans d9);have n0:∀ {b:Addr} {H':Hp},H' b=none->Yd Hc H'->b≠D:=fun g' s' z=>by rw [z,s' _ _ hD] at g';cases g'
   refine ⟨_,s0 _ _ hD,few (by simp),rr _ _ ?_⟩;have rv':=rv.add s0 (r:=r) fun Hb sb=>by
    have tw:=sb _ _ (YW hw hD (by intro z;cases z)) (s0 _ _ hw);have tt:=sb _ _ (YW ht hD (by intro z;cases z)) (s0 _ _ ht);exact J3 ks (sb _ _ (n0 Io (sB.trans ((dj.trans dH).trans s12))) ((c7.trans d9) _ _ Yb)) ⟨(sb _ _ (n0 Im (sB.trans (dj.trans dH))) (((d8.trans c7).trans d9) _ _ Yb)),(sb _ _ (n0 Ik ((((((((s1.trans s2).trans s3).trans s4).trans s5).trans s6).trans s7).trans s8).trans s9)) (((((dH.trans s12).trans d8).trans c7).trans d9) _ _ Yb)),(sb _ _ (n0 Il (sB.trans dj)) ((((s12.trans d8).trans c7).trans d9) _ _ Yb)),tw,tt⟩ (sb _ _ (n0 Ip (sB.trans (((dj.trans dH).trans s12).trans d8))) (d9 _ _ Yb)) (sb _ _ (n0 g1 (.refl _)) ((((((((((((((s2.trans s3).trans s4).trans s5).trans s6).trans s7).trans s8).trans s9).trans dj).trans dH).trans s12).trans d8).trans c7).trans d9) _ _ Yb)) (sb _ _ (n0 g2 s1) (((((((((((((s3.trans s4).trans s5).trans s6).trans s7).trans s8).trans s9).trans dj).trans dH).trans s12).trans d8).trans c7).trans d9) _ _ Yb)) (sb _ _ (n0 g3 (s1.trans s2)) ((((((((((((s4.trans s5).trans s6).trans s7).trans s8).trans s9).trans dj).trans dH).trans s12).trans d8).trans c7).trans d9) _ _ Yb)) (sb _ _ (n0 g4 ((s1.trans s2).trans s3)) (((((((((((s5.trans s6).trans s7).trans s8).trans s9).trans dj).trans dH).trans s12).trans d8).trans c7).trans d9) _ _ Yb)) (sb _ _ (n0 g5 (((s1.trans s2).trans s3).trans s4)) ((((((((((s6.trans s7).trans s8).trans s9).trans dj).trans dH).trans s12).trans d8).trans c7).trans d9) _ _ Yb)) (sb _ _ (n0 g6 ((((s1.trans s2).trans s3).trans s4).trans s5)) (((((((((s7.trans s8).trans s9).trans dj).trans dH).trans s12).trans d8).trans c7).trans d9) _ _ Yb)) (sb _ _ (n0 g7 (((((s1.trans s2).trans s3).trans s4).trans s5).trans s6)) ((((((((s8.trans s9).trans dj).trans dH).trans s12).trans d8).trans c7).trans d9) _ _ Yb)) (sb _ _ (n0 g8 ((((((s1.trans s2).trans s3).trans s4).trans s5).trans s6).trans s7)) (((((((s9.trans dj).trans dH).trans s12).trans d8).trans c7).trans d9) _ _ Yb)) (sb _ _ (n0 g9 (((((((s1.trans s2).trans s3).trans s4).trans s5).trans s6).trans s7).trans s8)) ((((((dj.trans dH).trans s12).trans d8).trans c7).trans d9) _ _ Yb)) (sb _ _ (n0 Ir (sB.trans ((((dj.trans dH).trans s12).trans d8).trans c7))) Yb)
   obtain ⟨sm,_,_,_,hD',dR⟩:=rv';walk_at "rd";exact qq D _ _ sm hD' (by simp) fun r hr=>dR r hr _ fun _ _ _ e=>e
def LT:List Nat:=[97,98,99,100,101,102,103,104,105,106,107,108,109,110,111,112,113,114,115,116,117,118,119,120,121,122,65,66,67,68,69,70,71,72,73,74,75,76,77,78,79,80,81,82,83,84,85,86,87,88,89,90,48,49,50,51,52,53,54,55,56,57]
theorem Iu:χ "abcdefghijklmnopqrstuvwxyzABCDEFGHIJKLMNOPQRSTUVWXYZ0123456789"=S LT:=by decide +kernel
theorem Yev:∀ c∈LT,c<1000/\c≠45:=by decide +kernel
theorem zL:LT.length=62:=by decide
theorem Qy:∀ cs:List Nat,QV [] (cs.map fun c=>[c])=cs
 | []=>rfl
 | [x]=>rfl
 | x::y::r=>by
  have:=Qy (y::r)
  show [x]++[]++QV [] ((y::r).map fun c=>[c])=_
  rw [this];rfl
theorem Yco (cs:List Nat):Txt.join ("":Str) (cs.map fun c=>S [c])=S cs:=by
 have:=Nm [] (cs.map fun c=>[c]);rw [d3,Qy] at this
 exact this
theorem YdD (cs:List Nat) (h:cs.length<=1000):((cs.map fun c=>S [c]).map (·.length)).sum+(cs.map fun c=>S [c]).length*("":Str).length<=16777216:=by
 rw [d3,Ζ];have:((fun x:Str=>x.length) ∘ fun c=>S [c])=fun _=>1:=by funext c;simp [XV]
 rw [this,List.map_const',List.sum_replicate_nat];have:("":Str).length=0:=by decide +kernel
 rw [this];omega
def dM (f m:Nat):List Nat:=(bj m).map fun k=>LT.getD ((f+5*k)%62) 0
theorem Ygq:∀ f<62,∀ m<13,LT.getD ((f+5*m)%62) 0∉dM f m:=by decide +kernel
theorem Ygr:∀ f<62,∀ m<13,63∉dM f m/\32∉dM f m/\45∉dM f m:=by decide +kernel
theorem zM (x:Nat) (h:x<62):LT[x]?=some (LT.getD x 0):=by
 rw [cK,Η (by rw [zL];exact h)];rfl
theorem Iv (x:Nat) (h:x<62):LT.getD x 0<1000:=(Yev _ (Τ (zM x h))).1
theorem Ygs (f m:Nat):eO (dM f m):=fun c hc=>by
 obtain ⟨k,_,rfl⟩:=ψ.mp hc;exact Iv _ (lP _ (by decide))
theorem Qd (f m:Nat):(dM f m).length=m:=by rw [dM,Ζ,List.length_range]
theorem Yew (f m:Nat):dM f (m+1)=dM f m++[LT.getD ((f+5*m)%62) 0]:=by rw [dM,eT,af];rfl
theorem Iw {K:Λ} {H H':Hp} {a:Addr} {xs:List V} (k:Kt H H') (h:ao K H a xs):ao K H' a xs:=by
 rcases h with h | h
 ·rcases h with h | ⟨x,h⟩
  ·exact .inl (.inl (k.lst h))
  ·exact .inl (.inr ⟨x,k _ _ (by intro _ z;cases z) h⟩)
 ·exact .inr h
theorem J4 (c:Nat) (x:Int):∃ q:Nat,iz [V.str (S [c]),V.str "?",V.str " ",V.str "-"] (x%4)=some (.str (S [q]))/\(q=c\/q=63\/q=32\/q=45):=by
 have:x%4=0\/x%4=1\/x%4=2\/x%4=3:=by omega
 rcases this with h | h | h | h<;>rw [h]
 ·exact ⟨c,rfl,.inl rfl⟩
 ·exact ⟨63,congrArg (fun z=>some (V.str z)) (show ("?":Str)=S [63] by decide +kernel),.inr (.inl rfl)⟩
 ·exact ⟨32,congrArg (fun z=>some (V.str z)) (show (" ":Str)=S [32] by decide +kernel),.inr (.inr (.inl rfl))⟩
 ·exact ⟨45,congrArg (fun z=>some (V.str z)) (show ("-":Str)=S [45] by decide +kernel),.inr (.inr (.inr rfl))⟩
theorem Yex {k:Nat} {Z0 Z1 bJ aq aQ ak aJ au:Addr} (Zw:g.Fn k "_law_cell_at" ["_law_script","_law_k"] (mU g.K)) (n8:g.Fn k "_law_rows" ["_law_low","_law_signs","_law_strange"] (mY g.K)) (Iz:g.Fn k "_law_is_refused" ["_law_book","_law_shape","_law_answer","_law_value"] (mV g ak aq Z0 Z1)) (zN:g.Fn k "_law_is_taken" ["_law_book","_law_shape","_law_value"] (uP g ak au aq Z0 Z1)) (Zv:g.mg "range"=none) (hnd:([aq,ak,au]:List Addr).Nodup):Ua g k ["_law_script","_law_low","_law_some","_law_first","_law_many","_law_signs","_law_strange","_law_book","_law_shape","_law_value","_law_odd","_law_thing","_law_things"] "law" QZ (VR g.K [("shrunk",bJ,aq),("_law_error",aQ,ak),("_law_is_taken",aJ,au)]):=by
 refine fun f_ cdv A outer s H vs Q E hr h=>?_
 obtain ⟨a,ns,rfl,hS,hl,ht,q⟩:=h;refine ⟨_,(@Yf _ _ _ _ _ (@YA _ _ (1) _ _ _ _ Xw.nd rfl (.inl rfl) (@YC _ _ _ _ _ _ _ _ WJ (@YC _ _ _ _ _ _ _ _ Wr (@Yz _ _ _ _ _ _ _ _ _ _ _ _ Zw hr (@Ya _ _ _ _ _ (pv 0) (@Ya _ _ _ _ _ Yi Yc (by rfl)) (by rfl)) (by omega) (by rfl) (by rfl) (by decide) (by rfl) (by rfl)) (@YC _ _ _ _ _ _ _ _ Cw Yi Yi)) (@YC _ _ _ _ _ _ _ _ UT Yi (@YC _ _ _ _ _ _ _ _ Cw Yi Yi))) (by rfl) (by first | exact .inl rfl | exact .inr rfl | assumption)) (@Yf _ _ _ _ _ (@YA _ _ (2) _ _ _ _ Xw.nd rfl (.inr rfl) Yn (by rfl) (by first | exact .inl rfl | exact .inr rfl | assumption)) (@Yf _ _ _ _ _ (@YA _ _ (3) _ _ _ _ Xw.nd rfl (.inr rfl) (@YC _ _ _ _ _ _ _ _ Wr (@Yz _ _ _ _ _ _ _ _ _ _ _ _ Zw hr (@Ya _ _ _ _ _ (pv 0) (@Ya _ _ _ _ _ Yi Yc (by rfl)) (by rfl)) (by omega) (by rfl) (by rfl) (by decide) (by rfl) (by rfl)) Yi) (by rfl) (by first | exact .inl rfl | exact .inr rfl | assumption)) (@Yf _ _ _ _ _ (@YA _ _ (4) _ _ _ _ Xw.nd rfl (.inl rfl) (@YC _ _ _ _ _ _ _ _ Xa Yi (@YC _ _ _ _ _ _ _ _ Wr (@Yz _ _ _ _ _ _ _ _ _ _ _ _ Zw hr (@Ya _ _ _ _ _ (pv 0) (@Ya _ _ _ _ _ Yi Yc (by rfl)) (by rfl)) (by omega) (by rfl) (by rfl) (by decide) (by rfl) (by rfl)) Yi)) (by rfl) (by first | exact .inl rfl | exact .inr rfl | assumption)) (@Yf _ _ _ _ _ (@YA _ _ (5) _ _ _ _ Xw.nd rfl (.inl rfl) (@Xu _ _ _ _ _ _ _ _ _ _ _ _ PySem.F.plainAttrs_str PySem.F.slot_str_join PySem.F.type_str_join M4 Yn (@Ya _ _ _ _ _ (@XC _ _ _ _ _ _ _ ([none,some 2,some 3]) ((["_law_k","_law_some","_law_first"]:List Str)) _ (YF 0) _ _ (.own (.cap (i:=2) rfl rfl (by first | exact .inl rfl | exact .inr rfl) (.cap (i:=3) rfl rfl (by first | exact .inl rfl | exact .inr rfl) .nil))) rfl (@WV _ _ _ _ _ _ rfl Zv (@Ya _ _ _ _ _ (pv 4) Yc (by rfl)) (by rfl)) (fun cl C s₀ H₀ fp pn=>(@YB _ _ (0) _ (show cr (["_law_k","_law_some","_law_first"]:List Str) by decide +kernel) rfl (.inl rfl) (.inr rfl))) (fun cl C s₀ H₀ fp pn=>Xj) (fun cl C s₀ H₀ fp pn=>(@YD _ _ _ _ _ _ _ Dj (pv 1) (@YC _ _ _ _ _ _ _ _ Wr (@YC _ _ _ _ _ _ _ _ Xa (pv 2) (@YC _ _ _ _ _ _ _ _ UT Yi (pv 0))) Yi) (fun _ _=>rfl))) (by intro x hx;simp at hx;first | (subst hx;exact .inl rfl) | (rcases hx with rfl | rfl<;>exact .inl rfl) | (rcases hx with rfl | rfl | rfl<;>exact .inl rfl) | (rcases hx with rfl | rfl | rfl | rfl<;>exact .inl rfl) | (rcases hx with rfl | rfl | rfl | rfl | rfl<;>exact .inl rfl)) (by rfl) (by decide) (by decide +kernel) (by intro _;rfl)) Yc (by rfl)) (by rfl) (by rfl) (by rfl) (by rfl) (by rfl)) (by rfl) (by first | exact .inl rfl | exact .inr rfl | assumption)) (@Yf _ _ _ _ _ (@YA _ _ (6) _ _ _ _ Xw.nd rfl (.inl rfl) (@YD _ _ _ _ _ _ _ XH (@Yw _ _ _ _ (@Ya _ _ _ _ _ (@YD _ _ _ _ _ _ _ Dj (pv 2) (@YC _ _ _ _ _ _ _ _ Wr (@YC _ _ _ _ _ _ _ _ Xa (pv 3) (@YC _ _ _ _ _ _ _ _ UT Yi (pv 4))) Yi) (fun _ _=>rfl)) (@Ya _ _ _ _ _ Yn (@Ya _ _ _ _ _ Yn (@Ya _ _ _ _ _ Yn Yc (by rfl)) (by rfl)) (by rfl)) (by rfl))) (@YC _ _ _ _ _ _ _ _ Wr (@Yz _ _ _ _ _ _ _ _ _ _ _ _ Zw hr (@Ya _ _ _ _ _ (pv 0) (@Ya _ _ _ _ _ Yi Yc (by rfl)) (by rfl)) (by omega) (by rfl) (by rfl) (by decide) (by rfl) (by rfl)) Yi) (fun _ _=>rfl)) (by rfl) (by first | exact .inl rfl | exact .inr rfl | assumption)) (@Yf _ _ _ _ _ (@YA _ _ (7) _ _ _ _ Xw.nd rfl (.inl rfl) (@Yw _ _ _ _ (@Ya _ _ _ _ _ (@Yv _ _ _ _ _ (@Ya _ _ _ _ _ Yn (@Ya _ _ _ _ _ (@Yv _ _ _ _ _ (@Ya _ _ _ _ _ Yn (@Ya _ _ _ _ _ (@Yv _ _ _ _ _ (@Ya _ _ _ _ _ Yn (@Ya _ _ _ _ _ Yn Yc (by rfl)) (by rfl))) Yc (Yt _ _ _ _ _)) (by rfl))) Yc (Yt _ _ _ _ _)) (by rfl))) Yc (Yt _ _ _ _ _))) (by rfl) (by first | exact .inl rfl | exact .inr rfl | assumption)) (@Yf _ _ _ _ _ (@XE _ _ _ _ _ _ _ _ bp rfl (@Xg _ _ _ _ (@Yz _ _ _ _ _ _ _ _ _ _ _ _ n8 hr (@Ya _ _ _ _ _ (pv 1) (@Ya _ _ _ _ _ (pv 5) (@Ya _ _ _ _ _ (pv 6) Yc (by rfl)) (by rfl)) (by rfl)) (by omega) (by rfl) (by rfl) (by decide) (by rfl) (by rfl))) (@Wq _ _ _ _ _ (3) rfl (@YX _ _ _ _ _ (@YB _ _ (8) _ Xw.nd rfl (.inl rfl) (by first | exact .inl rfl | exact .inr rfl | assumption)) (@YX _ _ _ _ _ (@YB _ _ (9) _ Xw.nd rfl (.inl rfl) (by first | exact .inl rfl | exact .inr rfl | assumption)) (@YX _ _ _ _ _ (@YB _ _ (10) _ Xw.nd rfl (.inl rfl) (by first | exact .inl rfl | exact .inr rfl | assumption)) X4 (by rfl)) (by rfl)) (by rfl)) (by rfl) (by rfl)) (@Yf _ _ _ _ _ (@YE _ _ _ _ _ _ _ _ (@Xt _ _ _ _ (@Y8 _ _ _ (@Yz _ _ _ _ _ _ _ _ _ _ _ _ zN hr (@Ya _ _ _ _ _ (pv 7) (@Ya _ _ _ _ _ (pv 8) (@Ya _ _ _ _ _ (pv 9) Yc (by rfl)) (by rfl)) (by rfl)) (by omega) (by rfl) (by rfl) (by decide) (by rfl) (by rfl)) (by intro _;rfl))) (@Yg _ _ _ (@Yl _ _ _ _ Xe)) Yr) (@Yf _ _ _ _ _ (@XE _ _ _ _ _ _ _ _ bp rfl (@Xg _ _ _ _ (pv 10)) (@YB _ _ (11) _ Xw.nd rfl (.inl rfl) (by first | exact .inl rfl | exact .inr rfl | assumption)) (@Yg _ _ _ (@YE _ _ _ _ _ _ _ _ (@Xt _ _ _ _ (@Y8 _ _ _ (@Yz _ _ _ _ _ _ _ _ _ _ _ _ Iz hr (@Ya _ _ _ _ _ (pv 7) (@Ya _ _ _ _ _ (pv 8) (@Ya _ _ _ _ _ (@Xn _ _ _ _ _ _ _ _ YS (@YC _ _ _ _ _ _ _ _ Wr (@Yz _ _ _ _ _ _ _ _ _ _ _ _ Zw hr (@Ya _ _ _ _ _ (pv 0) (@Ya _ _ _ _ _ Yi Yc (by rfl)) (by rfl)) (by omega) (by rfl) (by rfl) (by decide) (by rfl) (by rfl)) Yi) Yi (Yp _)) (@Ya _ _ _ _ _ (pv 11) Yc (by rfl)) (by rfl)) (by rfl)) (by rfl)) (by omega) (by rfl) (by rfl) (by decide) (by rfl) (by rfl)) (by intro _;rfl))) (@Yg _ _ _ (@Yl _ _ _ _ Xe)) Yr)) (by intro _;rfl)) (@Yg _ _ _ (@YE _ _ _ _ _ _ _ _ (@Xt _ _ _ _ (@Y8 _ _ _ (@Yz _ _ _ _ _ _ _ _ _ _ _ _ zN hr (@Ya _ _ _ _ _ (pv 7) (@Ya _ _ _ _ _ (pv 8) (@Ya _ _ _ _ _ (pv 9) Yc (by rfl)) (by rfl)) (by rfl)) (by omega) (by rfl) (by rfl) (by decide) (by rfl) (by rfl)) (by intro _;rfl))) (@Yg _ _ _ (@Yl _ _ _ _ Xe)) Yr)))) (by intro _;rfl)) (@Yf _ _ _ _ _ (@YA _ _ (12) _ _ _ _ Xw.nd rfl (.inl rfl) (@Yw _ _ _ _ (@Ya _ _ _ _ _ (pv 1) (@Ya _ _ _ _ _ (@YC _ _ _ _ _ _ _ _ WJ (pv 1) Yi) Yc (by rfl)) (by rfl))) (by rfl) (by first | exact .inl rfl | exact .inr rfl | assumption)) (@Yf _ _ _ _ _ (@YA _ _ (8) _ _ _ _ Xw.nd rfl (.inl rfl) (@Yv _ _ _ _ _ (@Ya _ _ _ _ _ Yn (@Ya _ _ _ _ _ (@Yv _ _ _ _ _ (@Ya _ _ _ _ _ Yn (@Ya _ _ _ _ _ (pv 1) (@Ya _ _ _ _ _ (@YC _ _ _ _ _ _ _ _ Xa (pv 1) Yi) Yc (by rfl)) (by rfl)) (by rfl))) Yc (Yt _ _ _ _ _)) (by rfl))) (by rfl) (by first | exact .inl rfl | exact .inr rfl | assumption)) (@Yf _ _ _ _ _ (@YE _ _ _ _ _ _ _ _ (@Xt _ _ _ _ (@Y8 _ _ _ (@Yz _ _ _ _ _ _ _ _ _ _ _ _ Iz hr (@Ya _ _ _ _ _ (pv 7) (@Ya _ _ _ _ _ (pv 8) (@Ya _ _ _ _ _ Xe (@Ya _ _ _ _ _ (pv 12) Yc (by rfl)) (by rfl)) (by rfl)) (by rfl)) (by omega) (by rfl) (by rfl) (by decide) (by rfl) (by rfl)) (by intro _;rfl))) (@Yg _ _ _ (@Yl _ _ _ _ Xe)) Yr) (@Yf _ _ _ _ _ (@Kq _ _ _ _ _ _ (@YC _ _ _ _ _ _ _ _ Xa (pv 1) (@YC _ _ _ _ _ _ _ _ Wr (@Yz _ _ _ _ _ _ _ _ _ _ _ _ Zw hr (@Ya _ _ _ _ _ (pv 0) (@Ya _ _ _ _ _ Yi Yc (by rfl)) (by rfl)) (by omega) (by rfl) (by rfl) (by decide) (by rfl) (by rfl)) Yi)) (@Kp _ _ _ _ _ _ _ (pv 12) Yi Ls (by intro _;rfl)) (by rfl) (by rfl) (by rfl)) (@Yg _ _ _ (@Yl _ _ _ _ (@Yz _ _ _ _ _ _ _ _ _ _ _ _ zN hr (@Ya _ _ _ _ _ (pv 7) (@Ya _ _ _ _ _ (pv 8) (@Ya _ _ _ _ _ (pv 12) Yc (by rfl)) (by rfl)) (by rfl)) (by omega) (by rfl) (by rfl) (by decide) (by rfl) (by rfl)))))))))))))))),?_⟩;have hTS:H aq=some (.aH #[]):=ht _ (.head _);have hTE:H ak=some (.aH #[]):=ht _ (.tail _ (.head _));have hTN:H au=some (.aH #[]):=ht _ (.tail _ (.tail _ (.head _)));have hn1:=(a9.mp hnd).1;have hn2:=(a9.mp (a9.mp hnd).2).1;have qt:ak≠aq:=fun z=>hn1 (by rw [z];exact .head _)
 have qu:au≠ak:=fun z=>hn2 (by rw [z];exact .head _)
 have qw:au≠aq:=fun z=>hn1 (by rw [z];exact .tail _ (.head _))
 refine Yq fun R rr=>?_
 walk_at "rd";refine ⟨a,ns,0,rfl,hS,hl,⟨yN,_,rfl,by decide +kernel,yN,.inr (.inl (by decide)),rr _ _ (Yq fun R rr=>?_)⟩⟩;generalize (ns.getD 0 0)%10^Int.toNat 60 - 5*10^Int.toNat 59=lo;walk_at "rd";refine rr _ _ (Yq fun R rr=>?_);walk_at "rd";refine ⟨a,ns,1,rfl,hS,hl,_,rfl,by decide,rr _ _ (Yq fun R rr=>?_)⟩;walk_at "rd";refine ⟨a,ns,2,rfl,hS,hl,_,rfl,by decide,rr _ _ (Yq fun R rr=>?_)⟩;walk_at "rd";obtain ⟨f,hf1,hf2⟩:=U8 (ns.getD 1 0) (j:=62) (by decide);have hf2:f<62:=by omega
 obtain ⟨m0,hm1,hm2⟩:=U8 (ns.getD 2 0) (j:=12) (by decide);obtain ⟨m,hm,hm3,IK⟩:∃ m:Nat,1+ns.getD 2 0%12=(m:Int)/\1<=m/\m<13:=⟨1+m0,by omega,by omega,by omega⟩;rw [hf1,hm];refine ⟨rfl,?_⟩;refine Vo (n:=m) (fun F i zs H'=>Yd H H'/\H' F=some (.lst zs)/\zs=(dM f i).map (fun c=>V.str (S [c]))) (fun R r=>by walk_at "rd";exact r) (by omega) ?_ ?_ ?_ ?_
 ·intro F hF
  exact ⟨.aj hF _,Yb,rfl⟩
 ·rintro F i zs H' ⟨sm,hd,rfl⟩
  exact ⟨by rw [Ζ,Qd],hd⟩
 ·rintro F i zs H' hF hi ⟨sm,hd,rfl⟩ R r
  walk_at "rd";rw [Iu];have e:((f:Int)+5*(i:Int))%62=(((f+5*i)%62:Nat):Int):=by omega
  refine ⟨.inl (cm (m:=8) (n:=8) (by decide) (by rw [Int.natAbs_natCast];omega)),by decide,_,_,LT.getD ((f+5*i)%62) 0,rfl,rfl,by rw [XV,zL];exact few (by decide),by rw [e,Wu];exact Yj (zM _ (lP _ (by decide))),r _ _ hd ⟨.bC hF sm _,Yb,by rw [Yew,af];rfl⟩⟩
 rintro F zs H1 hF ⟨s1,hd,rfl⟩;refine ⟨"",F,(dM f m).map fun c=>S [c],rfl,rfl,by rw [d3];exact ao.of hd,YdD _ (by rw [Qd];omega),?_⟩;rw [Yco];refine rr _ _ ?_;rw [Iu];refine WT (fun σ H'=>∃ qs,σ=[some (.ref a),some (.int lo),some (.str (S LT)),some (.int (f:Nat)),some (.int (m:Nat)),some (.str (S (dM f m))),some (.str (S [qs])),none,none,none,none,none,none]/\Yd H H'/\qs∉dM f m/\qs<1000) ?_ ?_
 ·intro N hN
  walk_at "rd";have e5:((f:Int)+5*(m:Int))%62=(((f+5*m)%62:Nat):Int):=by omega
  refine ⟨.inl (cm (m:=8) (n:=8) (by decide) (by rw [Int.natAbs_natCast];omega)),by decide,_,_,LT.getD ((f+5*m)%62) 0,rfl,rfl,by rw [XV,zL];exact few (by decide),by rw [e5,Wu];exact Yj (zM _ (lP _ (by decide))),few (by decide),fun p gp=>?_⟩;have s2:=s1.trans (.aj gp (.lst [.str (S [LT.getD ((f+5*m)%62) 0]),.str "?",.str " ",.str "-"]));refine ⟨a,ns,3,rfl,s2.seq hS,hl,_,rfl,by decide,?_⟩;obtain ⟨qs,hq1,hq2⟩:=J4 (LT.getD ((f+5*m)%62) 0) (ns.getD 3 0);refine ⟨_,ao.of Yb,_,hq1,hN _ _ ⟨qs,rfl,s2,?_,?_⟩⟩
  ·have h1:=Ygq f hf2 m IK
   have h2:=Ygr f hf2 m IK;rcases hq2 with rfl | rfl | rfl | rfl
   ·exact h1
   ·exact h2.1
   ·exact h2.2.1
   ·exact h2.2.2
  ·have h1:=Iv ((f+5*m)%62) (lP _ (by decide))
   rcases hq2 with rfl | rfl | rfl | rfl
   ·exact h1
   ·decide
   ·decide
   ·decide
 rintro σ H2 ⟨qs,rfl,s2,hqn,hqo⟩;refine WT (fun σ H'=>∃ B,σ=[some (.ref a),some (.int lo),some (.str (S LT)),some (.int (f:Nat)),some (.int (m:Nat)),some (.str (S (dM f m))),some (.str (S [qs])),some (.ref B),none,none,none,none,none]/\Yd H H') ?_ ?_
 ·intro N hN
  walk_at "rd";exact ⟨few (by decide),fun b1 g1=>⟨few (by decide),fun b2 g2=>⟨few (by decide),fun b3 g3=>⟨few (by decide),fun B g4=>hN _ _ ⟨B,rfl,(((s2.trans (.aj g1 _)).trans (.aj g2 _)).trans (.aj g3 _)).trans (.aj g4 _)⟩⟩⟩⟩⟩
 rintro σ H3 ⟨B,rfl,s3⟩;have zO:=Qd f m;have zP:=Ygs f m;generalize dM f m=sg at zO zP hqn ⊢;refine WT (fun σ H'=>(∃ o8 o9 qx gM,σ=[some (.ref a),some (.int lo),some (.str (S LT)),some (.int (f:Nat)),some (.int (m:Nat)),some (.str (S sg)),some (.str (S [qs])),some (.ref B),o8,o9,qx,gM,none])/\Kt H H'/\Y7 H' ak/\Y0 H' aq/\Xr H' au) ?_ ?_
 ·intro N hN
  refine WF (fun l xs H4=>∃ ts:List Addr,xs=ts.map V.ref/\Yd H3 H4/\H4 l=some (.lst (ts.map V.ref))/\∀ t∈ts,Rw H4 lo sg t) (fun R r=>?_) ?_
  ·walk_at "rd"
   exact ⟨lo,sg,qs,rfl,(fun c hc=>by rcases Υ.mp hc with rfl | hc;exact hqo;exact zP c hc),hqn,by omega,(fun z=>by rw [z] at zO;simp at zO;omega),fun D ts H4 s4 hD _ hr=>r D _ H4 (ao.of hD) ⟨ts,rfl,s4,hD,hr⟩⟩
  rintro l xs H4 _ ⟨ts,rfl,s4,uF,hrw⟩;have ql:=Yo (s3.trans s4);refine ⟨fun i σ H'=>(∃ o8 o9 qx gM,σ=[some (.ref a),some (.int lo),some (.str (S LT)),some (.int (f:Nat)),some (.int (m:Nat)),some (.str (S sg)),some (.str (S [qs])),some (.ref B),o8,o9,qx,gM,none])/\Kt H4 H'/\Y7 H' ak/\Y0 H' aq/\Xr H' au,⟨⟨_,_,_,_,rfl⟩,Yo (.refl _),Y7.keep (.inl hTE) (s3.trans s4),Y0.keep (.inl hTS) (s3.trans s4),Xr.keep (.inl hTN) (s3.trans s4)⟩,(fun i σ H' _ ⟨_,k,_⟩=>ao.of (k.lst uF)),?_,?_⟩
  ·rintro i x σ H5 hx ⟨⟨o8,o9,qx,gM,rfl⟩,k5,te5,qy,zQ⟩
   rw [Ξ] at hx
   obtain ⟨t,ht',rfl⟩:=ο.mp hx;obtain ⟨sh,v,O,us,sk,d,e1,e2,e3,e4,e5,e6⟩:=(hrw t (Τ ht')).kt k5;refine ⟨t,_,rfl,aA.of e1,rfl,_,_,rfl,_,_,rfl,_,_,rfl,rfl,?_⟩;refine Yq fun R rr=>?_
   walk_at "rd";refine ⟨.ref B,sh,v,lo,sg,sk,d,rfl,e2,te5,qy,zQ,qt,qu,qw,e3,fun H6 k6 te6 uV uW=>⟨_,rfl,YH (by decide) (rr _ _ ?_)⟩⟩;refine WT (fun σ H'=>(∃ gM,σ=[some (.ref a),some (.int lo),some (.str (S LT)),some (.int (f:Nat)),some (.int (m:Nat)),some (.str (S sg)),some (.str (S [qs])),some (.ref B),some (.ref sh),some v,some (.ref O),gM,none])/\Kt H5 H'/\Y7 H' ak/\Y0 H' aq/\Xr H' au) ?_ ?_
   ·intro N hN
    refine Qp (a:=O) (xs:=us) (fun j σ H'=>(∃ gM,σ=[some (.ref a),some (.int lo),some (.str (S LT)),some (.int (f:Nat)),some (.int (m:Nat)),some (.str (S sg)),some (.str (S [qs])),some (.ref B),some (.ref sh),some v,some (.ref O),gM,none])/\Kt H5 H'/\Y7 H' ak/\Y0 H' aq/\Xr H' au) (fun R r=>by walk_at "rd";exact r) ⟨⟨_,rfl⟩,k6,te6,uV,uW⟩ (fun j σ H' _ ⟨_,k,_⟩=>ao.of (k.lst e4)) ?_ ?_
    ·rintro j u σ H7 hu ⟨⟨gM,rfl⟩,k7,te7,qz,zR⟩
     obtain ⟨f1,f2⟩:=e6 u (Τ hu);walk_at "rd";refine ⟨a,ns,4,rfl,Iw ((ql.trans k5).trans k7) hS,hl,_,rfl,by decide,?_⟩;refine ⟨.ref B,sh,_,u,lo,sg,sk,rfl,e2.tp (YT k7),te7,qz,qt,f1.kt k7,f2.kt k7,fun H8 k8 te8 qC=>⟨_,rfl,YH (by decide) ?_⟩⟩;exact ⟨k7.trans (k8.kt te7.aH qz.aH),te8,qC,zR.k2 k8 te7.aH qz.aH qu qw⟩
    ·rintro σ H' h
     exact hN _ _ h
   rintro σ H7 ⟨⟨gM,rfl⟩,k7,te7,qz,zR⟩;walk_at "rd";exact ⟨.ref B,sh,v,lo,sg,sk,d,rfl,e2.tp (YT k7),te7,qz,zR,qt,qu,qw,e3.kt k7,fun H8 k8 te8 qC um=>⟨_,rfl,YH (by decide) ⟨(k5.trans k7).trans k8,te8,qC,um⟩⟩⟩
  ·rintro σ H' ⟨h1,k,te',ts',tn'⟩
   exact hN _ _ ⟨h1,ql.trans k,te',ts',tn'⟩
 rintro σ H5 ⟨⟨o8,o9,qx,gM,rfl⟩,k5,te5,qy,zQ⟩;refine Yq fun R rr=>?_
 walk_at "rd";refine ⟨few (by decide),fun D gD=>rr _ _ (Yq fun R rr=>?_)⟩;have sD:=Yd.aj gD (.lst [.int lo,.int (lo - 1)]);walk_at "rd";refine ⟨few (by decide),fun w gw=>⟨few (by decide),fun sh gs=>rr _ _ (Yq fun R rr=>?_)⟩⟩;have sw:=Yd.aj gw (.tup [.str "whole",.int lo,.int (lo+9)]);have ss:=Yd.aj gs (.tup [.str "many",.ref w]);have sA:=sD.trans (sw.trans ss);have hD:_=some (HO.lst [.int lo,.int (lo - 1)]):=(sw.trans ss) _ _ (Yb (H:=H5) (a:=D) (o := .lst [.int lo,.int (lo - 1)]));have hw:_=some (HO.tup (eZ lo)):=ss _ _ Yb;have hs:_=some (HO.tup [.str "many",.ref w]):=Yb (H:=upd (upd H5 D (.lst [.int lo,.int (lo - 1)])) w (.tup [.str "whole",.int lo,.int (lo+9)])) (a:=sh) (o := .tup [.str "many",.ref w]);walk_at "rd";refine ⟨.ref B,sh,false,.ref D,lo,sg,.my,rfl,⟨_,w,rfl,hs,hw⟩,te5.keep sA,qy.keep sA,qt,zK (rs:=[some (.n 0),none]) rfl hD (.cons VM (.cons (.gn _ (by omega)) .nil)) (by simp) rfl,WR hD (by simp) rfl _ _,fun H8 k8 te8 qC=>⟨_,rfl,YH (by decide) (rr _ _ (Yq fun R rr=>?_))⟩⟩;have qp:=k8.kt (te5.keep sA).aH (qy.keep sA).aH;have um:=(zQ.keep sA).k2 k8 (te5.keep sA).aH (qy.keep sA).aH qu qw;have IV:=qp.lst hD;have hw8:=qp.tup hw;have hs8:=qp.tup hs;walk_at "rd";obtain ⟨e,xM,he2⟩:=U8 (ns.getD 5 0) (j:=10) (by decide);refine ⟨a,ns,5,rfl,Iw ((k5.trans (Yo sA)).trans qp) hS,hl,_,rfl,by decide,_,IV,1,rfl,rr _ _ ?_⟩;rw [xM];have nl:pY H8 (upd H8 D (.lst ([V.int lo,V.int (lo - 1)].set 1 (.int (lo+(e:Nat)))))):=fun b o n h=>by rw [Ye (YW h IV (n _))];exact h
 walk_at "rd";refine ⟨.ref B,sh,.ref D,lo,sg,.my,.l [0,e],rfl,⟨_,w,rfl,nl _ _ (by intro _ z;cases z) hs8,nl _ _ (by intro _ z;cases z) hw8⟩,te8.gK nl,qC.gK nl,um.gK nl,qt,qu,qw,⟨zP,⟨by simp,fun o ho=>?_⟩,(by decide:2<=3),⟨D,trivial,rfl,?_⟩⟩,fun H9 _ _ _ _=>?_⟩
 ·rcases Υ.mp ho with rfl | ho
  ·decide
  ·cases ρ.mp ho;omega
 ·rw [Yb,ofs,ae,ae,dS,show lo+((0:Nat):Int)=lo by omega]
 ·exact q _
theorem kW {α:Type} {us:List α} (h:us.length=1):∃ a0,us=[a0]:=by
 match us,h with
 | [a0],_=>exact ⟨_,rfl⟩
theorem eF {α:Type} {us:List α} (h:us.length=2):∃ a0 a1,us=[a0,a1]:=by
 match us,h with
 | [a0,a1],_=>exact ⟨_,_,rfl⟩
theorem jx {α:Type} {us:List α} (h:us.length=3):∃ a0 a1 a2,us=[a0,a1,a2]:=by
 match us,h with
 | [a0,a1,a2],_=>exact ⟨_,_,_,rfl⟩
theorem u5 {α:Type} {us:List α} (h:us.length=4):∃ a0 a1 a2 a3,us=[a0,a1,a2,a3]:=by
 match us,h with
 | [a0,a1,a2,a3],_=>exact ⟨_,_,_,_,rfl⟩
theorem us5 {α:Type} {us:List α} (h:us.length=5):∃ a0 a1 a2 a3 a4,us=[a0,a1,a2,a3,a4]:=by
 match us,h with
 | [a0,a1,a2,a3,a4],_=>exact ⟨_,_,_,_,_,rfl⟩
structure Top (K:Λ) (mg:Str->Option Α) (Z4:Addr) (Z0:Addr) (Z1:Addr) (Zu:Addr) (Zh:Addr) (Zm:Addr) (Z9:Addr) (Z2:Addr) (bJ aq:Addr) (aQ ak:Addr) (aJ au:Addr):Prop where
 ZZ:∀ P w base,(Gx.mk P w K mg base).Raw "is_whole_number" "is_whole_number" ZU ["thing"]
 zT:∀ P w base,(Gx.mk P w K mg base).Raw "branch_place" "branch_place" xU ["branches","mark"]
 zU:∀ P w base,(Gx.mk P w K mg base).Raw "has_mark" "has_mark" xW ["branches","value"]
 zV:∀ P w base,(Gx.mk P w K mg base).Raw "has_form" "has_form" xX ["shape","value"]
 zW:∀ P w base,(Gx.mk P w K mg base).Raw "things_within" "things_within" xY ["book","shape","value"]
 zX:∀ P w base,(Gx.mk P w K mg base).Raw "sum_of_sizes" "sum_of_sizes" xZ ["keys"]
 zY:∀ P w base,(Gx.mk P w K mg base).Raw "none_ahead" "none_ahead" yc ["keys"]
 zZ:∀ P w base,(Gx.mk P w K mg base).Raw "all_behind" "all_behind" yd ["keys"]
 z6:∀ P w base,(Gx.mk P w K mg base).Raw "groups_by_size" "groups_by_size" yg ["keys"]
 z7:∀ P w base,(Gx.mk P w K mg base).Raw "risen_key" "risen_key" yh ["size","keys"]
 z8:∀ P w base,(Gx.mk P w K mg base).Raw "list_key" "list_key" yp ["shape","keys"]
 z9:∀ P w base,(Gx.mk P w K mg base).Raw "key_made" "key_made" yq ["shape","value","keys"]
 qD:∀ P w base,(Gx.mk P w K mg base).Raw "weighed" "weighed" yr ["book","shape","value"]
 Aa:∀ P w base,(Gx.mk P w K mg base).Raw "key_or_refusal" "key_or_refusal" yt ["book","shape","value"]
 lN:∀ P w base,(Gx.mk P w K mg base).Raw "fits" "fits" yu ["book","shape","value"]
 Ab:∀ P w base,(Gx.mk P w K mg base).Raw "size_of" "size_of" yw ["book","shape","value"]
 Ac:∀ P w base,(Gx.mk P w K mg base).Raw "refuse_no_value" "refuse_no_value" ZW ["book","shape","value"]
 Ad:∀ P w base,(Gx.mk P w K mg base).Raw "whole_steps" "whole_steps" yC ["low","value"]
 Ae:∀ P w base,(Gx.mk P w K mg base).Raw "without_each" "without_each" yD ["things"]
 Af:∀ P w base,(Gx.mk P w K mg base).Raw "with_each_step" "with_each_step" yE ["things","inner"]
 lO:∀ P w base,(Gx.mk P w K mg base).Raw "copied" "copied" Ue ["thing"]
 Ag:∀ P w base,(Gx.mk P w K mg base).iJ "Lister" Z9 "Lister.__init__" ZY ["self","book"]
 ZP:∀ P w base,(Gx.mk P w K mg base).iJ "Stepper" Z2 "Stepper.__init__" ZK ["self","book"]
 Zz:∀ P w base,(Gx.mk P w K mg base).dU Z2 "leasts_ahead" "Stepper.leasts_ahead" Zy ["self","shape","value"]
 ZQ:∀ P w base,(Gx.mk P w K mg base).dU Z2 "steps_by" "Stepper.steps_by" ZL ["self","shape","value","inner"]
 Zi:∀ P w base,(Gx.mk P w K mg base).dU Z2 "steps_from" "Stepper.steps_from" ZC ["self","shape","value"]
 Ah:∀ P w base,(Gx.mk P w K mg base).Raw "steps_of" "steps_of" yF ["book","shape","value"]
 jG:∀ P w base,(Gx.mk P w K mg base).Raw "holds" "holds" U7 ["judge","value"]
 Ai:∀ P w base,(Gx.mk P w K mg base).Raw "first_breach" "first_breach" yG ["judge","values"]
 Aj:∀ P w base,(Gx.mk P w K mg base).Raw "shrunk_by" "shrunk_by" yH ["judge","value","values_next"]
 iU:∀ P w base,(Gx.mk P w K mg base).dW "shrunk" "shrunk" pD ["book","shape","judge","value"] bJ
 Ak:∀ P w base,(Gx.mk P w K mg base).Raw "at_rest" "at_rest" yI ["book","shape","judge","value"]
 Al:∀ P w base,(Gx.mk P w K mg base).Raw "_law_cell_at" "_law_cell_at" yJ ["_law_script","_law_k"]
 Am:∀ P w base,(Gx.mk P w K mg base).dW "_law_error" "_law_error" pF ["_law_way","_law_book","_law_shape","_law_answer","_law_value"] aQ
 Ao:∀ P w base,(Gx.mk P w K mg base).Raw "_law_above" "_law_above" yL ["_law_error_here"]
 Aq:∀ P w base,(Gx.mk P w K mg base).Raw "_law_is_refused" "_law_is_refused" yM ["_law_book","_law_shape","_law_answer","_law_value"]
 Ar:∀ P w base,(Gx.mk P w K mg base).dW "_law_is_taken" "_law_is_taken" Zt ["_law_book","_law_shape","_law_value"] aJ
 Av:∀ P w base,(Gx.mk P w K mg base).Raw "_law_rows" "_law_rows" yK ["_law_low","_law_signs","_law_strange"]
 mQ:Cls K Z9
 ZF:YY K Z9 "book"
 Zx:YY K Z9 "makers"
 Z7:Cls K Z2
 Z5:YY K Z2 "book"
 Z6:YY K Z2 "lister"
 jO:∀ P w base,(Gx.mk P w K mg base).kZ "OF_ONE_PART" ([.str "many",.str "rising",.str "unlike"])
 ZO:mg "ValueError"=none
 cW:mg "all"=none
 gG:mg "bool"=none
 dz:mg "dict"=none
 Zs:mg "enumerate"=none
 jl:mg "int"=none
 Z3:mg "isinstance"=none
 aP:mg "len"=none
 aW:mg "list"=none
 Zv:mg "range"=none
 eH:mg "str"=none
 jo:mg "sum"=none
 Z8:mg "tuple"=none
 cX:mg "zip"=none
 bL:mg "CountError"=some (.ref Z4)
 cC:mg "NoValue"=some (.ref Z0)
 bD:mg "NoBreach"=some (.ref Z1)
 dZ:mg "NoDraw"=some (.ref Zu)
 cZ:mg "NoNumber"=some (.ref Zh)
 dD:mg "TooMany"=some (.ref Zm)
 cY:W.excIn K Z1 WM "ValueError.__new__"=true
 aM:cQ K Z1
 aN:cQ K Z0
 fK:∀ P w base,(Gx.mk P w K mg base).iK "NoValue" Z0 "NoValue.__init__" ZM ["self","value"]
 fL:lq K Z0 Z4
 bK:c6 K (.ref Z0) "value"=some none
 dF:∀ P w base,j6 (Gx.mk P w K mg base) "CountError" Z4
 aZ:aw K (.ref Z1) (.ref Z4)=some true
 aO:aw K (.ref Z1) (.ref Z1)=some true
 bV:aw K (.ref Z1) (.ref Zu)=some false
 bI:aw K (.ref Z1) (.ref Zh)=some false
 bQ:aw K (.ref Z1) (.ref Z0)=some false
 bN:aw K (.ref Z1) (.ref Zm)=some false
 bf:aw K (.ref Z1) (.type "ValueError")=some true
 bG:aw K (.ref Z0) (.ref Z4)=some true
 bO:aw K (.ref Z0) (.ref Z1)=some false
 bZ:aw K (.ref Z0) (.ref Zu)=some false
 bM:aw K (.ref Z0) (.ref Zh)=some false
 aR:aw K (.ref Z0) (.ref Z0)=some true
 bU:aw K (.ref Z0) (.ref Zm)=some false
 bH:aw K (.ref Z0) (.type "ValueError")=some true
 bF:ix K (.ref Z0) (.ref Z4)=some true
 aY:ix K (.ref Z1) (.ref Z4)=some true
theorem Yey {K:Λ} {mg:Str->Option Α} {Z4 Z0 Z1 Zu Zh Zm Z9 Z2:Addr} {bJ aq:Addr} {aQ ak:Addr} {aJ au:Addr}  (t:Top K mg Z4 Z0 Z1 Zu Zh Zm Z9 Z2 bJ aq aQ ak aJ au) (P:Ψ) (w:θ) (base:Heap) (hB:Bm mg base) (qF:iA base bJ aq) (lQ:iA base aQ ak) (jy:iA base aJ au) (hnd:([aq,ak,au]:List Addr).Nodup) :
  Ua (Gx.mk P w K mg base) 64 ["_law_script","_law_low","_law_some","_law_first","_law_many","_law_signs","_law_strange","_law_book","_law_shape","_law_value","_law_odd","_law_thing","_law_things"] "law" QZ (VR K [("shrunk",bJ,aq),("_law_error",aQ,ak),("_law_is_taken",aJ,au)]):=by
 have Z1P:=Z1w (g:=Gx.mk P w K mg base) (t.fK P w base) (t.dF P w base) t.fL t.bK;have Z1X:=Z1G (t.ZZ P w base) t.gG t.jl t.Z3;have ZT:=Z2c (t.zT P w base) t.Zs;have oh:=YaZ (k:=1) (t.zU P w base) (ZT.mono (by decide)) t.Z3 t.aP t.eH t.Z8;have IW:=Ya0 (k:=2) (t.zV P w base) (Z1X.mono (by decide)) (oh.mono (by decide)) t.cW t.Z3 t.aP t.aW t.eH t.Z8 (t.jO P w base);have ZI:=Z23 (k:=1) (t.zW P w base) (ZT.mono (by decide)) t.aW t.cX (t.jO P w base);have Ja:=Z2d (t.zX P w base) t.jo;have lR:=QL (t.zY P w base) t.cW t.cX;have lU:=QM (t.zZ P w base) t.cW t.cX;have Z26:=Z1S (t.z6 P w base) t.aP;have lZ:=YaC (k:=1) (t.z7 P w base) (Z26.mono (by decide)) t.aP t.Z8;have ou:=Ya1 (k:=2) (t.z8 P w base) (Ja.mono (by decide)) (lR.mono (by decide)) (lU.mono (by decide)) (lZ.mono (by decide)) t.aP t.Z8;have Jb:=Ya2 (k:=3) (t.z9 P w base) (ZT.mono (by decide)) (Ja.mono (by decide)) (ou.mono (by decide)) t.aP t.Z8;have mj:=G3 (m:=0) (k:=4) (t.qD P w base) (IW.mono (by decide)) (ZI.mono (by decide)) (Jb.mono (by decide)) ((t.qD P w base).none (fun _ _ _ _ h=>Ych h));have jQ:=G3 (m:=1) (k:=5) (t.qD P w base) (IW.mono (by decide)) (ZI.mono (by decide)) (Jb.mono (by decide)) (mj.mono (by decide));have Z27:=Z1T (k:=6) (t.Aa P w base) (jQ.mono (by decide));have qG:=YfN (k:=6) (t.lN P w base) (jQ.mono (by decide));have qH:=Yci (k:=7) (t.Ab P w base) (Z27.mono (by decide));have Aw:=Z1I (k:=7) (Z0:=Z0) (t.Ac P w base) (qG.mono (by decide)) Z1P (by decide);have jW:=Z2n (t.Ad P w base);have Z2p:=Z2f (t.Ae P w base) t.aP t.Zv;have Z28:=Z1U (t.Af P w base) t.Zs;have oA:=uL (m:=0) (k:=0) (t.lO P w base) ((t.lO P w base).none (fun _ _ _ _ h=>Yds h)) t.dz t.Z3 t.aW t.Z8;have oE:=uL (m:=1) (k:=1) (t.lO P w base) (oA.mono (by decide)) t.dz t.Z3 t.aW t.Z8;have oF:=uL (m:=2) (k:=2) (t.lO P w base) (oE.mono (by decide)) t.dz t.Z3 t.aW t.Z8;have iV:=uL (m:=3) (k:=3) (t.lO P w base) (oF.mono (by decide)) t.dz t.Z3 t.aW t.Z8;have Z1Y:=Z1K (Z9:=Z9) (t.Ag P w base) t.mQ t.ZF t.Zx;have Z1Q:=Z1x (k:=2) (Z9:=Z9) (Z2:=Z2) (t.ZP P w base) Z1Y (by decide) t.Z7 t.Z5 t.Z6;have Z1c:=Z0Y (k:=8) (Z2:=Z2) (t.Zz P w base) (ZT.mono (by decide)) (qH.mono (by decide)) t.Z7 t.Z5 t.Z6;have Jc:=Z1y (k:=9) (Z2:=Z2) (t.ZQ P w base) (qG.mono (by decide)) (jW.mono (by decide)) (Z2p.mono (by decide)) (Z28.mono (by decide)) (Z1c.mono (by decide)) t.aW t.Z8 t.Z7 t.Z5 t.Z6;have Z1d:=Ho (m:=0) (k:=10) (Z2:=Z2) (t.Zi P w base) (ZI.mono (by decide)) ((t.Zi P w base).none (fun _ _ _ _ h=>Bs h)) (Jc.mono (by decide)) t.Z7 t.Z5 t.Z6;have Z1t:=Ho (m:=1) (k:=11) (Z2:=Z2) (t.Zi P w base) (ZI.mono (by decide)) (Z1d.mono (by decide)) (Jc.mono (by decide)) t.Z7 t.Z5 t.Z6;have u9:=Ya3 (k:=12) (Z0:=Z0) (Z2:=Z2) (t.Ah P w base) (iV.mono (by decide)) (Aw.mono (by decide)) Z1Q (by decide) (Z1t.mono (by decide)) t.Z7 t.Z5 t.Z6;have mZ:=Yes (k:=45) (t.jG P w base) (iV.mono (by decide)) (by decide);have Jd:=Z2i (k:=46) (t.Ai P w base) (mZ.mono (by decide));have mq:=YaE (k:=60) (Z1:=Z1) (t.Aj P w base) (iV.mono (by decide)) (Jd.mono (by decide)) (by decide) t.bD t.cY;have lV:=Ydz (k:=61) (Z0:=Z0) (Z1:=Z1) (bJ:=bJ) (aq:=aq) (t.iU P w base) hB qF (Aw.mono (by decide)) (u9.mono (by decide)) (mq.mono (by decide));have jR:=Ycl (k:=47) (Z0:=Z0) (t.Ak P w base) (Aw.mono (by decide)) (mZ.mono (by decide)) (u9.mono (by decide)) (Jd.mono (by decide));have jX:=Z2o (t.Al P w base) t.aP;have Je:=YaH (k:=62) (Z4:=Z4) (Z0:=Z0) (Z1:=Z1) (aq:=aq) (aQ:=aQ) (ak:=ak) (t.Am P w base) hB lQ (u9.mono (by decide)) (lV.mono (by decide)) (jR.mono (by decide)) t.bL t.bF t.aY;have Jf:=YaI (Z4:=Z4) (Z0:=Z0) (Z1:=Z1) (Zu:=Zu) (Zh:=Zh) (Zm:=Zm) (t.Ao P w base) t.ZO t.Z3 t.bL t.bD t.dZ t.cZ t.cC t.dD t.aM t.aN t.bG t.bH t.bZ t.bM t.bU t.aZ t.bf t.bV t.bI t.bN t.aR t.bO t.aO t.bQ;have Z29:=Z1W (k:=63) (Z0:=Z0) (Z1:=Z1) (aq:=aq) (ak:=ak) (t.Aq P w base) (Je.mono (by decide)) (Jf.mono (by decide)) t.bK t.Z3 t.Zv t.cC t.aM t.aN t.aR;have Z2q:=Z2j (k:=63) (Z0:=Z0) (Z1:=Z1) (aq:=aq) (ak:=ak) (aJ:=aJ) (au:=au) (t.Ar P w base) hB jy (u9.mono (by decide)) (lV.mono (by decide)) (jR.mono (by decide)) (Je.mono (by decide)) (Jf.mono (by decide)) t.Z3 t.aP t.aW t.bD t.aM t.aN t.aO;have oG:=Ya4 (t.Av P w base);exact Yex (g:=Gx.mk P w K mg base) (k:=64) (jX.mono (by decide)) (oG.mono (by decide)) (Z29.mono (by decide)) (Z2q.mono (by decide)) t.Zv hnd
end KW
namespace PySem.W.Fast
theorem tw367850997397389995:True:=⟨⟩
theorem tw5604730468328578510:True:=⟨⟩
theorem tw10687651529970929766:True:=⟨⟩
theorem tw7099317726860767211:True:=⟨⟩
theorem tw4196076703967909098:True:=⟨⟩
theorem tw6057617878590095554:True:=⟨⟩
theorem tw6254811679678072941:True:=⟨⟩
theorem tw6499941445825848609:True:=⟨⟩
theorem tw4393526363386104953:True:=⟨⟩
theorem tw2242715478746787998:True:=⟨⟩
theorem tw13333283025515621013:True:=⟨⟩
theorem tw1337716403394130525:True:=⟨⟩
theorem tw1366172573574931014:True:=⟨⟩
theorem tw17812951327557844052:True:=⟨⟩
theorem tw17588239743334846479:True:=⟨⟩
theorem tw17158334068637264926:True:=⟨⟩
theorem tw5011988503309276156:True:=⟨⟩
theorem tw15122920666538017255:True:=⟨⟩
theorem tw13572953174116929362:True:=⟨⟩
theorem tw5308183331192441510:True:=⟨⟩
theorem tw6606471076499392188:True:=⟨⟩
theorem tw7212491391088845687:True:=⟨⟩
theorem tw14646749782724814241:True:=⟨⟩
theorem tw12715483274785520705:True:=⟨⟩
theorem tw40188591528442594:True:=⟨⟩
theorem tw18061732289202486674:True:=⟨⟩
theorem tw14532611437408335265:True:=⟨⟩
theorem tw1866399037380614033:True:=⟨⟩
theorem tw13911200385229954878:True:=⟨⟩
theorem tw7775952364135057130:True:=⟨⟩
theorem tw15000756509691400122:True:=⟨⟩
theorem tw644316336975382585:True:=⟨⟩
theorem tw8027460343980336336:True:=⟨⟩
theorem tw18186692194426887849:True:=⟨⟩
theorem tw13426143475762947390:True:=⟨⟩
theorem tw2534511261389256820:True:=⟨⟩
theorem tw3741464303587250292:True:=⟨⟩
theorem tw8214387165608647599:True:=⟨⟩
theorem tw10186473084098437426:True:=⟨⟩
theorem tw6216942169842215172:True:=⟨⟩
theorem tw10573113272355327406:True:=⟨⟩
theorem tw4973610622111045455:True:=⟨⟩
theorem tw14383483267537752379:True:=⟨⟩
theorem tw14531471113033512170:True:=⟨⟩
theorem tw3538349767057006493:True:=⟨⟩
theorem tw9670963855185418613:True:=⟨⟩
theorem tw8935033633180885699:True:=⟨⟩
theorem tw10316335006271861761:True:=⟨⟩
theorem tw7868768860153943716:True:=⟨⟩
theorem tw6977832136580082114:True:=⟨⟩
theorem tw1153673159965477125:True:=⟨⟩
theorem tw5427229421690593730:True:=⟨⟩
theorem tw1387915615840991196:True:=⟨⟩
theorem tw8214358382000664691:True:=⟨⟩
theorem tw13623101989444922803:True:=⟨⟩
theorem tw8711892147891809534:True:=⟨⟩
theorem tw17237207247864867749:True:=⟨⟩
theorem tw7856892188270357902:True:=⟨⟩
theorem tw14470806189283231746:True:=⟨⟩
theorem tw7319132910499560319:True:=⟨⟩
theorem tw15054417458356132476:True:=⟨⟩
theorem tw6039462875611542130:True:=⟨⟩
theorem tw14384350684879020889:True:=⟨⟩
theorem tw6420199792058143426:True:=⟨⟩
theorem tw13445165105700294818:True:=⟨⟩
theorem tw13195528761543899529:True:=⟨⟩
theorem tw6134857036621069574:True:=⟨⟩
theorem tw4470464711982758873:True:=⟨⟩
theorem tw5173529132122275229:True:=⟨⟩
theorem tw13735564470149413440:True:=⟨⟩
theorem tw15104265320777259475:True:=⟨⟩
theorem tw3580907953879856618:True:=⟨⟩
theorem tw3568566469515365451:True:=⟨⟩
theorem tw3855211944969453090:True:=⟨⟩
theorem tw1286018800010466685:True:=⟨⟩
theorem tw802465223096833189:True:=⟨⟩
theorem tw13385400007682362735:True:=⟨⟩
theorem tw6554789915727583173:True:=⟨⟩
theorem tw9161141113777935493:True:=⟨⟩
theorem tw12767461221175224327:True:=⟨⟩
theorem tw1607584783115710795:True:=⟨⟩
theorem tw15300021142114981457:True:=⟨⟩
theorem tw7667115811791771609:True:=⟨⟩
theorem tw4457204183787368844:True:=⟨⟩
theorem tw17216069835352961961:True:=⟨⟩
theorem tw5271568216104750020:True:=⟨⟩
theorem tw14912868848692424641:True:=⟨⟩
theorem tw6032443057581414169:True:=⟨⟩
theorem tw6987485048712382159:True:=⟨⟩
theorem tw13965279097312176672:True:=⟨⟩
theorem tw14472206084604419123:True:=⟨⟩
theorem tw10217823870921861534:True:=⟨⟩
theorem tw9490869016893059395:True:=⟨⟩
theorem tw7733873642775765418:True:=⟨⟩
theorem tw16747090201198179495:True:=⟨⟩
theorem tw17404884035931432451:True:=⟨⟩
theorem tw16993016672795068034:True:=⟨⟩
theorem tw3661268608372391928:True:=⟨⟩
theorem tw9932472882482801704:True:=⟨⟩
theorem tw17544448564621774504:True:=⟨⟩
theorem tw11367690556983120622:True:=⟨⟩
theorem tw3976297203140570004:True:=⟨⟩
theorem tw14839117351680998270:True:=⟨⟩
theorem tw5362185004046971406:True:=⟨⟩
theorem tw11542722093996808452:True:=⟨⟩
theorem tw8245491598685609078:True:=⟨⟩
theorem tw1817972265774486133:True:=⟨⟩
theorem tw11505443693209497817:True:=⟨⟩
theorem tw5385948109128775306:True:=⟨⟩
theorem tw1601467612512136060:True:=⟨⟩
theorem tw11720447589728704424:True:=⟨⟩
theorem tw3290358819804311340:True:=⟨⟩
theorem tw3305542846661808675:True:=⟨⟩
theorem tw12360078587017801504:True:=⟨⟩
theorem tw15965331597486704021:True:=⟨⟩
theorem tw3652400527482248569:True:=⟨⟩
theorem tw1497543454069706332:True:=⟨⟩
theorem tw18216347035633128144:True:=⟨⟩
theorem tw5172257595290214437:True:=⟨⟩
theorem tw13946750467801479099:True:=⟨⟩
theorem tw15567257380134357731:True:=⟨⟩
theorem tw773176765413784360:True:=⟨⟩
theorem tw2117169232147571780:True:=⟨⟩
theorem tw11473923539852979945:True:=⟨⟩
theorem tw9477255370094829091:True:=⟨⟩
theorem tw17486303717950294336:True:=⟨⟩
theorem tw15214119734243859984:True:=⟨⟩
theorem tw9232706653477094688:True:=⟨⟩
theorem tw4686550018815778825:True:=⟨⟩
theorem tw15094879608633684291:True:=⟨⟩
theorem tw1503096799637879339:True:=⟨⟩
theorem tw11875217696829657797:True:=⟨⟩
theorem tw14646827375061502578:True:=⟨⟩
theorem tw14536635310840254327:True:=⟨⟩
theorem tw11132186754357929893:True:=⟨⟩
theorem tw14057002759584413086:True:=⟨⟩
theorem tw12457936163200441140:True:=⟨⟩
theorem tw11469486590669539764:True:=⟨⟩
theorem tw83689022454638124:True:=⟨⟩
theorem tw16824403918690442297:True:=⟨⟩
theorem tw8183285171473166054:True:=⟨⟩
theorem tw4691522671970384563:True:=⟨⟩
theorem tw11038049048943359406:True:=⟨⟩
theorem tw2212024776742178955:True:=⟨⟩
theorem tw12118104847564932606:True:=⟨⟩
theorem tw2578721994841625915:True:=⟨⟩
theorem tw9348018082966878356:True:=⟨⟩
theorem tw10408321986326126948:True:=⟨⟩
theorem tw4860928520818448789:True:=⟨⟩
theorem tw4522379551987518792:True:=⟨⟩
theorem tw5754774113193255233:True:=⟨⟩
theorem tw15016646672018579938:True:=⟨⟩
theorem tw16189547274299303341:True:=⟨⟩
theorem tw14808975419770928072:True:=⟨⟩
theorem tw11175755773014577232:True:=⟨⟩
theorem tw6383173610867643456:True:=⟨⟩
theorem tw14415461726047377720:True:=⟨⟩
end PySem.W.Fast
open PySem PySem.W PyProof.Rows
set_option maxRecDepth 100000 in
set_option maxHeartbeats 0 in
theorem PySem.Challenge.cw_countgen_k77_refused_holds : PySem.Challenge.rw_countgen_k77_refused.Holds := by
 w_on;o_law;k_head;(case hw=>w_witness2)
 k_fill
 refine' L2.RT (l:=PySem.Challenge.rw_countgen_k77_refused) (tabs:=[("shrunk",930,926),("_law_error",958,954),("_law_is_taken",979,975)]) 64 "_law_script" KW.QZ ["_law_script","_law_low","_law_some","_law_first","_law_many","_law_signs","_law_strange","_law_book","_law_shape","_law_value","_law_odd","_law_thing","_law_things"] rfl rfl ⟨rfl,by decide,by decide,rfl⟩ KW.Xw (fun w h Y=>by first | exact PySem.W.kIn_of Y | exact PySem.W.km_in_of Y) ?tR ?tT ?tN ?F
 case tR=>intro p hp;simp only [Υ,ι,or_false] at hp;rcases hp with rfl | rfl | rfl<;>exact ⟨_,rfl⟩
 case tT=>intro w p hp;simp only [Υ,ι,or_false] at hp;rcases hp with rfl | rfl | rfl<;>kernel_rfl
 case tN=>intro w p hp;simp only [Υ,ι,or_false] at hp;rcases hp with rfl | rfl | rfl<;>kernel_rfl
 case F =>
  intro w mg h KX G;refine' ⟨L2.Nq KX G ?a ?l ?c ?k (fun _ _ _ _ _ _ _ _ => .of_eq rfl),fun base hB hC=>KW.Yey ⟨?ZZ,?zT,?zU,?zV,?zW,?zX,?zY,?zZ,?z6,?z7,?z8,?z9,?qD,?Aa,?lN,?Ab,?Ac,?Ad,?Ae,?Af,?lO,?Ag,?ZP,?Zz,?ZQ,?Zi,?Ah,?jG,?Ai,?Aj,?iU,?Ak,?Al,?Am,?Ao,?Aq,?Ar,?Av,?mQ,?ZF,?Zx,?Z7,?Z5,?Z6,?jO,?ZO,?cW,?gG,?dz,?Zs,?jl,?Z3,?aP,?aW,?Zv,?eH,?jo,?Z8,?cX,?bL,?cC,?bD,?dZ,?cZ,?dD,?cY,?aM,?aN,?fK,?fL,?bK,?dF,?aZ,?aO,?bV,?bI,?bQ,?bN,?bf,?bG,?bO,?bZ,?bM,?aR,?bU,?bH,?bF,?aY⟩ _ w base hB (hC _ (.head _)) (hC _ (.tail _ (.head _))) (hC _ (.tail _ (.tail _ (.head _)))) (by decide)⟩;(case a=>k_is);(case l=>k_is);(case c=>k_is);(case k=>k_is)
  case Ag | ZP=>refine' L2.Np KX G ["self","book"] ?_ ?_ ?_ ?_ ?_ ?_ ?_ ?_ (fun _ _ _ _ _ _ us hl=>by obtain ⟨_,_,rfl⟩:=KW.eF hl;rfl)<;>try k_is
  case ZZ=>refine' L2.YZ KX G ["thing"] ?_ ?_ ?_ ?_ (fun _ _ _ _ _ _ us hl=>by obtain ⟨_,rfl⟩:=KW.kW hl;rfl)<;>try k_is
  case zT=>refine' L2.YZ KX G ["branches","mark"] ?_ ?_ ?_ ?_ (fun _ _ _ _ _ _ us hl=>by obtain ⟨_,_,rfl⟩:=KW.eF hl;rfl)<;>try k_is
  case zU=>refine' L2.YZ KX G ["branches","value"] ?_ ?_ ?_ ?_ (fun _ _ _ _ _ _ us hl=>by obtain ⟨_,_,rfl⟩:=KW.eF hl;rfl)<;>try k_is
  case zV=>refine' L2.YZ KX G ["shape","value"] ?_ ?_ ?_ ?_ (fun _ _ _ _ _ _ us hl=>by obtain ⟨_,_,rfl⟩:=KW.eF hl;rfl)<;>try k_is
  case zW=>refine' L2.YZ KX G ["book","shape","value"] ?_ ?_ ?_ ?_ (fun _ _ _ _ _ _ us hl=>by obtain ⟨_,_,_,rfl⟩:=KW.jx hl;rfl)<;>try k_is
  case zX | zY | zZ | z6=>refine' L2.YZ KX G ["keys"] ?_ ?_ ?_ ?_ (fun _ _ _ _ _ _ us hl=>by obtain ⟨_,rfl⟩:=KW.kW hl;rfl)<;>try k_is
  case z7=>refine' L2.YZ KX G ["size","keys"] ?_ ?_ ?_ ?_ (fun _ _ _ _ _ _ us hl=>by obtain ⟨_,_,rfl⟩:=KW.eF hl;rfl)<;>try k_is
  case z8=>refine' L2.YZ KX G ["shape","keys"] ?_ ?_ ?_ ?_ (fun _ _ _ _ _ _ us hl=>by obtain ⟨_,_,rfl⟩:=KW.eF hl;rfl)<;>try k_is
  case z9=>refine' L2.YZ KX G ["shape","value","keys"] ?_ ?_ ?_ ?_ (fun _ _ _ _ _ _ us hl=>by obtain ⟨_,_,_,rfl⟩:=KW.jx hl;rfl)<;>try k_is
  case qD | Aa | lN | Ab | Ac=>refine' L2.YZ KX G ["book","shape","value"] ?_ ?_ ?_ ?_ (fun _ _ _ _ _ _ us hl=>by obtain ⟨_,_,_,rfl⟩:=KW.jx hl;rfl)<;>try k_is
  case Ad=>refine' L2.YZ KX G ["low","value"] ?_ ?_ ?_ ?_ (fun _ _ _ _ _ _ us hl=>by obtain ⟨_,_,rfl⟩:=KW.eF hl;rfl)<;>try k_is
  case Ae=>refine' L2.YZ KX G ["things"] ?_ ?_ ?_ ?_ (fun _ _ _ _ _ _ us hl=>by obtain ⟨_,rfl⟩:=KW.kW hl;rfl)<;>try k_is
  case Af=>refine' L2.YZ KX G ["things","inner"] ?_ ?_ ?_ ?_ (fun _ _ _ _ _ _ us hl=>by obtain ⟨_,_,rfl⟩:=KW.eF hl;rfl)<;>try k_is
  case lO=>refine' L2.YZ KX G ["thing"] ?_ ?_ ?_ ?_ (fun _ _ _ _ _ _ us hl=>by obtain ⟨_,rfl⟩:=KW.kW hl;rfl)<;>try k_is
  case Zz=>refine' L2.US KX G ["self","shape","value"] ?_ ?_ ?_ ?_ ?_ (fun _ _ _ _ _ _ us hl=>by obtain ⟨_,_,_,rfl⟩:=KW.jx hl;rfl)<;>try k_is
  case ZQ=>refine' L2.US KX G ["self","shape","value","inner"] ?_ ?_ ?_ ?_ ?_ (fun _ _ _ _ _ _ us hl=>by obtain ⟨_,_,_,_,rfl⟩:=KW.u5 hl;rfl)<;>try k_is
  case Zi=>refine' L2.US KX G ["self","shape","value"] ?_ ?_ ?_ ?_ ?_ (fun _ _ _ _ _ _ us hl=>by obtain ⟨_,_,_,rfl⟩:=KW.jx hl;rfl)<;>try k_is
  case Ah=>refine' L2.YZ KX G ["book","shape","value"] ?_ ?_ ?_ ?_ (fun _ _ _ _ _ _ us hl=>by obtain ⟨_,_,_,rfl⟩:=KW.jx hl;rfl)<;>try k_is
  case jG=>refine' L2.YZ KX G ["judge","value"] ?_ ?_ ?_ ?_ (fun _ _ _ _ _ _ us hl=>by obtain ⟨_,_,rfl⟩:=KW.eF hl;rfl)<;>try k_is
  case Ai=>refine' L2.YZ KX G ["judge","values"] ?_ ?_ ?_ ?_ (fun _ _ _ _ _ _ us hl=>by obtain ⟨_,_,rfl⟩:=KW.eF hl;rfl)<;>try k_is
  case Aj=>refine' L2.YZ KX G ["judge","value","values_next"] ?_ ?_ ?_ ?_ (fun _ _ _ _ _ _ us hl=>by obtain ⟨_,_,_,rfl⟩:=KW.jx hl;rfl)<;>try k_is
  case iU =>
   refine' L2.U3 KX G ["book","shape","judge","value"] ?a ?l ?c ?k ?e (fun _ _ _ _ _ _ us hl=>by obtain ⟨_,_,_,_,rfl⟩:=KW.u5 hl;rfl);(case a=>k_is);(case l=>k_is);(case c=>k_is);(case k=>k_is);(case e=>rfl)
  case Ak=>refine' L2.YZ KX G ["book","shape","judge","value"] ?_ ?_ ?_ ?_ (fun _ _ _ _ _ _ us hl=>by obtain ⟨_,_,_,_,rfl⟩:=KW.u5 hl;rfl)<;>try k_is
  case Al=>refine' L2.YZ KX G ["_law_script","_law_k"] ?_ ?_ ?_ ?_ (fun _ _ _ _ _ _ us hl=>by obtain ⟨_,_,rfl⟩:=KW.eF hl;rfl)<;>try k_is
  case Am =>
   refine' L2.U3 KX G ["_law_way","_law_book","_law_shape","_law_answer","_law_value"] ?a ?l ?c ?k ?e (fun _ _ _ _ _ _ us hl=>by obtain ⟨_,_,_,_,_,rfl⟩:=KW.us5 hl;rfl);(case a=>k_is);(case l=>k_is);(case c=>k_is);(case k=>k_is);(case e=>rfl)
  case Ao=>refine' L2.YZ KX G ["_law_error_here"] ?_ ?_ ?_ ?_ (fun _ _ _ _ _ _ us hl=>by obtain ⟨_,rfl⟩:=KW.kW hl;rfl)<;>try k_is
  case Aq=>refine' L2.YZ KX G ["_law_book","_law_shape","_law_answer","_law_value"] ?_ ?_ ?_ ?_ (fun _ _ _ _ _ _ us hl=>by obtain ⟨_,_,_,_,rfl⟩:=KW.u5 hl;rfl)<;>try k_is
  case Ar =>
   refine' L2.U3 KX G ["_law_book","_law_shape","_law_value"] ?a ?l ?c ?k ?e (fun _ _ _ _ _ _ us hl=>by obtain ⟨_,_,_,rfl⟩:=KW.jx hl;rfl);(case a=>k_is);(case l=>k_is);(case c=>k_is);(case k=>k_is);(case e=>rfl)
  case Av=>refine' L2.YZ KX G ["_law_low","_law_signs","_law_strange"] ?_ ?_ ?_ ?_ (fun _ _ _ _ _ _ us hl=>by obtain ⟨_,_,_,rfl⟩:=KW.jx hl;rfl)<;>try k_is
  case mQ=>refine' ⟨?_,?_,?_,?_⟩<;>try k_is
  case ZF | Zx=>refine' L2.Qs ?_<;>try k_is
  case Z7=>refine' ⟨?_,?_,?_,?_⟩<;>try k_is
  case Z5 | Z6=>refine' L2.Qs ?_<;>try k_is
  case jO =>
   refine' L2.N6 KX G ?a ?l ?z ?r;(case a=>k_is);(case l=>k_is);(case z=>decide);(case r=>exact (.cons ⟨_,rfl⟩ (.cons ⟨_,rfl⟩ (.cons ⟨_,rfl⟩ .nil))))
  case ZO | cW | gG | dz | Zs | jl | Z3 | aP | aW | Zv | eH | jo | Z8 | cX=>refine' PySem.W.mg_none_of KX G ?_<;>try k_is
  case bL | cC | bD | dZ | cZ | dD=>refine' jv KX G ?_<;>try k_is
  case fK =>
   refine' L2.SM KX G ["self","value"] ?aC ?a ?o ?i ?l ?c ?k (fun _ _ _ _ _ _ us hl=>by obtain ⟨_,_,rfl⟩:=KW.eF hl;rfl);(case aC=>k_is);(case a=>k_is);(case o=>kernel_rfl);(case i=>k_is);(case l=>k_is);(case c=>k_is);(case k=>k_is)
  case fL =>
   refine' ⟨?a,?b,?c⟩;(case a=>k_is);(case b=>kernel_rfl);(case c=>k_is)
  case bK=>k_is
  case dF=>refine' L2.S6 KX G ?_ ?_ ?_ ?_<;>try k_is
  case cY=>k_exc
  case aM | aN=>refine' ⟨?_,?_,?_,?_,?_,?_⟩<;>try k_is
  case aZ | aO | bV | bI | bQ | bN | bf | bG | bO | bZ | bM | aR | bU | bH=>kit_is
  case bF | aY=>kts_exm
