import PyProof.Rows.All
import Wide.All
import OpenK.AllK
import Wide.FinOn
import Lean
import PyProof.EqAt
import PyProof.EqKinds
import PyProof.TupleCall
import PySem.Challenge.RW_noshortring_k63_doubles
noncomputable section
open Array renaming length_toList→cZ,getElem?_toList→dG,getElem?_eq_some_iff→eO,toList_extract→eV,toList_reverse→fw,toList_append→ig,toList_push→iK,ext'→js,getD→lj,toList_map→lS,replicate→mi
open Bool renaming false_ne_true→cf,false_eq_true→dC,and_eq_true→eX,not_eq_true'→fQ,eq_iff_iff→i9,not_true→jg,and_false→jZ,not_eq_false'→lh,true_and→lN,not_false→mH
open Classical renaming byContradiction→fX
open False renaming elim→fh
open ForInStep renaming yield→gI
open Function renaming comp_def→jY
open Int renaming eq_ofNat_of_zero_le→dE,toNat_natCast→dS,le_of_lt→gE,toNat_of_nonneg→gF,mul_le_mul_of_nonneg_right→gP,emod_lt_of_pos→gQ,emod_nonneg→iC,le_refl→iW,le_trans→i7,zero_add→jz,mul_assoc→m8,pow_succ→nE,mul_comm→nF,le_total→nG,add_mul→nO
open List renaming length_map→b8,getElem?_eq_getElem→cc,getElem?_map→cg,mem_singleton→cq,getElem?_eq_some_iff→cw,mem_of_getElem?→cU,mem_cons_of_mem→cX,replicate→cY,length_cons→c9,mem_cons→da,mem_map→df,length_append→dh,size_toArray→dj,getElem?_set_self→dr,mem_append→dt,map_cons→dv,mem_cons_self→dw,getElem?_set_ne→dz,getElem?_append_right→dB,Pairwise→dD,map_append→dH,length_take→dI,getElem?_append_left→dM,range→dN,nodup_cons→dO,getD_eq_getElem?_getD→dR,pairwise_iff_getElem→dU,extract_eq_drop_take→dW,map_map→eu,lookup_cons→eD,mem_filter→eE,getElem?_of_mem→eF,mem_append_right→eG,pairwise_map→eJ,getLast?_cons_cons→eQ,mem_append_left→eU,nodup_append→eY,append_nil→eZ,mem_range→e8,length_replicate→e9,append_assoc→fe,take_length→fj,getElem?_replicate→fm,take_add_one→fu,ext_getElem?→fv,getElem?_drop→fD,mem_map_of_mem→fK,filterMap_cons→fL,take_append_drop→fM,nodup_iff_pairwise_ne→fT,getElem?_eq_none→gi,pairwise_singleton→gm,not_mem_nil→gq,getElem_mem→gu,getElem?_cons_succ→gz,length_set→gG,length_nil→gH,getLast?_eq_some_iff→gJ,perm_append_comm→gL,mem_filterMap→gN,length_drop→gO,mem_of_getLast?→gU,lookup→gW,Perm→gZ,getElem_of_mem→ie,getElem_cons_drop→iq,drop_eq_getElem_cons→iA,take_sublist→iH,length_range→iI,getElem?_take_of_lt→iM,length_eq_zero_iff→iV,map_set→i5,getElem?_take→i6,getD→jx,filter_cons→jy,reverse_cons→jW,pairwise_lt_range→jX,length_filter_le→j4,mem_flatMap→kb,getElem_map→ke,cons_append→kg,all_eq_true→kh,pairwise_append→km,of_mem_zip→kv,reverse_append→kz,map_congr_left→kA,getElem?_range→kB,flatMap_append→kH,toArray→kL,map_nil→kM,take_zero→lg,head?_append→lE,drop_sublist→lF,forIn_cons→mh,map_id→nN,foldl→nY,cons→og
open List.Pairwise renaming imp_of_mem→fI,nil→hV,and_mem→j6,map→lG
open Nat renaming le_refl→cW,lt_of_lt_of_le→dm,ne_of_lt→dF,le_trans→dZ,zero_le→eS,lt_irrefl→fb,lt_trichotomy→gc,lt_succ_of_lt→gY,zero_add→ip,le_of_lt→iG,lt_succ_self→iU,not_lt_zero→jF,lt_of_le_of_lt→jJ,ne_of_gt→jV,le_of_not_lt→j9,succ_pos→kK,le_of_succ_le→lD,strongRecOn→mf,le_succ→mG,add_assoc→mZ,mod_lt→nj,succ_add→nB,lt_trans→nC
open Option renaming some→dQ,isSome→lM
open Or renaming inl→ku,inr→k8
open Prod renaming fst→dX,ext→fR,snd→jU
open Prod.mk renaming injEq→mY
open PyProof.Rows renaming wpS_bind→cu,wpS_pure→cV,SortSt→eB,wpS_forRange→eK,seqObj→eP,wpS_mono→fW,envOfC→hZ,failedOf→iR,wpS_modify→iX,callWith_type1→jk,SortKind→jo,wpS_get→jC,wpS_lift→ki,get?_update_seq→kr,AllBare→kN,setPending→kS,listUpdate_at→lJ,seqEpoch_at→mn,minRun'→mM
open PyProof.Rows.F renaming plain_set_update_loop→fZ
open PyProof.Rows.SortSt renaming mk'→kX
open PySem renaming wpAny_bind→a9,wpAny_pure→b9,starEach→cb,Around→de,Spec→dg,FuncData→dA,bootBuiltins→dY,wpAny_holding→eC,sizeLine_eq→eT,SetTable→fc,mainGlobals→fJ,wpAny_setState_of→fO,foldedSetIterable→fP,cellsFrom→fV,backTo→fY,compareOp→gh,wpAny_mono→gD,assignEach→gM,codeAny_call_builtin→gS,codeAny_builtin→ic,wpAny_Call_Name_kw→iw,wpAny_passesOwn→iB,codeAny→iD,binaryOp→iE,Builtin→iL,mem_of_lookup→iN,wpAny_call_entry→iQ,codeAny_mono→iY,wpAny_standAt→ja,wpAny_attempt→jb,plainId_quiet→jc,attributeBase→jd,wpAny_truthy_bool→ji,wpAny_newObj_type→jj,wpAny_call→jl,wpAny_eqBool_int→jt,swapsWith→ju,checkBuiltinCall→jv,wpAny_execs_nil→jD,wpAny_rule→jG,sliceBounds→jL,wpAny_tryCatch→jO,wpAny_seqItems→jP,wpAny_loadPart_at→jQ,wpAny_askSetting→j7,isInstance→j8,wpAny_of_eq→kj,letOwnedTupleGo→ko,pickOrder→kO,PassesOwn→kP,wpAny_setField_rec→kQ,pyNext→kT,call_meets→kU,wpAny_pyIter_list→lz,ofAClassStatement→lA,Keyword→lH,wpAny_newList→lI,wpAny_forIn_list→lO,noFill_tuple_add→lP,rawInt→lT,instanceDict→lU,argBest→lV,Within→lZ,wpAny_updateSeq→l7,codeAny_of_tree→l8,wpAny_loadPart→mj,wpAny_letGo→ml,recursionLimit→mq,newFunctionEnv→mw,keywordEach→mx,isSubtype_type→my,excClassObj→mz,Operator→mF,seqIndex?→mK,pushCells→mL,callerA→mO,BindsTo→mP,swapsWithSole→mQ,swappedStores→mS,seq_tuple_add→mT,frameOf→mV,setEntries→m9,pyIter→ng,builtinsNs→nh,Result→ni,entryPlaceOf→nv,concat_meets→ny,compEnvC→nz,noteFrame→nI,wpAny_alloc→nK,seqIndex_of→nL,typeOf→nQ,bindArgs→nV,backToKw→nX,Fin→oa
open PySem.Around renaming under_plainId→gX,under→l0
open PySem.Challenge renaming pw_noshortring_k63_doubles→dP
open PySem.Code renaming quiet_builtin→jK,isFrame→nH
open PySem.EntryCells renaming newEntry→kJ
open PySem.F renaming store_ValueError→gk,plain_min_loop→iu,excAttr_ValueError→iy,plainAttrs_list→iS,args_tuple_add_2→jB,entry_tuple_add→jN,slot_tuple_add→jS,entry_min_loop→lR
open PySem.Heap renaming get?_push_of_some→cj,lt_size→dc,get?_push_size→dy,get?_update_other→fg,size_push→fH,get?_update_self→iz,FlyingW→iJ,SameBut→i8,get?_update_ne→jA
open PySem.Heap.SameBut renaming update→kI
open PySem.NameKind renaming cell→jf
open PySem.Obj renaming mapSeq→fS,putSet→k9
open PySem.PyData renaming depthAll→fG,weightAll→iT,leavesShortAll→jh,eqv→jr,showableAll→jI,hasDictAll→jT,weight→mX
open PySem.SeqAt renaming EqAt→fz
open PySem.SetTable renaming insertAt→gK,runEnd→jm,sizeAbove→mJ,fill→mU
open PySem.SetTable.below renaming go→nW
open PySem.SetTable.probe renaming go→kl
open PySem.Value renaming type→iZ,none→jn,int→jM,builtin→lK,bool→lW,str→nJ
open PySem.W renaming Frag→a8,kitOne→du,findIn→dJ,keepIn→eM,openGood→eW,kitCls→fE,kia_one→fF,mroIn→fU,Looks→gC,looks_findIn→gT,fnOf→il,hasDictIn→iF,looks_mroIn→iO,hideAll_get→iP,clsIn→je,InstAt→jq,nsIn→jw,hideAll→jE,of_hideAll→jH,cellsFrom_some→jR,looks_clsIn→ky,codeIn→kY,callWith_K→kZ,specialIn→lB,methodObj→lC,excIn→lL,kat_cons→lQ,takesIn→l9,kat_yes→ma,instObj→md,OpenLaw→me,lookIn→mB,kat_no→mD,kat_go→mE,recOk→mW,xlAt→nA,KatTups→nD,InK→nM
open PySem.W.Fast renaming te14364793385576792824→fo,tw4187177175401517315→fA,te4187177175401517315→fB
open PySem.pickOrder renaming go→nu
open Sum renaming inr→lX,inl→lY
open True renaming intro→kW
set_option Elab.async false
set_option linter.all false
set_option maxRecDepth 100000
namespace L2
open PySem PySem.Spec PyProof.Rows
abbrev Je:=Sum Int Str
def UI:Je→Value→Bool
 | .inl k,v=>Value.isInt k v
 | .inr x,v=>Value.isStrOf x v
def Zy(w:World):Je→Int
 | .inl k=>hashInt k
 | .inr x=>hashStr w x
theorem Am:∀{k:Je} {v:Value},UI k v=true→(∃i t,k=lY i∧v=jM i t)∨(∃x t,k=lX x∧v=nJ x t)
 | .inl i,v,h=>by
  obtain⟨t,e⟩:=Value.isInt_shape (k:=i) (v:=v) h
  exact .inl ⟨i,t,rfl,e⟩
 | .inr x,v,h=>by
  obtain⟨t,e⟩:=Value.isStrOf_shape (x:=x) (v:=v) h
  exact .inr ⟨x,t,rfl,e⟩
theorem VC(a b:Int):decide ((lY a:Je)=lY b)=(a==b):=by
 by_cases e:a=b
 ·subst e;simp
 ·have h:¬(lY a:Je)=lY b:=fun q=>e (lY.inj q)
  rw[decide_eq_false h]
  exact(beq_eq_false_iff_ne.mpr e).symm
theorem VD(a b:Str):decide ((lX a:Je)=lX b)=decide (a=b):=by
 by_cases e:a=b
 ·subst e;simp
 ·have h:¬(lX a:Je)=lX b:=fun q=>e (lX.inj q)
  rw[decide_eq_false h,decide_eq_false e]
theorem VE(a:Int)(b:Str):decide ((lY a:Je)=lX b)=false:=decide_eq_false (fun q=>nomatch q)
theorem VF(a:Str)(b:Int):decide ((lX a:Je)=lY b)=false:=decide_eq_false (fun q=>nomatch q)
def IY(prog:Program)(w:World):PySem.KeyKind prog w Je where
 is:=UI
 hash:=Zy w
 inj:=fun v a b ha hb=>by
  rcases Am ha with⟨i,t,rfl,rfl⟩| ⟨x,t,rfl,rfl⟩
  ·rcases Am hb with⟨j,u,rfl,e⟩| ⟨y,u,rfl,e⟩
   ·injection e with e1 _;rw[e1]
   ·exact nomatch e
  ·rcases Am hb with⟨j,u,rfl,e⟩| ⟨y,u,rfl,e⟩
   ·exact nomatch e
   ·injection e with e1 _;rw[e1]
 byValue:=fun k v h=>by
  rcases Am h with⟨i,t,rfl,rfl⟩| ⟨x,t,rfl,rfl⟩<;>rfl
 pyHash:=fun hv h=>by
  rcases Am hv with⟨i,t,rfl,rfl⟩| ⟨x,t,rfl,rfl⟩
  ·exact wpAny_pyHash_int h
  ·exact wpAny_pyHash_str h
 eqBool:=fun hu hv h=>by
  rcases Am hu with⟨i,t,rfl,rfl⟩| ⟨x,t,rfl,rfl⟩
  ·rcases Am hv with⟨j,u,rfl,rfl⟩| ⟨y,u,rfl,rfl⟩
   ·rw[VC] at h;exact jt h
   ·rw[VE] at h;exact fz.int_str i t y u _ _ _ _ h
  ·rcases Am hv with⟨j,u,rfl,rfl⟩| ⟨y,u,rfl,rfl⟩
   ·rw[VF] at h;exact fz.str_int x t j u _ _ _ _ h
   ·rw[VD] at h;exact wpAny_eqBool_str h
 «strs»:=fun k x t v h=>by
  rcases Am h with⟨i,u,rfl,e⟩| ⟨y,u,rfl,e⟩
  ·exact nomatch e
  ·injection e with e1 _
   subst e1
   cases v<;>rfl
inductive V where
 |non|bl (b:Bool)|int (i:Int)|str (x:Str)|byt (b:Array UInt8)|flt (b:UInt64)|ref (a:Addr)|ty (n:String)
 deriving DecidableEq
def RelV:V→Value→Prop
 | .non,u=>u=jn
 | .bl b,u=>u=lW b
 | .int i,u=>∃t,u=jM i t
 | .str x,u=>∃t,u=nJ x t
 | .byt b,u=>∃t,u=Value.bytes b t
 | .flt b,u=>∃t,u=Value.float b t
 | .ref a,u=>u=Value.ref a
 | .ty n,u=>u=iZ n
abbrev Vals:List V→List Value→Prop:=Paired RelV
theorem Vals.length{xs:List V}{us:List Value}(r:Vals xs us):xs.length=us.length:=Paired.length r
theorem Vals.get:∀{xs:List V} {us:List Value} {i:Nat} {x:V},Vals xs us→xs[i]?=some x→∃u,us[i]?=some u∧RelV x u
 |_,_,_,_,.nil,e=>by simp at e
 |_,_,0,_,.cons r _,e=>by simp at e;subst e;exact⟨_,rfl,r⟩
 |_,_,i+1,x,.cons _ t,e=>by
  obtain⟨u,h1,h2⟩:=Vals.get (i:=i) (x:=x) t (by simpa using e)
  exact⟨u,by simpa using h1,h2⟩
theorem Vals.set{x:V}{u:Value}(r:RelV x u):∀{xs:List V} {us:List Value} (i:Nat),Vals xs us→Vals (xs.set i x) (us.set i u)
 |_,_,_,.nil=> .nil
 |_,_,0,.cons _ t=> .cons r t
 |_,_,i+1,.cons q t=> .cons q (Vals.set r i t)
theorem Vals.append:∀{xs ys:List V} {us ws:List Value},Vals xs us→Vals ys ws→Vals (xs++ys) (us++ws)
 |_,_,_,_,.nil,s=>s
 |_,_,_,_,.cons r t,s=> .cons r (Vals.append t s)
theorem Vals.take:∀{xs:List V} {us:List Value} (n:Nat),Vals xs us→Vals (xs.take n) (us.take n)
 |_,_,0,_=> .nil
 |_,_,_+1,.nil=> .nil
 |_,_,n+1,.cons r t=> .cons r (Vals.take n t)
theorem Vals.drop:∀{xs:List V} {us:List Value} (n:Nat),Vals xs us→Vals (xs.drop n) (us.drop n)
 |_,_,0,r=>r
 |_,_,_+1,.nil=> .nil
 |_,_,n+1,.cons _ t=>Vals.drop n t
def On:Option V→Option Value→Prop
 |some v,some u=>RelV v u
 |none,none=>True
 |_,_=>False
def KV{κ:Type}:List (κ×V)→List (κ×Value)→Prop:=Paired fun(p:κ×V) (q:κ×Value)=>p.1=q.1∧RelV p.2 q.2
def kV:Je→V
 | .inl i=> .int i
 | .inr x=> .str x
inductive HO where
 /-- a list -/
 | lst (xs:List V)
 /-- a tuple (never changes) -/
 | tup (xs:List V)
 /-- a dict whose keys are ints and texts; one whose keys are tuples of ints and texts (the empty one is both) -/
 | dK (kvs:List (Je × V)) | dT (kvs:List (List Je × V))
 /-- a set of ints: its members,its size -/
 | set (S:Int→Bool) (n:Nat)
 /-- an instance of the class at C,its dict at dx,its attributes -/
 | ins (C dx:Addr) (fs:List (Str × V))
 /-- the dict of the instance at x -/
 | own (x:Addr)
 /-- the dict of an exception -/
 | xd (fs:List (Str × V))
 /-- a bound method,f of x -/
 | met (f x:Addr)
 /-- a range object lo,lo + 1,.. below hi -/
 | rng (lo hi:Int)
 /-- a thing that is known to the object (the script; a dict while a loop walks it): read,never written while it is so -/
 | frz (o:Obj) (u:HO)
 /-- a code object's table -/
 | tbl (ps:Array Value)
 /-- any other thing,by what is true of its one object (a def of one's own: SetO a S n:=HO.ext fun h => ..) -/
 | ext (φ:Heap→Prop)
abbrev Hp:=Addr→Option HO
def upd(H:Hp)(a:Addr)(o:HO):Hp:=fun b=>if b=a then some o else H b
theorem AI{H:Hp}{a:Addr}{o:HO}:upd H a o a=some o:=by unfold upd;rw[if_pos rfl]
theorem AH{H:Hp}{a b:Addr}{o:HO}(h:b≠a):upd H a o b=H b:=by unfold upd;rw[if_neg h]
theorem MZ{H:Hp}{a:Addr}{o u:HO}:upd (upd H a o) a u=upd H a u:=by
 funext b;unfold upd;split<;>rfl
theorem AR{H:Hp}{a b:Addr}{o:HO}(h:H a=some o)(h':H b=none):a≠b:=by
 intro e;subst e;rw[h] at h';cases h'
section
variable(P:Program)(w:World)
def ObjOk(H:Hp)(h:Heap)(a:Addr):HO→Prop
 | .lst xs=>xs.length≤sizeLine∧∃(its:List Value) (n:Nat),Vals xs its∧h.get? a=some {cls:=.type "list",data:=.seq its.toArray n}
 | .tup xs=>xs.length≤sizeLine∧∃its:List Value,Vals xs its∧IsTup h a its.toArray
 | .dK kvs=>kvs.length≤sizeLine∧(a==sysModules)=false∧∃vs,KV kvs vs∧h.DictOf (IY P w) a vs
 | .dT kvs=>kvs.length≤sizeLine∧(a==sysModules)=false∧∃xs:List (List Je×Addr×Value),
   Paired (fun(p:List Je×V) (q:List Je×Addr×Value)=>p.1=q.1∧H q.2.1=some (.tup (p.1.map kV))∧RelV p.2 q.2.2) kvs xs∧
   ∃o es ep,h.get? a=some o∧o.ExactDict∧o.data=.dict es ep∧es.toList=xs.map (entryOfKey (tupleKind (IY P w)))∧(xs.map (·.1)).Nodup
 | .set S n=>h.SetOf (intKind P w) a S n
 | .ins C dx fs=>H dx=some (.own a)∧fs.length≤1000∧dx≠a∧h.get? a=some (md C dx)∧
   ∃mA,h.Ns1 dx mA∧(∀f,On (fs.lookup f) (mA f))∧lZ mA (fs.map (·.1))
 | .own _=>∃o,h.get? a=some o
 | .xd fs=>∃mA,h.Ns1 a mA∧∀f,On (fs.lookup f) (mA f)
 | .rng lo hi=>∃t u v,h.get? a=some {cls:=.type "range",data:=.fields #[.int lo t,.int hi u,.int 1 v]}
 | .frz o u=>h.get? a=some o∧ObjOk H h a u
 | .tbl ps=>h.get? a=some {cls:=.none,data:=.fields ps}
 | .met f x=>h.get? a=some (lC (.ref f) (.ref x))
 | .ext φ=>φ h∧(∃o,h.get? a=some o)∧∀h1 h2:Heap,φ h1→(∀o,h1.get? a=some o→h2.get? a=some o)→φ h2
def HOk(H:Hp)(h:Heap):Prop:=∀a o,H a=some o→ObjOk P w H h a o
end
section
variable{P:Program}{w:World}{H H':Hp}{h h':Heap}{a:Addr}{o:HO}
theorem ObjOk.lt(x:ObjOk P w H h a o):a<h.objs.size:=by
 cases o with
 |lst xs=>obtain⟨_,_,_,_,e⟩:=x;exact dc e
 |tup xs=>obtain⟨_,_,_,p⟩:=x;exact p.lt
 |dK kvs=>obtain⟨_,_,_,_,o,_,_,e,_⟩:=x;exact dc e
 |dT kvs=>obtain⟨_,_,_,_,o,_,_,e,_⟩:=x;exact dc e
 |set S n=>obtain⟨o,_,_,_,e,_⟩:=x;exact dc e
 |ins C dx fs=>obtain⟨_,_,_,e,_⟩:=x;exact dc e
 |own y=>obtain⟨_,e⟩:=x;exact dc e
 |xd fs=>obtain⟨_,⟨_,_,_,e,_⟩,_⟩:=x;exact dc e
 |rng lo hi=>obtain⟨_,_,_,e⟩:=x;exact dc e
 |frz ob u=>obtain⟨e,_⟩:=x;exact dc e
 |tbl ps=>exact dc (show h.get? a=some _ from x)
 |met f y=>exact dc (show h.get? a=some _ from x)
 |ext φ=>obtain⟨_,⟨_,e⟩,_⟩:=x;exact dc e
theorem Paired.mapP{α β:Type}{F G:α→β→Prop}:∀{l₁:List α} {l₂:List β},Paired F l₁ l₂→(∀a b,F a b→G a b)→Paired G l₁ l₂
 |_,_,.nil,_=> .nil
 |_,_,.cons r t,f=> .cons (f _ _ r) (Paired.mapP t f)
theorem ObjOk.stay(x:ObjOk P w H h a o)(k:∀b u,(b=a∨H b=some (.own a))→h.get? b=some u→h'.get? b=some u)
  (ho:∀b,H b=some (.own a)→H' b=some (.own a)) (ht:∀b xs,H b=some (.tup xs)→H' b=some (.tup xs)):ObjOk P w H' h' a o:=by
 induction o with
 |lst xs=>obtain⟨z,its,n,r,e⟩:=x;exact⟨z,its,n,r,k _ _ (.inl rfl) e⟩
 |tup xs=>obtain⟨z,its,r,ob,e,c⟩:=x;exact⟨z,its,r,ob,k _ _ (.inl rfl) e,c⟩
 |dK kvs=>obtain⟨z,y,vs,r,ob,es,ep,e,c⟩:=x;exact⟨z,y,vs,r,ob,es,ep,k _ _ (.inl rfl) e,c⟩
 |dT kvs=>
  obtain⟨z,y,xs,r,ob,es,ep,e,c⟩:=x
  exact⟨z,y,xs,Paired.mapP r fun p q z=> ⟨z.1,ht _ _ z.2.1,z.2.2⟩,ob,es,ep,k _ _ (.inl rfl) e,c⟩
 |set S n=>obtain⟨ob,es,ep,t,e,c⟩:=x;exact⟨ob,es,ep,t,k _ _ (.inl rfl) e,c⟩
 |ins C dx fs=>
  obtain⟨d,z,ne,e,mA,⟨od,es,ep,e2,c⟩,r⟩:=x
  exact⟨ho _ d,z,ne,k _ _ (.inl rfl) e,mA,⟨od,es,ep,k _ _ (.inr d) e2,c⟩,r⟩
 |own y=>obtain⟨ob,e⟩:=x;exact⟨ob,k _ _ (.inl rfl) e⟩
 |xd fs=>obtain⟨mA,⟨od,es,ep,e,c⟩,r⟩:=x;exact⟨mA,⟨od,es,ep,k _ _ (.inl rfl) e,c⟩,r⟩
 |rng lo hi=>obtain⟨t,u,v,e⟩:=x;exact⟨t,u,v,k _ _ (.inl rfl) e⟩
 |frz ob u ih=>obtain⟨e,q⟩:=x;exact⟨k _ _ (.inl rfl) e,ih q⟩
 |tbl ps=>
  have e:h.get? a=some {cls:=.none,data:=.fields ps}:=x
  show h'.get? a=some {cls:=.none,data:=.fields ps}
  exact k a _ (.inl rfl) e
 |met f y=>
  have e:h.get? a=some (lC (.ref f) (.ref y)):=x
  show h'.get? a=some (lC (.ref f) (.ref y))
  exact k a _ (.inl rfl) e
 |ext φ=>obtain⟨p,⟨o,e⟩,st⟩:=x;exact⟨st _ _ p fun o q=>k _ _ (.inl rfl) q,⟨o,k _ _ (.inl rfl) e⟩,st⟩
theorem HOk.lt(x:HOk P w H h)(e:H a=some o):a<h.objs.size:=(x a o e).lt
theorem HOk.fresh(x:HOk P w H h)(e:h.objs.size≤a):H a=none:=by
 cases q:H a with
 |none=>rfl
 |some u=>exact absurd (dm (x.lt q) e) (fb _)
theorem HOk.kept(x:HOk P w H h)(k:∀b u,h.get? b=some u→h'.get? b=some u):HOk P w H h':=fun a o e=>
 (x a o e).stay (fun b u _ q=>k b u q) (fun _ q=>q) fun _ _ q=>q
theorem HOk.laid(x:HOk P w H h)(k:∀b u,h.get? b=some u→h'.get? b=some u)(hp:h.objs.size≤a)(new:ObjOk P w (upd H a o) h' a o):HOk P w (upd H a o) h':=fun b u e=>by
 have hn:=x.fresh hp
 by_cases hb:b=a
 ·subst hb;rw[AI] at e;cases e;exact new
 ·rw[AH hb] at e
  exact(x b u e).stay (fun c v _ q=>k c v q) (fun c q=>by rw[AH (AR q hn)];exact q) fun c xs q=>by rw[AH (AR q hn)];exact q
end
def Rd(H:Hp)(a:Addr)(u:HO):Prop:=H a=some u∨∃o,H a=some (.frz o u)
theorem Rd.ok{P:Program}{w:World}{H:Hp}{h:Heap}{a:Addr}{u:HO}(r:Rd H a u)(x:HOk P w H h):ObjOk P w H h a u:=by
 rcases r with r| ⟨o,r⟩
 ·exact x a u r
 ·obtain⟨_,q⟩:=x a _ r
  exact q
def Zl:Option HO→Prop
 |some (.lst _)=>True
 |some (.dK _)=>True
 |some (.dT _)=>True
 |some (.set _ _)=>True
 |some (.ins _ _ _)=>True
 |some (.ext _)=>True
 |_=>False
section
variable{P:Program}{w:World}{H:Hp}{h h':Heap}{x e:Addr}{o':HO}
theorem HOk.write(ok:HOk P w H h)(mu:Zl (H x))(he:e=x∨H e=some (.own x))(k:∀b u,b≠e→h.get? b=some u→h'.get? b=some u)(heo:∃u,h'.get? e=some u)
  (new:ObjOk P w (upd H x o') h' x o'):HOk P w (upd H x o') h':=fun b u q=>by
 have nown:∀c y,H c=some (.own y)→c≠x:=fun c y r z=>by subst z;rw[r] at mu;exact mu
 have ntup:∀c xs,H c=some (.tup xs)→c≠x:=fun c xs r z=>by subst z;rw[r] at mu;exact mu
 by_cases hb:b=x
 ·subst hb;rw[AI] at q;cases q;exact new
 ·rw[AH hb] at q
  by_cases hbe:b=e
  ·have q':H b=some (.own x):=by
    rcases he with z|z
    ·exact absurd (hbe.trans z) hb
    ·rw[hbe];exact z
   rw[q] at q';cases q'
   obtain⟨v,hv⟩:=heo
   exact⟨v,by rw[hbe];exact hv⟩
  ·refine(ok b u q).stay (fun c v hc r=>k c v ?_ r) (fun c r=>by rw[AH (nown c b r)];exact r) fun c xs r=>by rw[AH (ntup c xs r)];exact r
   rcases hc with rfl|hc
   ·exact hbe
   ·rintro rfl
    rcases he with z|z
    ·exact nown c b hc z
    ·rw[hc] at z;cases z;exact hb rfl
end
structure Un(fs ex:List Addr)(H H':Hp)(h h':Heap):Prop where
 keep:∀b o,h.get? b=some o→H b=none→b∉fs→b∉ex→h'.get? b=some o
 slot:∀b o,h.get? b=some o→H b=none→b∈fs→b∉ex→∃sl,h'.get? b=some {o with slots:=sl}
 free:∀b o,h.get? b=some o→H b=none→b∉ex→H' b=none
 there:∀b o,h.get? b=some o→b∉ex→∃o',h'.get? b=some o'
 tups:∀b xs,H b=some (.tup xs)→H' b=some (.tup xs)
 frzs:∀b o u,H b=some (.frz o u)→H' b=some (.frz o u)
 tbls:∀b ps,H b=some (.tbl ps)→∃more,H' b=some (.tbl (ps++more))
section
variable{fs fs' ex ex':List Addr}{H H1 H2:Hp}{h h1 h2 h':Heap}{a x e:Addr}{o:HO}
theorem Un.any(u:Un fs ex H H1 h h1){b:Addr}{ob:Obj}(q:h.get? b=some ob)(n:H b=none)(hx:b∉ex):∃sl,h1.get? b=some {ob with slots:=sl}:=by
 by_cases hb:b∈fs
 ·exact u.slot b ob q n hb hx
 ·exact⟨ob.slots,u.keep b ob q n hb hx⟩
theorem Un.kept(k:∀b u,h.get? b=some u→h'.get? b=some u):Un fs ex H H h h':=
 ⟨fun b ob q _ _ _=>k b ob q,fun b ob q _ _ _=> ⟨ob.slots,k b ob q⟩,fun _ _ _ n _=>n,fun b ob q _=> ⟨ob,k b ob q⟩,fun _ _ q=>q,fun _ _ _ q=>q,fun _ ps q=> ⟨#[],by rw[q];simp⟩⟩
theorem Un.refl:Un fs ex H H h h:=Un.kept fun _ _ q=>q
theorem Un.laid(k:∀b u,h.get? b=some u→h'.get? b=some u)(hp:h.objs.size≤a)(hn:H a=none):Un fs ex H (upd H a o) h h' where
 keep:=fun b u q _ _ _=>k b u q
 slot:=fun b u q _ _ _=> ⟨u.slots,k b u q⟩
 free:=fun b u q n _=>by rw[AH (dF (dm (dc q) hp))];exact n
 there:=fun b u q _=> ⟨u,k b u q⟩
 tups:=fun b xs q=>by rw[AH (AR q hn)];exact q
 frzs:=fun b u xs q=>by rw[AH (AR q hn)];exact q
 tbls:=fun b ps q=> ⟨#[],by rw[AH (AR q hn),q];simp⟩
theorem Un.write(mu:Zl (H x))(he:e=x∨H e=some (.own x))(k:∀b u,b≠e→h.get? b=some u→h'.get? b=some u)(heo:∃u,h'.get? e=some u):Un fs ex H (upd H x o) h h':=by
 have hx:∀b,H b=none→b≠x:=fun b n z=>by subst z;rw[n] at mu;exact mu
 have hb:∀b,H b=none→b≠e:=fun b n z=>by
  subst z
  rcases he with r|r
  ·exact hx b n r
  ·rw[n] at r;cases r
 have hm:∀b u,H b=some u→¬Zl (some u)→b≠x:=fun b u q nm z=>by subst z;rw[q] at mu;exact nm mu
 refine⟨fun b u q n _ _=>k b u (hb b n) q,fun b u q n _ _=> ⟨u.slots,k b u (hb b n) q⟩,fun b u q n _=>by rw[AH (hx b n)];exact n,fun b u q _=>?_,
  fun b xs q=>by rw[AH (hm b _ q fun z=>z)];exact q,fun b u xs q=>by rw[AH (hm b _ q fun z=>z)];exact q,fun b ps q=> ⟨#[],by rw[AH (hm b _ q fun z=>z),q];simp⟩⟩
 by_cases hbe:b=e
 ·subst hbe;exact heo
 ·exact⟨u,k b u hbe q⟩
end
def Zm(h:Heap)(H:Hp):List Addr:=(dN h.objs.size).filter fun a=> (H a).isSome
def IZ(h:Heap)(H:Hp):Heap:=jE h (Zm h H)
theorem Nk(h:Heap)(H:Hp):(IZ h H).objs.size=h.objs.size:=PySem.W.hideAll_size _ _
theorem Oo{h:Heap}{H:Hp}{b:Addr}{o:Obj}(e:h.get? b=some o)(n:H b=none):(IZ h H).get? b=some o:=
 iP _ e fun hm=>by
  have q:(H b).isSome=true:=(eE.mp hm).2
  rw[n] at q;simp at q
theorem Rz{h:Heap}{H:Hp}{b:Addr}{o:Obj}(e:(IZ h H).get? b=some o):h.get? b=some o∧H b=none:=by
 have e':h.get? b=some o:=jH (Zm h H) e
 refine⟨e',?_⟩
 cases q:H b with
 |none=>rfl
 |some x=>
  have hm:b∈Zm h H:=eE.mpr ⟨e8.mpr (dc e'),by simp[q]⟩
  have z:(IZ h H).get? b=none:=PySem.W.hideAll_none (Zm h H) hm
  rw[z] at e;cases e
structure Mod(K:a8)(mg:Str→Option Value)(base:Heap):Prop where
 kin:K.In base
 glob:base.Ns fJ mg
 blt:∃mb,base.Ns nh mb∧∀x:Str,x≠"__name__"→mb x=dY x
 nolimit:base.NoLimit
structure Cx where
 prog:Program
 w:World
 K:a8
 mg:Str→Option Value
 base:Heap
 A:de
 N:List Str
 s₀:Shared
 H₀:Hp
 env:Env
 outer:List Env
 stack:List Env
 ex:List Addr
 fn:Str→Bool
 calm:Bool
 pn:List (Addr×Obj)
 xe:Value→Shared→Prop
def En(l:List Env):List Addr:=l.filterMap (·.frame)
abbrev Cx.fs(X:Cx):List Addr:=En X.outer
def XS(sc:Scope)(x:Str):Prop:=sc.names.lookup x=some .local∨sc.names.lookup x=some .cell∨sc.names.lookup x=some .free
def Ol(sc:Scope)(x:Str):Prop:=sc.names.lookup x=some .local∨sc.names.lookup x=some .cell
def Zz(env:Env)(h:Heap)(m:Str→Option Value)(x:Str)(u:Value):Prop:=
 (env.kindOf x=some .local∧m x=some u)∨((env.kindOf x=some .cell∨env.kindOf x=some .free)∧∃c,env.cells.lookup x=some c∧h.IsCell c (some u))
structure Cx.Ok(X:Cx):Prop where
 mod:Mod X.K X.mg X.base
 kind:X.env.scope.kind=.function
 glob:X.env.globals=fJ
 blt:X.env.builtins=nh
 above:X.s₀.heap.objs.size≤X.env.locals
 inj:∀x y c,X.env.cells.lookup x=some c→X.env.cells.lookup y=some c→x=y
 has:∀x,(X.env.kindOf x=some .cell∨X.env.kindOf x=some .free)→∃c,X.env.cells.lookup x=some c
 cab:∀x c,X.fn x=true→X.env.cells.lookup x=some c→X.s₀.heap.objs.size≤c
 hd:X.calm=true→X.A.handled=none
 frames:X.A.frames=some X.stack
 stk:X.stack=X.outer∨(X.stack=X.env::X.outer∧X.env.frame=some X.env.locals)
 exf:∀b∈X.ex,b≠X.env.locals∧∀x c,X.env.cells.lookup x=some c→c≠b
 bs:∀b o,X.base.get? b=some o→X.s₀.heap.get? b=some o∧X.H₀ b=none
 bsz:X.base.objs.size≤X.s₀.heap.objs.size
 noex:∀b o,X.base.get? b=some o→b∉X.ex
 exfs:∀b∈X.ex,b∉X.fs
 funs:X.s₀.heap.FunFrames X.base X.outer
 frf:∀b∈X.fs,X.H₀ b=none
structure Inv(X:Cx)(pins:List (Addr×Obj))(σ:List (Option V))(H:Hp)(s:Shared):Prop where
 ok:X.Ok
 os:s.os=X.s₀.os
 bare:kN s.gens
 base:Un X.fs X.ex X.H₀ H X.s₀.heap s.heap
 loc:∃m,s.heap.Ns X.env.locals m∧∀(i:Nat) (x:Str) (v:V),X.N[i]?=some x→σ[i]?=some (some v)→XS X.env.scope x→∃u,RelV v u∧Zz X.env s.heap m x u
 cell:∀x c,X.env.cells.lookup x=some c→∃v,s.heap.IsCell c v
 free:H X.env.locals=none
 freeC:∀x c,X.env.cells.lookup x=some c→H c=none
 pin:∀p∈X.pn++pins,s.heap.get? p.1=some p.2∧H p.1=none∧p.1≠X.env.locals∧p.1∉X.fs∧∀v,p.2.data≠.cell v
 hok:HOk X.prog X.w H s.heap
 len:σ.length=X.N.length
section
variable{X:Cx}{pins:List (Addr×Obj)}{σ:List (Option V)}{H H':Hp}{s:Shared}{h':Heap}
theorem Cx.Ok.nofr(ok:X.Ok){b:Addr}{o:Obj}(e:X.base.get? b=some o):b∉X.fs:=fun hb=>by
 have:=(ok.funs.mem hb).1
 rw[e] at this;cases this
theorem Inv.bs(I:Inv X pins σ H s):∀b o,X.base.get? b=some o→s.heap.get? b=some o∧H b=none:=fun b o e=>
 ⟨I.base.keep b o (I.ok.bs b o e).1 (I.ok.bs b o e).2 (I.ok.nofr e) (I.ok.noex b o e),I.base.free b o (I.ok.bs b o e).1 (I.ok.bs b o e).2 (I.ok.noex b o e)⟩
theorem Inv.bk(I:Inv X pins σ H s):∀b o,X.base.get? b=some o→s.heap.get? b=some o:=fun b o e=> (I.bs b o e).1
theorem Inv.mod(I:Inv X pins σ H s):Mod X.K X.mg X.base:=I.ok.mod
theorem Inv.kIn(I:Inv X pins σ H s):X.K.In s.heap:=I.ok.mod.kin.keeps I.bk
theorem Inv.lt(I:Inv X pins σ H s):X.env.locals<s.heap.objs.size:=let⟨_,hn,_⟩:=I.loc;hn.lt
theorem Inv.sz(I:Inv X pins σ H s):X.s₀.heap.objs.size≤s.heap.objs.size:=dZ I.ok.above (iG I.lt)
theorem Inv.nofs(I:Inv X pins σ H s){a:Addr}(h:s.heap.objs.size≤a):a∉X.fs:=fun hb=>by
 obtain⟨_,o,ho,_⟩:=I.ok.funs.mem hb
 exact absurd (dm (dc ho) (dZ I.sz h)) (fb _)
theorem Inv.cne(I:Inv X pins σ H s):∀x c,X.env.cells.lookup x=some c→c≠X.env.locals:=fun x c e z=>by
 obtain⟨v,o,ho,hd⟩:=I.cell x c e
 obtain⟨m,⟨o',es,ep,ho',hd',_⟩,_⟩:=I.loc
 rw[z,ho'] at ho;cases ho;rw[hd'] at hd;cases hd
theorem Inv.funs(I:Inv X pins σ H s):s.heap.FunFrames X.base X.outer:=by
 have all:∀(l:List Env),(∀b∈En l,b∈X.fs)→X.s₀.heap.FunFrames X.base l→s.heap.FunFrames X.base l:=by
  intro l
  induction l with
  |nil=>intro _ _;trivial
  |cons env r ih=>
   intro hs hl
   obtain⟨hk,⟨L,o,hf,hn,ho,hd⟩,hr⟩:=hl
   have hL:L∈X.fs:=hs L (by unfold En;rw[fL,hf];exact dw)
   obtain⟨sl,e⟩:=I.base.slot L o ho (I.ok.frf L hL) hL fun z=>I.ok.exfs L z hL
   exact⟨hk,⟨L,_,hf,hn,e,hd⟩,ih (fun b hb=>hs b (by unfold En;rw[fL,hf];exact cX _ hb)) hr⟩
 exact all X.outer (fun _ hb=>hb) I.ok.funs
theorem Inv.stack(I:Inv X pins σ H s):s.heap.FunFrames X.base X.stack:=by
 rcases I.ok.stk with e| ⟨e,hf⟩
 ·rw[e];exact I.funs
 ·rw[e]
  obtain⟨m,hn,_⟩:=I.loc
  refine .cons (by rw[I.ok.kind];decide) hf hn ?_ I.funs
  exact Heap.get?_none_of_le (dZ I.ok.bsz I.ok.above)
theorem Inv.stkSub(I:Inv X pins σ H s):∀b∈En X.stack,b∈X.env.locals::X.fs:=fun b hb=>by
 rcases I.ok.stk with e| ⟨e,hf⟩
 ·rw[e] at hb;exact cX _ hb
 ·rw[e] at hb
  unfold En at hb
  rw[fL,hf] at hb
  exact hb
theorem Inv.stkFree(I:Inv X pins σ H s):∀b∈En X.stack,H b=none:=fun b hb=>by
 rcases da.mp (I.stkSub b hb) with e|hb
 ·rw[e];exact I.free
 ·obtain⟨_,o,ho,_⟩:=I.ok.funs.mem hb
  exact I.base.free b o ho (I.ok.frf b hb) fun z=>I.ok.exfs b z hb
theorem Inv.step{g':Array GenState}{t':Nat}{d':Drawn}{ch:List Addr}(I:Inv X pins σ H s)
  (hch:∀b∈ch,(b∈X.ex∨X.s₀.heap.objs.size≤b)∧b≠X.env.locals∧(∀x c,X.env.cells.lookup x=some c→c≠b)∧∀p∈X.pn++pins,p.1≠b)
  (keep:∀b o,b≠X.env.locals→b∉X.fs→b∉ch→s.heap.get? b=some o→H b=none→h'.get? b=some o)
  (slot:∀b o,b≠X.env.locals→b∈X.fs→b∉ch→s.heap.get? b=some o→H b=none→∃sl,h'.get? b=some {o with slots:=sl}) (free:∀b o,b∉ch→s.heap.get? b=some o→H b=none→H' b=none)
  (there:∀b o,b∉ch→s.heap.get? b=some o→∃o',h'.get? b=some o')
  (tups:∀b xs,H b=some (.tup xs)→H' b=some (.tup xs)) (frzs:∀b o u,H b=some (.frz o u)→H' b=some (.frz o u)) (tbls:∀b ps,H b=some (.tbl ps)→∃more,H' b=some (.tbl (ps++more)))
  (ns:∀m,s.heap.Ns X.env.locals m→h'.Ns X.env.locals m) (hok:HOk X.prog X.w H' h') (hg:kN g'):
  Inv X pins σ H' {s with heap:=h',gens:=g',drawn:=d',toks:=t'}:=by
 have neL:∀b o,X.s₀.heap.get? b=some o→b≠X.env.locals:=fun b o e=>dF (dm (dc e) I.ok.above)
 have neC:∀b o,X.s₀.heap.get? b=some o→b∉X.ex→b∉ch:=fun b o e hx hb=>by
  rcases(hch b hb).1 with z|z
  ·exact hx z
  ·exact absurd (dm (dc e) z) (fb _)
 have cellK:∀x c,X.env.cells.lookup x=some c→∀v,s.heap.IsCell c v→h'.IsCell c v:=fun x c e v ⟨o,ho,hd⟩=>by
  have nch:c∉ch:=fun z=> (hch c z).2.2.1 x c e rfl
  by_cases hc:c∈X.fs
  ·obtain⟨sl,q⟩:=slot c o (I.cne x c e) hc nch ho (I.freeC x c e)
   exact⟨_,q,hd⟩
  ·exact⟨o,keep c o (I.cne x c e) hc nch ho (I.freeC x c e),hd⟩
 refine⟨I.ok,I.os,hg,⟨fun b o e n hb hx=>?_,fun b o e n hb hx=>?_,fun b o e n hx=>?_,fun b o e hx=>?_,fun b xs e=>tups b xs (I.base.tups b xs e),fun b o xs e=>frzs b o xs (I.base.frzs b o xs e),fun b ps e=>?_⟩,?_,fun x c e=>?_,?_,fun x c e=>?_,fun p hp=>?_,hok,I.len⟩
 ·exact keep b o (neL b o e) hb (neC b o e hx) (I.base.keep b o e n hb hx) (I.base.free b o e n hx)
 ·obtain⟨sl,e1⟩:=I.base.slot b o e n hb hx
  obtain⟨sl',e2⟩:=slot b _ (neL b o e) hb (neC b o e hx) e1 (I.base.free b o e n hx)
  exact⟨sl',e2⟩
 ·obtain⟨o',e1⟩:=I.base.there b o e hx
  exact free b o' (neC b o e hx) e1 (I.base.free b o e n hx)
 ·obtain⟨o',e1⟩:=I.base.there b o e hx
  exact there b o' (neC b o e hx) e1
 ·obtain⟨m1,e1⟩:=I.base.tbls b ps e
  obtain⟨m2,e2⟩:=tbls b _ e1
  exact⟨m1++m2,by rw[e2,Array.append_assoc]⟩
 ·obtain⟨m,hn,hl⟩:=I.loc
  refine⟨m,ns m hn,fun i x v e1 e2 e3=>?_⟩
  obtain⟨u,r,l⟩:=hl i x v e1 e2 e3
  refine⟨u,r,?_⟩
  rcases l with l| ⟨k,c,e,z⟩
  ·exact .inl l
  ·exact .inr ⟨k,c,e,cellK x c e _ z⟩
 ·obtain⟨v,z⟩:=I.cell x c e
  exact⟨v,cellK x c e v z⟩
 ·obtain⟨m,⟨o,_,_,ho,_⟩,_⟩:=I.loc
  exact free _ o (fun z=> (hch _ z).2.1 rfl) ho I.free
 ·obtain⟨v,o,ho,hd⟩:=I.cell x c e
  exact free c o (fun z=> (hch c z).2.2.1 x c e rfl) ho (I.freeC x c e)
 ·obtain⟨e,n,ne,nf,d⟩:=I.pin p hp
  have nch:p.1∉ch:=fun z=> (hch p.1 z).2.2.2 p hp rfl
  exact⟨keep p.1 p.2 ne nf nch e n,free p.1 p.2 nch e n,ne,nf,d⟩
theorem Inv.un{t':Nat}(I:Inv X pins σ H s)(u:Un X.fs [] H H' s.heap h')(hok:HOk X.prog X.w H' h'):Inv X pins σ H' {s with heap:=h',toks:=t'}:=by
 obtain⟨m,⟨o,es,ep,ho,r⟩,_⟩:=id I.loc
 obtain⟨sl,hL⟩:=u.any ho I.free (by simp)
 exact I.step (g':=s.gens) (d':=s.drawn) (ch:=[]) (fun _ z=>nomatch z) (fun b o _ hb _ e n=>u.keep b o e n hb (by simp)) (fun b o _ hb _ e n=>u.slot b o e n hb (by simp)) (fun b o _ e n=>u.free b o e n (by simp)) (fun b o _ e=>u.there b o e (by simp)) u.tups u.frzs u.tbls (fun m' hm=>by
  obtain⟨o',es',ep',ho',r'⟩:=hm
  rw[ho] at ho';cases ho'
  exact⟨_,es',ep',hL,r'⟩) hok I.bare
theorem Inv.call{g':Array GenState}{t':Nat}{d':Drawn}{ch:List Addr}(I:Inv X pins σ H s)(u:Un (En X.stack) ch H H' s.heap h')(hok:HOk X.prog X.w H' h')(hg:kN g')
  (hch:∀b∈ch,(b∈X.ex∨X.s₀.heap.objs.size≤b)∧b≠X.env.locals∧(∀x c,X.env.cells.lookup x=some c→c≠b)∧∀p∈X.pn++pins,p.1≠b):
  Inv X pins σ H' {s with heap:=h',gens:=g',drawn:=d',toks:=t'}:=by
 obtain⟨m,⟨o,es,ep,ho,r⟩,_⟩:=id I.loc
 obtain⟨sl,hL⟩:=u.any ho I.free fun z=> (hch _ z).2.1 rfl
 exact I.step (ch:=ch) hch (fun b o hL hb hc e n=>u.keep b o e n (fun z=> (da.mp (I.stkSub b z)).elim hL hb) hc) (fun b o _ _ hc e n=>u.any e n hc) (fun b o hc e n=>u.free b o e n hc) (fun b o hc e=>u.there b o e hc) u.tups u.frzs u.tbls (fun m' hm=>by
  obtain⟨o',es',ep',ho',r'⟩:=hm
  rw[ho] at ho';cases ho'
  exact⟨_,es',ep',hL,r'⟩) hok hg
theorem Inv.turned{t':Nat}{it:Addr}(I:Inv X pins σ H s)(k:∀b o,b≠it→s.heap.get? b=some o→h'.get? b=some o)(hn:H it=none)(hL:it≠X.env.locals)
  (h1:it∈X.ex∨X.s₀.heap.objs.size≤it) (h2:∀x c,X.env.cells.lookup x=some c→c≠it) (h3:∀p∈X.pn++pins,p.1≠it):Inv X pins σ H {s with heap:=h',toks:=t'}:=by
 have nit:∀b u,H b=some u→b≠it:=fun b u e z=>by rw[z,hn] at e;cases e
 refine I.step (g':=s.gens) (d':=s.drawn) (ch:=[it]) (fun b hb=>?_) (fun b o _ _ hc e _=>k b o (fun z=>hc (by simp[z])) e) (fun b o _ _ hc e _=> ⟨o.slots,k b o (fun z=>hc (by simp[z])) e⟩) (fun _ _ _ _ n=>n)
  (fun b o hc e=> ⟨o,k b o (fun z=>hc (by simp[z])) e⟩) (fun _ _ e=>e) (fun _ _ _ e=>e) (fun b ps e=> ⟨#[],by rw[e];simp⟩) (fun m hm=>?_) (fun b u e=>?_) I.bare
 ·have e:b=it:=by simpa using hb
  subst e
  exact⟨h1,hL,h2,h3⟩
 ·obtain⟨o,es,ep,ho,r⟩:=hm
  exact⟨o,es,ep,k _ o (Ne.symm hL) ho,r⟩
 ·refine(I.hok b u e).stay (fun c v hc q=>k c v ?_ q) (fun _ q=>q) fun _ _ q=>q
  rcases hc with z|z
  ·rw[z];exact nit b u e
  ·exact nit c _ z
theorem Inv.tok(I:Inv X pins σ H s)(t:Nat):Inv X pins σ H {s with toks:=t}:=I.un (h':=s.heap) (t':=t) Un.refl I.hok
theorem Inv.kept{t':Nat}(I:Inv X pins σ H s)(k:∀b u,s.heap.get? b=some u→h'.get? b=some u):Inv X pins σ H {s with heap:=h',toks:=t'}:=I.un (Un.kept k) (I.hok.kept k)
theorem Inv.laid{a:Addr}{o:HO}{t':Nat}(I:Inv X pins σ H s)(k:∀b u,s.heap.get? b=some u→h'.get? b=some u)(hp:s.heap.objs.size≤a)(new:ObjOk X.prog X.w (upd H a o) h' a o):
  Inv X pins σ (upd H a o) {s with heap:=h',toks:=t'}:=I.un (Un.laid k hp (I.hok.fresh hp)) (I.hok.laid k hp new)
theorem Inv.write{x e:Addr}{o:HO}{t':Nat}(I:Inv X pins σ H s)(mu:Zl (H x))(he:e=x∨H e=some (.own x))(k:∀b u,b≠e→s.heap.get? b=some u→h'.get? b=some u)(heo:∃u,h'.get? e=some u)
  (new:ObjOk X.prog X.w (upd H x o) h' x o):Inv X pins σ (upd H x o) {s with heap:=h',toks:=t'}:=I.un (Un.write mu he k heo) (I.hok.write mu he k heo new)
theorem Inv.weak{σ':List (Option V)}(I:Inv X pins σ H s)(hl:σ'.length=σ.length)(w:∀(i:Nat) v,σ'[i]?=some (some v)→σ[i]?=some (some v)):Inv X pins σ' H s:=
 ⟨I.ok,I.os,I.bare,I.base,let⟨m,hn,hl'⟩:=I.loc;⟨m,hn,fun i x v e1 e2 e3=>hl' i x v e1 (w i v e2) e3⟩,I.cell,I.free,I.freeC,I.pin,I.hok,hl.trans I.len⟩
theorem Inv.pins_of{pins':List (Addr×Obj)}(I:Inv X pins σ H s)(h:∀p∈pins',s.heap.get? p.1=some p.2∧H p.1=none∧p.1≠X.env.locals∧p.1∉X.fs∧∀v,p.2.data≠.cell v):Inv X pins' σ H s:=
 ⟨I.ok,I.os,I.bare,I.base,I.loc,I.cell,I.free,I.freeC,fun p hp=> (dt.mp hp).elim (fun z=>I.pin p (eU _ z)) (h p),I.hok,I.len⟩
theorem GK{N:List Str}(hN:N.Nodup){i j:Nat}{x:Str}(a:N[i]?=some x)(b:N[j]?=some x):i=j:=by
 obtain⟨h1,e1⟩:=cw.mp a
 obtain⟨h2,e2⟩:=cw.mp b
 exact(List.getElem_inj hN).mp (e1.trans e2.symm)
theorem Hi{M:Model}{A:de}{E:Value→Shared→Prop}{i:Nat}{x:Str}{v:V}{u:Value}{Q:Unit→Shared→Prop}(I:Inv X pins σ H s)(hN:X.N.Nodup)(hi:X.N[i]?=some x)(hx:Ol X.env.scope x)(r:RelV v u)
  (h:∀s',Inv X pins (σ.set i (some v)) H s'→(∃a,i8 a s.heap s'.heap∧(a=X.env.locals∨X.env.cells.lookup x=some a))→Q () s') (hf:X.fn x=true∨X.env.scope.names.lookup x=some .local:=by first|exact .inl rfl|exact .inr rfl|assumption):wpAny M A (storeName X.env x u) Q E s:=by
 obtain⟨m,hn,hl⟩:=id I.loc
 have hcls:(X.env.scope.kind==.class|| (X.env.scope.kind==.module&&X.env.locals !=X.env.globals))=false:=by rw[I.ok.kind];rfl
 have hiσ:i<σ.length:=by rw[I.len];exact(cw.mp hi).1
 have cne:=I.cne
 have tracked:∀{a:Addr} {h':Heap},(∃o,s.heap.get? a=some o∧H a=none)→i8 a s.heap h'→HOk X.prog X.w H h':=fun{a h'} ha hs b ob e=>by
  obtain⟨_,_,hfree⟩:=ha
  refine(I.hok b ob e).stay (fun c w' hc q=> (hs.2 c ?_).trans q) (fun _ q=>q) fun _ _ q=>q
  rintro rfl
  rcases hc with rfl|hc
  ·rw[hfree] at e;cases e
  ·rw[hfree] at hc;cases hc
 rcases hx with hk|hk
 ·refine wpAny_storeName_local hk hn (fun h' hn' hs=>?_) hcls
  obtain⟨oL,_,_,hoL,_⟩:=id hn
  refine h _ ⟨I.ok,I.os,I.bare,⟨fun b o e n hb hx=>?_,fun b o e n hb hx=>?_,I.base.free,fun b o e hx=>?_,I.base.tups,I.base.frzs,I.base.tbls⟩,⟨_,hn',fun j y v' e1 e2 e3=>?_⟩,fun y c e=>?_,I.free,I.freeC,fun p hp=>?_,tracked ⟨oL,hoL,I.free⟩ hs,by simpa using I.len⟩ ⟨_,hs,.inl rfl⟩
  ·exact(hs.2 b (dF (dm (dc e) I.ok.above))).trans (I.base.keep b o e n hb hx)
  ·obtain⟨sl,e1⟩:=I.base.slot b o e n hb hx
   exact⟨sl,(hs.2 b (dF (dm (dc e) I.ok.above))).trans e1⟩
  ·obtain⟨o',e1⟩:=I.base.there b o e hx
   exact⟨o',(hs.2 b (dF (dm (dc e) I.ok.above))).trans e1⟩
  ·by_cases hj:j=i
   ·subst hj
    rw[hi] at e1;cases e1
    rw[dr hiσ] at e2
    cases e2
    exact⟨u,r,.inl ⟨hk,by simp⟩⟩
   ·rw[dz (Ne.symm hj)] at e2
    obtain⟨u',r',q⟩:=hl j y v' e1 e2 e3
    refine⟨u',r',?_⟩
    rcases q with⟨k,e⟩| ⟨k,c,e,z⟩
    ·refine .inl ⟨k,?_⟩
     have:y≠x:=fun e=>hj (GK hN e1 (e▸hi))
     simp[this,e]
    ·exact .inr ⟨k,c,e,z.sameBut hs (cne y c e)⟩
  ·obtain⟨w',z⟩:=I.cell y c e
   exact⟨w',z.sameBut hs (cne y c e)⟩
  ·obtain⟨e,n,ne,nf,d⟩:=I.pin p hp
   exact⟨(hs.2 p.1 ne).trans e,n,ne,nf,d⟩
 ·have hfn:X.fn x=true:=by
   rcases hf with z|z
   ·exact z
   ·rw[z] at hk;cases hk
  obtain⟨c,hc⟩:=I.ok.has x (.inl hk)
  obtain⟨w',z⟩:=I.cell x c hc
  refine wpAny_storeName_cell I.ok.kind hk hc z (fun h' hc' hs=>?_)
  obtain⟨oc,hoc,hocd⟩:=id z
  refine h {s with heap:=h'} ⟨I.ok,I.os,I.bare,⟨fun b o e n hb hx=>?_,fun b o e n hb hx=>?_,I.base.free,fun b o e hx=>?_,I.base.tups,I.base.frzs,I.base.tbls⟩,⟨m,hn.sameBut hs (Ne.symm (cne x c hc)),fun j y v' e1 e2 e3=>?_⟩,fun y c' e=>?_,I.free,I.freeC,fun p hp=>?_,tracked ⟨oc,hoc,I.freeC x c hc⟩ hs,by simpa using I.len⟩ ⟨c,hs,.inr hc⟩
  ·exact(hs.2 b (dF (dm (dc e) (I.ok.cab x c hfn hc)))).trans (I.base.keep b o e n hb hx)
  ·obtain⟨sl,e1⟩:=I.base.slot b o e n hb hx
   exact⟨sl,(hs.2 b (dF (dm (dc e) (I.ok.cab x c hfn hc)))).trans e1⟩
  ·obtain⟨o',e1⟩:=I.base.there b o e hx
   exact⟨o',(hs.2 b (dF (dm (dc e) (I.ok.cab x c hfn hc)))).trans e1⟩
  ·by_cases hj:j=i
   ·subst hj
    rw[hi] at e1;cases e1
    rw[dr hiσ] at e2
    cases e2
    exact⟨u,r,.inr ⟨.inl hk,c,hc,hc'⟩⟩
   ·rw[dz (Ne.symm hj)] at e2
    obtain⟨u',r',q⟩:=hl j y v' e1 e2 e3
    refine⟨u',r',?_⟩
    rcases q with q| ⟨k,c',e,z'⟩
    ·exact .inl q
    ·refine .inr ⟨k,c',e,z'.sameBut hs ?_⟩
     rintro rfl
     exact hj (GK hN e1 (I.ok.inj _ _ _ e hc▸hi))
  ·by_cases hcc:c'=c
   ·subst hcc;exact⟨_,hc'⟩
   ·obtain⟨w2,z2⟩:=I.cell y c' e
    exact⟨w2,z2.sameBut hs hcc⟩
  ·obtain⟨e,n,ne,nf,d⟩:=I.pin p hp
   refine⟨(hs.2 p.1 ?_).trans e,n,ne,nf,d⟩
   intro q
   rw[q,hoc] at e
   have q':oc=p.2:=dQ.inj e
   exact d w' (by rw[←q'];exact hocd)
theorem EG{M:Model}{A:de}{E:Value→Shared→Prop}{i:Nat}{x:Str}{v:V}{u:Value}{Q:Unit→Shared→Prop}(I:Inv X pins σ H s)(hN:X.N.Nodup)(hi:X.N[i]?=some x)(hx:Ol X.env.scope x)(r:RelV v u)
  (h:∀s',Inv X pins (σ.set i (some v)) H s'→Q () s') (hf:X.fn x=true∨X.env.scope.names.lookup x=some .local:=by first|exact .inl rfl|exact .inr rfl|assumption):wpAny M A (storeName X.env x u) Q E s:=
 Hi I hN hi hx r (fun s' I' _=>h s' I') hf
theorem Inv.call'{s':Shared}{ch:List Addr}(I:Inv X pins σ H s)(ho:s'.os=s.os)(u:Un (En X.stack) ch H H' s.heap s'.heap)(hok:HOk X.prog X.w H' s'.heap)(hg:kN s'.gens)
  (hch:∀b∈ch,(b∈X.ex∨X.s₀.heap.objs.size≤b)∧b≠X.env.locals∧(∀x c,X.env.cells.lookup x=some c→c≠b)∧∀p∈X.pn++pins,p.1≠b):Inv X pins σ H' s':=by
 obtain⟨h',g',d',t',o'⟩:=s'
 have e:o'=s.os:=ho
 subst e
 exact I.call (g':=g') (t':=t') (d':=d') u hok hg hch
end
abbrev XK:=Value→Option Addr→Hp→Prop
abbrev St:=List (Option V)
abbrev VK:=V→Hp→Prop
abbrev TE:=St→Hp→VK→Prop
abbrev TT:=St→Hp→(Bool→Hp→Prop)→Prop
abbrev TA:=St→Hp→(List V→Hp→Prop)→Prop
structure Ends where
 nx:St→Hp→Prop
 rt:VK
 bk:St→Hp→Prop:=fun _ _=>False
 ct:St→Hp→Prop:=fun _ _=>False
abbrev TS:=Ends→St→Hp→Prop
def EP(X:Cx)(pins:List (Addr×Obj))(σ:St)(Q:VK)(u:Value)(s':Shared):Prop:=∃v H',Inv X pins σ H' s'∧RelV v u∧Q v H'
def TP(X:Cx)(pins:List (Addr×Obj))(σ:St)(Q:Bool→Hp→Prop)(b:Bool)(s':Shared):Prop:=∃H',Inv X pins σ H' s'∧Q b H'
def AP(X:Cx)(pins:List (Addr×Obj))(σ:St)(Q:List V→Hp→Prop)(us:List Value)(s':Shared):Prop:=∃vs H',Inv X pins σ H' s'∧Vals vs us∧Q vs H'
def SP(X:Cx)(pins:List (Addr×Obj))(D:Ends)(f:Flow)(s':Shared):Prop:=
 match f with
 | .next=>∃σ' H',Inv X pins σ' H' s'∧D.nx σ' H'
 | .brk=>∃σ' H',Inv X pins σ' H' s'∧D.bk σ' H'
 | .cont=>∃σ' H',Inv X pins σ' H' s'∧D.ct σ' H'
 | .ret u=>∃v σ' H',Inv X pins σ' H' s'∧RelV v u∧D.rt v H'
def PE(X:Cx)(e:Expr)(t:TE):Prop:=
 ∀(pins:List (Addr×Obj)) (s:Shared) (σ:St) (H:Hp) (Q:VK),Inv X pins σ H s→t σ H Q→wpAny (model X.prog X.w) X.A (eval e X.env) (EP X pins σ Q) X.xe s
def PT(X:Cx)(e:Expr)(t:TT):Prop:=
 ∀(pins:List (Addr×Obj)) (s:Shared) (σ:St) (H:Hp) (Q:Bool→Hp→Prop),Inv X pins σ H s→t σ H Q→wpAny (model X.prog X.w) X.A (isTrue e X.env (eval e X.env)) (TP X pins σ Q) X.xe s
def PW(X:Cx)(e:Expr)(t:TT):Prop:=
 ∀(whole:Sem Value) (pins:List (Addr×Obj)) (s:Shared) (σ:St) (H:Hp) (Q:Bool→Hp→Prop),Inv X pins σ H s→t σ H Q→wpAny (model X.prog X.w) X.A (isTrue e X.env whole) (TP X pins σ Q) X.xe s
theorem PW.pt{X:Cx}{e:Expr}{t:TT}(h:PW X e t):PT X e t:=h _
def PA(X:Cx)(es:List Expr)(t:TA):Prop:=
 ∀(pos:Pos) (pins:List (Addr×Obj)) (s:Shared) (σ:St) (H:Hp) (Q:List V→Hp→Prop),Inv X pins σ H s→t σ H Q→wpAny (model X.prog X.w) X.A (spliced (fY pos (cb es X.env))) (AP X pins σ Q) X.xe s
def PS(X:Cx)(st:Stmt)(t:TS):Prop:=
 ∀(pins:List (Addr×Obj)) (s:Shared) (σ:St) (H:Hp) (D:Ends),Inv X pins σ H s→t D σ H→wpAny (model X.prog X.w) X.A (exec st X.env) (SP X pins D) X.xe s
def PSs(X:Cx)(st:List Stmt)(t:TS):Prop:=
 ∀(pins:List (Addr×Obj)) (s:Shared) (σ:St) (H:Hp) (D:Ends),Inv X pins σ H s→t D σ H→wpAny (model X.prog X.w) X.A (execs st X.env) (SP X pins D) X.xe s
theorem Aq{α:Type}{t:Sem α}{Q Q':α→Shared→Prop}{M:Model}{A:de}{E:Value→Shared→Prop}{s:Shared}(h:wpAny M A t Q E s)(hQ:∀a s,Q a s→Q' a s):wpAny M A t Q' E s:=gD h hQ fun _ _ x=>x
section
variable{X:Cx}
def XY(i:Nat):TE:=fun σ H Q=>∃v,σ[i]?=some (some v)∧Q v H
def tC(v:V):TE:=fun _ H Q=>Q v H
theorem Oq{i:Nat}{x:Str}{pos:Pos}(hN:X.N[i]?=some x)(hv:XS X.env.scope x)(hd:(x==("__debug__" :Str))=false:=by decide)(hcd:(x==("__classdict__" :Str))=false:=by decide):PE X (.Name x pos) (XY i):=by
 intro pins s σ H Q I h
 obtain⟨v,e,h⟩:=h
 obtain⟨m,hn,hl⟩:=I.loc
 obtain⟨u,r,l⟩:=hl i x v hN e hv
 have fin:EP X pins σ Q u s:=⟨v,H,I,r,h⟩
 rcases l with⟨hk,hm⟩| ⟨hk,c,hc,hcell⟩
 ·exact wpAny_Name (wpAny_loadName_local I.ok.kind hk hn hm fin) hd
 ·rcases hk with hk|hk
  ·exact wpAny_Name (wpAny_loadName_cell I.ok.kind hk hc hcell fin) hd
  ·exact wpAny_Name (wpAny_loadName_free I.ok.kind hk hc hcell fin hcd) hd
theorem LN{i j pos}:PE X (.Constant (.int i) j pos) (tC (.int i)):=fun _ _ _ H _ I h=>wpAny_Constant_int ⟨.int i,H,I.tok _,⟨_,rfl⟩,h⟩
theorem Os{b j pos}:PE X (.Constant (.bool b) j pos) (tC (.bl b)):=fun _ _ _ H _ I h=>Constant_bool ⟨.bl b,H,I,rfl,h⟩
theorem VG{j pos}:PE X (.Constant .none j pos) (tC .non):=fun _ _ _ H _ I h=>Constant_none ⟨.non,H,I,rfl,h⟩
theorem CQ{x j pos}:PE X (.Constant (.str x) j pos) (tC (.str x)):=fun _ _ _ H _ I h=>Calls.Constant_str ⟨.str x,H,I.tok _,⟨_,rfl⟩,h⟩
def Gl(X:Cx)(x:Str):Prop:=X.env.kindOf x=some .globalImplicit
theorem EH{E:Value→Shared→Prop}{pins:List (Addr×Obj)}{s:Shared}{σ:St}{H:Hp}{x:Str}{u:Value}{pos:Pos}{Q:Value→Shared→Prop}(I:Inv X pins σ H s)(hg:Gl X x)(hm:X.mg x=some u)(h:Q u s)
  (hd:(x==("__debug__" :Str))=false:=by decide):wpAny (model X.prog X.w) X.A (eval (.Name x pos) X.env) Q E s:=
 Calls.Name_function_global I.ok.kind hg (Calls.loadGlobal_global (by rw[I.ok.glob];exact I.mod.glob.keeps I.bk) hm h) hd
theorem Eo{E:Value→Shared→Prop}{pins:List (Addr×Obj)}{s:Shared}{σ:St}{H:Hp}{x:Str}{u:Value}{pos:Pos}{Q:Value→Shared→Prop}(I:Inv X pins σ H s)(hg:Gl X x)(hm:X.mg x=none)(hv:dY x=some u)(h:Q u s)
  (hn:x≠"__name__":=by decide) (hd:(x==("__debug__" :Str))=false:=by decide):wpAny (model X.prog X.w) X.A (eval (.Name x pos) X.env) Q E s:=by
 obtain⟨mb,h1,h2⟩:=I.mod.blt
 exact Calls.Name_function_global I.ok.kind hg (Calls.loadGlobal_builtin (by rw[I.ok.glob];exact I.mod.glob.keeps I.bk) hm (by rw[I.ok.blt];exact h1.keeps I.bk) ((h2 x hn).trans hv) h) hd
theorem Bh{x:Str}{v:V}{u:Value}{pos:Pos}(hg:Gl X x)(hm:X.mg x=some u)(r:RelV v u)(hd:(x==("__debug__" :Str))=false:=by decide):PE X (.Name x pos) (tC v):=
 fun _ _ _ H _ I h=>EH I hg hm ⟨v,H,I,r,h⟩ hd
theorem Ma{x:Str}{v:V}{u:Value}{pos:Pos}(hg:Gl X x)(hm:X.mg x=none)(hv:dY x=some u)(r:RelV v u)(hn:x≠"__name__":=by decide)(hd:(x==("__debug__" :Str))=false:=by decide):PE X (.Name x pos) (tC v):=
 fun _ _ _ H _ I h=>Eo I hg hm hv ⟨v,H,I,r,h⟩ hn hd
variable{a b:Expr}{ta tb:TE}{pos:Pos}
variable{tA tB':TT}{rest:List Expr}
def aA(t u:TT):TT:=fun σ H Q=>t σ H fun c H1=>if c=true then u σ H1 Q else Q false H1
def bT(t u:TT):TT:=fun σ H Q=>t σ H fun c H1=>if c=true then Q true H1 else u σ H1 Q
def aB(t:TT):TT:=fun σ H Q=>t σ H fun c H1=>Q (!c) H1
theorem SA(ha:PT X a tA):PW X (.BoolOp .And [a] pos) tA:=by
 intro wh pins s σ H Q I h
 refine isTrue_and (Aq (ha pins s σ H Q I h) fun c s1 e=>?_)
 cases c with
 |true=>exact isTrue_and_nil e
 |false=>exact e
theorem Ot(ha:PT X a tA):PW X (.BoolOp .Or [a] pos) tA:=by
 intro wh pins s σ H Q I h
 refine isTrue_or (Aq (ha pins s σ H Q I h) fun c s1 e=>?_)
 cases c with
 |false=>exact isTrue_or_nil e
 |true=>exact e
theorem VH(ha:PT X a tA)(hb:PW X (.BoolOp .And (b::rest) pos) tB'):PW X (.BoolOp .And (a::b::rest) pos) (aA tA tB'):=by
 intro wh pins s σ H Q I h
 refine isTrue_and (Aq (ha pins s σ H _ I h) fun c s1 ⟨H1,I1,q1⟩=>?_)
 cases c with
 |true=>exact hb wh pins s1 σ H1 Q I1 q1
 |false=>exact⟨H1,I1,q1⟩
theorem UJ(ha:PT X a tA)(hb:PW X (.BoolOp .Or (b::rest) pos) tB'):PW X (.BoolOp .Or (a::b::rest) pos) (bT tA tB'):=by
 intro wh pins s σ H Q I h
 refine isTrue_or (Aq (ha pins s σ H _ I h) fun c s1 ⟨H1,I1,q1⟩=>?_)
 cases c with
 |true=>exact⟨H1,I1,q1⟩
 |false=>exact hb wh pins s1 σ H1 Q I1 q1
theorem Ou(ha:PT X a tA):PT X (.UnaryOp .Not a pos) (aB tA):=by
 intro pins s σ H Q I h
 exact isTrue_not (ha pins s σ H (fun c H1=>Q (!c) H1) I h)
def XZ(ta tb:TE):TE:=fun σ H Q=>ta σ H fun x H1=>∃c,x=.bl c∧if c=true then tb σ H1 Q else Q (.bl false) H1
def Xa(ta:TE):TE:=fun σ H Q=>ta σ H fun x H1=>∃c,x=.bl c∧Q (.bl (!c)) H1
theorem VI{op}{t:TE}(h:PE X a t):PE X (.BoolOp op [a] pos) t:=fun pins s σ H Q I hw=>BoolOp_one (h pins s σ H Q I hw)
theorem VJ(ha:PE X a ta)(hb:PE X (.BoolOp .And (b::rest) pos) tb):PE X (.BoolOp .And (a::b::rest) pos) (XZ ta tb):=by
 intro pins s σ H Q I h
 refine BoolOp_and (Aq (ha pins s σ H _ I h) fun v s1 ⟨x,H1,I1,r1,q1⟩=>?_)
 obtain⟨c,rfl,q1⟩:=q1
 cases r1
 refine ji ?_
 cases c with
 |true=>exact hb pins s1 σ H1 Q I1 q1
 |false=>exact⟨.bl false,H1,I1,rfl,q1⟩
theorem VL(ha:PE X a ta):PE X (.UnaryOp .Not a pos) (Xa ta):=by
 intro pins s σ H Q I h
 refine UnaryOp_ (Aq (ha pins s σ H _ I h) fun v s1 ⟨x,H1,I1,r1,q1⟩=>?_)
 obtain⟨c,rfl,q1⟩:=q1
 cases r1
 exact not_of (ji ⟨.bl (!c),H1,I1,rfl,q1⟩)
def bU(t:TT)(ta tb:TE):TE:=fun σ H Q=>t σ H fun c H1=>if c=true then ta σ H1 Q else tb σ H1 Q
theorem Ov{c:Expr}(hc:PT X c tA)(ha:PE X a ta)(hb:PE X b tb):PE X (.IfExp c a b pos) (bU tA ta tb):=by
 intro pins s σ H Q I h
 refine wpAny_IfExp (Aq (hc pins s σ H _ I h) fun d s1 ⟨H1,I1,q1⟩=>?_)
 cases d with
 |true=>exact ha pins s1 σ H1 Q I1 q1
 |false=>exact hb pins s1 σ H1 Q I1 q1
end
def SqL(K:a8)(H:Hp)(a:Addr)(xs:List V):Prop:=
 Rd H a (.lst xs)∨
  ∃(o:Obj) (its:Array Value) (n:Nat),K.lookup a=some o∧o.cls=.type "list"∧o.dict=none∧o.data=.seq its n∧its.size≤sizeLine∧Vals xs its.toList
def HU(K:a8)(H:Hp)(a:Addr)(xs:List V):Prop:=
 Rd H a (.tup xs)∨
  ∃(o:Obj) (its:Array Value) (n:Nat),K.lookup a=some o∧o.cls=.type "tuple"∧o.data=.seq its n∧its.size≤sizeLine∧Vals xs its.toList
def aC:Value→Option V
 | .none=>some .non
 | .bool b=>some (.bl b)
 | .int i _=>some (.int i)
 | .str x _=>some (.str x)
 | .bytes b _=>some (.byt b)
 | .float b _=>some (.flt b)
 | .ref a=>some (.ref a)
 | .type n=>some (.ty n)
 |_=>none
theorem RelV.abs{x:V}{u:Value}(r:RelV x u):aC u=some x:=by
 cases x with
 |non=>cases r;rfl
 |bl _=>cases r;rfl
 |int _=>obtain⟨t,rfl⟩:=r;rfl
 |str _=>obtain⟨t,rfl⟩:=r;rfl
 |byt _=>obtain⟨t,rfl⟩:=r;rfl
 |flt _=>obtain⟨t,rfl⟩:=r;rfl
 |ref _=>cases r;rfl
 |ty _=>cases r;rfl
theorem RelV.inj{x y:V}{u:Value}(r:RelV x u)(q:RelV y u):x=y:=dQ.inj (r.abs.symm.trans q.abs)
theorem Vals.inj:∀{xs ys:List V} {us:List Value},Vals xs us→Vals ys us→xs=ys
 |_,_,_,.nil,.nil=>rfl
 |_,_,_,.cons r t,.cons r' t'=>by rw[r.inj r',Vals.inj t t']
section
variable{X:Cx}{pins:List (Addr×Obj)}{σ:St}{H:Hp}{s:Shared}{a:Addr}{xs ys:List V}
theorem SqL.of{K:a8}(h:H a=some (.lst xs)):SqL K H a xs:=.inl (.inl h)
theorem Inv.list(I:Inv X pins σ H s)(h:SqL X.K H a xs):∃its:List Value,Vals xs its∧PlainL s.heap a its.toArray∧xs.length≤sizeLine:=by
 rcases h with h| ⟨o,its,n,hk,hc,hd,hs,hz,r⟩
 ·obtain⟨z,its,n,r,e⟩:=h.ok I.hok
  exact⟨its,r,⟨_,n,e,rfl,rfl,rfl⟩,z⟩
 ·refine⟨its.toList,r,⟨o,n,I.kIn a o hk,hc,hd,by simpa using hs⟩,?_⟩
  have e:=r.length
  simp only[cZ] at e
  omega
theorem Inv.tuple(I:Inv X pins σ H s)(h:HU X.K H a xs):∃its:List Value,Vals xs its∧IsTup s.heap a its.toArray∧xs.length≤sizeLine:=by
 rcases h with h| ⟨o,its,n,hk,hc,hs,hz,r⟩
 ·obtain⟨z,its,r,p⟩:=h.ok I.hok
  exact⟨its,r,p,z⟩
 ·refine⟨its.toList,r,⟨o,I.kIn a o hk,hc,n,by simpa using hs⟩,?_⟩
  have e:=r.length
  simp only[cZ] at e
  omega
theorem Inv.list_inj(I:Inv X pins σ H s)(h:SqL X.K H a xs)(h':SqL X.K H a ys):xs=ys:=by
 obtain⟨its,r,⟨o,n,e,_,_,d⟩,_⟩:=I.list h
 obtain⟨its',r',⟨o',n',e',_,_,d'⟩,_⟩:=I.list h'
 rw[e] at e';cases e'
 rw[d] at d'
 injection d' with d1 _
 have:its=its':=by simpa using congrArg Array.toList d1
 subst this
 exact r.inj r'
theorem Inv.tuple_inj(I:Inv X pins σ H s)(h:HU X.K H a xs)(h':HU X.K H a ys):xs=ys:=by
 obtain⟨its,r,⟨o,e,_,n,d⟩,_⟩:=I.tuple h
 obtain⟨its',r',⟨o',e',_,n',d'⟩,_⟩:=I.tuple h'
 rw[e] at e';cases e'
 rw[d] at d'
 injection d' with d1 _
 have:its=its':=by simpa using congrArg Array.toList d1
 subst this
 exact r.inj r'
end
section
variable{X:Cx}{pins:List (Addr×Obj)}{σ:St}{H:Hp}{s:Shared}{E:Value→Shared→Prop}
end
section
variable{X:Cx}{st:Stmt}{rest:List Stmt}{t u:TS}{e:Expr}{te:TE}{pos:Pos}
def Xb:TS:=fun D σ H=>D.nx σ H
def aD(t u:TS):TS:=fun D σ H=>t {D with nx:=u D} σ H
theorem Ia:PSs X [] Xb:=fun _ _ σ H _ I h=>jD ⟨σ,H,I,h⟩
theorem Cd(h1:PS X st t)(h2:PSs X rest u):PSs X (st::rest) (aD t u):=by
 intro pins s σ H D I h
 refine wpAny_execs_cons (Aq (h1 pins s σ H {D with nx:=u D} I h) fun f s1 q=>?_)
 cases f with
 |next=>
  obtain⟨σ',H',I',q⟩:=q
  exact h2 pins s1 σ' H' D I' q
 |ret v=>exact q
 |brk=>exact q
 |cont=>exact q
theorem DW(h1:PS X st t):PSs X [st] t:=by
 intro pins s σ H D I h
 refine wpAny_execs_cons (Aq (h1 pins s σ H D I h) fun f s1 q=>?_)
 cases f with
 |next=>exact jD q
 |ret v=>exact q
 |brk=>exact q
 |cont=>exact q
theorem Inv.quiet{pins:List (Addr×Obj)}{σ:St}{H:Hp}{s:Shared}(I:Inv X pins σ H s):interactive X.env=false:=by simp[interactive,I.ok.kind]
def Xc(te:TE):TS:=fun D σ H=>te σ H fun _ H1=>D.nx σ H1
theorem SB(he:PE X e te)(hs:ju e none pos.line X.env=pure false:=by rfl):PS X (.Expr e pos) (Xc te):=by
 intro pins s σ H D I h
 exact wpAny_Expr_any (Aq (he pins s σ H _ I h) fun v s1 ⟨x,H1,I1,r1,q1⟩=> ⟨σ,H1,I1,q1⟩) I.quiet hs
def aE(te:TE):TS:=fun D σ H=>te σ H D.rt
theorem Ep(he:PE X e te):PS X (.Return (some e) pos) (aE te):=by
 intro pins s σ H D I h
 exact wpAny_Return_some (Aq (he pins s σ H _ I h) fun v s1 ⟨x,H1,I1,r1,q1⟩=> ⟨x,σ,H1,I1,r1,q1⟩)
def aF(c:TT)(t u:TS):TS:=fun D σ H=>c σ H fun b H1=>if b=true then t D σ H1 else u D σ H1
theorem Ow{c:Expr}{a b:List Stmt}{tc:TT}(hc:PT X c tc)(ha:PSs X a t)(hb:PSs X b u):PS X (.If c a b pos) (aF tc t u):=by
 intro pins s σ H D I h
 refine wpAny_If (Aq (hc pins s σ H _ I h) fun d s1 ⟨H1,I1,q1⟩=>?_)
 cases d with
 |true=>exact ha pins s1 σ H1 D I1 q1
 |false=>exact hb pins s1 σ H1 D I1 q1
end
abbrev TG:=V→St→Hp→(St→Hp→Prop)→Prop
abbrev VM:=List V→St→Hp→(St→Hp→Prop)→Prop
def PG(X:Cx)(target:Expr)(t:TG):Prop:=
 ∀(pins:List (Addr×Obj)) (s:Shared) (σ:St) (H:Hp) (v:V) (u:Value) (Q:St→Hp→Prop),Inv X pins σ H s→RelV v u→t v σ H Q→
  wpAny (model X.prog X.w) X.A (assign target X.env u) (fun _ s'=>∃σ' H',Inv X pins σ' H' s'∧Q σ' H') X.xe s
def Zo(X:Cx)(ts:List Expr)(t:VM):Prop:=
 ∀(pins:List (Addr×Obj)) (s:Shared) (σ:St) (H:Hp) (vs:List V) (us:List Value) (Q:St→Hp→Prop),Inv X pins σ H s→Vals vs us→t vs σ H Q→
  wpAny (model X.prog X.w) X.A (assignInOrder ((gM ts X.env).map (·.2)) us) (fun _ s'=>∃σ' H',Inv X pins σ' H' s'∧Q σ' H') X.xe s
abbrev VN:=V→V→V→Hp→(Hp→Prop)→Prop
def Xd(X:Cx)(t:VN):Prop:=
 ∀(pins:List (Addr×Obj)) (s:Shared) (σ:St) (H:Hp) (o i v:V) (ov iv u:Value) (Q:Hp→Prop),Inv X pins σ H s→RelV o ov→RelV i iv→RelV v u→t o i v H Q→
  wpAny (model X.prog X.w) X.A (setItem ov iv u) (fun _ s'=>∃H',Inv X pins σ H' s'∧Q H') X.xe s
abbrev Xe:=V→V→Hp→VK→Prop
def aG(X:Cx)(op:mF)(t:Xe):Prop:=
 ∀(pins:List (Addr×Obj)) (s:Shared) (σ:St) (H:Hp) (x y:V) (v u:Value) (Q:VK),Inv X pins σ H s→RelV x v→RelV y u→t x y H Q→
  wpAny (model X.prog X.w) X.A (inplaceOp op v u) (EP X pins σ Q) X.xe s
section
variable{X:Cx}{pos:Pos}
def UK(i:Nat):TG:=fun v σ H Q=>Q (σ.set i (some v)) H
theorem Ib{i:Nat}{x:Str}(hN:X.N.Nodup)(hi:X.N[i]?=some x)(hx:Ol X.env.scope x)(hf:X.fn x=true∨X.env.scope.names.lookup x=some .local:=by first|exact .inl rfl|exact .inr rfl|assumption):PG X (.Name x pos) (UK i):=by
 intro pins s σ H v u Q I r h
 exact wpAny_assign_Name (EG I hN hi hx r (fun s' I'=> ⟨_,H,I',h⟩) hf)
def aH:VM:=fun vs σ H Q=>vs=[]∧Q σ H
def Xf(t:TG)(u:VM):VM:=fun vs σ H Q=>∃v r,vs=v::r∧t v σ H fun σ' H'=>u r σ' H' Q
theorem SC:Zo X [] aH:=by
 intro pins s σ H vs us Q I r h
 obtain⟨e,h⟩:=h
 subst e
 cases r
 exact assignInOrder_nil ⟨σ,H,I,h⟩
theorem Jg{e:Expr}{es:List Expr}{t:TG}{u:VM}(h1:PG X e t)(h2:Zo X es u)
  (hs:(gM (e::es) X.env).map (·.2)=assign e X.env::(gM es X.env).map (·.2):=by rfl):Zo X (e::es) (Xf t u):=by
 intro pins s σ H vs us Q I r h
 obtain⟨v,vr,e1,h⟩:=h
 subst e1
 cases r with
 |cons r rr=>
  rw[hs]
  refine assignInOrder_cons (Aq (h1 pins s σ H _ _ _ I r h) fun _ s1 ⟨σ1,H1,I1,q1⟩=>?_)
  exact h2 pins s1 σ1 H1 _ _ Q I1 rr q1
def aI(K:a8)(n:Nat)(t:VM):TG:=fun v σ H Q=>∃a xs,v=.ref a∧HU K H a xs∧xs.length=n∧t xs σ H Q
theorem VO{es:List Expr}{k:Nat}{t:VM}{n:Nat}(hc:X.calm=true)(h:Zo X es t)
  (hn:(gM es X.env).length=n:=by rfl) (hst:(gM es X.env).findIdx? (·.1)=none:=by rfl):PG X (.Tuple es k pos) (aI X.K n t):=by
 intro pins s σ H v u Q I r hw
 obtain⟨a,xs,e1,hq,hl,hw⟩:=hw
 subst e1
 cases r
 obtain⟨its,rv,ht,hz⟩:=I.tuple hq
 refine assign_Tuple_tuple (I.ok.hd hc) ht (by simp[hn,←hl,rv.length]) hst fun h' hx=>?_
 have I1:Inv X pins σ H {s with heap:=h'}:=I.kept (t':=s.toks) fun b o e=>hx b o (dF (dc e)) e
 exact h pins _ σ H xs _ Q I1 (by simpa using rv) hw
def aJ(to ti:TE)(t:VN):TG:=fun v σ H Q=>to σ H fun o H1=>ti σ H1 fun i H2=>t o i v H2 fun H3=>Q σ H3
theorem VP{o i:Expr}{to ti:TE}{t:VN}(ho:PE X o to)(hi:PE X i ti)(hs:Xd X t)
  (ha:∀v,assign (.Subscript o i pos) X.env v=(do
   let ov←holding [v] (eval o X.env)
   let iv←holding [v,ov] (eval i X.env)
   standAt pos
   holding [v,ov,iv] (setItem ov iv v)
   release [v,ov,iv] []):=by intro _;rfl):PG X (.Subscript o i pos) (aJ to ti t):=by
 intro pins s σ H v u Q I r h
 rw[ha]
 refine a9 (eC (Aq (ho pins s σ H _ I h) fun ov s1 ⟨x,H1,I1,r1,q1⟩=>?_))
 refine a9 (eC (Aq (hi pins s1 σ H1 _ I1 q1) fun iv s2 ⟨y,H2,I2,r2,q2⟩=>?_))
 refine a9 (ja (a9 (eC (Aq (hs pins s2 σ H2 x y v ov iv u _ I2 r1 r2 r q2) fun _ s3 ⟨H3,I3,q3⟩=>?_))))
 exact wpAny_release ⟨σ,H3,I3,q3⟩
def Xh(te:TE)(g:TG):TS:=fun D σ H=>te σ H fun x H1=>g x σ H1 D.nx
theorem Ox{tg e:Expr}{te:TE}{g:TG}(he:PE X e te)(hg:PG X tg g)(hs:mQ [tg] e pos.line X.env=pure false:=by rfl)(hw:mS [tg] e X.env=pure none:=by rfl)
  (h1:(gM [tg] X.env).map (·.2)=[assign tg X.env]:=by rfl):PS X (.Assign [tg] e pos) (Xh te g):=by
 intro pins s σ H D I h
 refine wpAny_Assign_stores (Aq (he pins s σ H _ I h) fun v s1 ⟨x,H1,I1,r1,q1⟩=>?_) hs hw
 rw[h1]
 exact Aq (hg pins s1 σ H1 x v _ I1 r1 q1) fun _ s2 q=>q
theorem LO{i:Nat}{x:Str}{e:Expr}{te:TE}{pos':Pos}(hN:X.N.Nodup)(hi:X.N[i]?=some x)(hx:Ol X.env.scope x)(he:PE X e te)(hs:ju e (some (.Name x pos')) pos.line X.env=pure false:=by rfl)(hf:X.fn x=true∨X.env.scope.names.lookup x=some .local:=by first|exact .inl rfl|exact .inr rfl|assumption):
  PS X (.Assign [.Name x pos'] e pos) (Xh te (UK i)):=by
 intro pins s σ H D I h
 refine wpAny_Assign_Name (Aq (he pins s σ H _ I h) fun v s1 ⟨y,H1,I1,r1,q1⟩=>?_) hs
 exact EG I1 hN hi hx r1 (fun s2 I2=> ⟨_,H1,I2,q1⟩) hf
def aK(i:Nat)(te:TE)(ti:Xe):TS:=fun D σ H=>∃x,σ[i]?=some (some x)∧te σ H fun y H1=>ti x y H1 fun z H2=>D.nx (σ.set i (some z)) H2
theorem VQ{i:Nat}{x:Str}{e:Expr}{te:TE}{op:mF}{ti:Xe}{pos':Pos}(hN:X.N.Nodup)(hi:X.N[i]?=some x)(hx:Ol X.env.scope x)(he:PE X e te)(ho:aG X op ti)(hf:X.fn x=true∨X.env.scope.names.lookup x=some .local:=by first|exact .inl rfl|exact .inr rfl|assumption):
  PS X (.AugAssign (.Name x pos') op e pos) (aK i te ti):=by
 intro pins s σ H D I h
 obtain⟨v,e1,h⟩:=h
 obtain⟨m,hn,hl⟩:=I.loc
 have vis:XS X.env.scope x:=by rcases hx with k|k;exact .inl k;exact .inr (.inl k)
 obtain⟨u,r,l⟩:=hl i x v hi e1 vis
 refine wpAny_AugAssign_Name ?_
 have go:wpAny (model X.prog X.w) X.A (eval e X.env) (fun w s₂=>wpAny (model X.prog X.w) X.A (inplaceOp op u w) (fun r s₃=>wpAny (model X.prog X.w) X.A (storeName X.env x r) (fun _=>SP X pins D .next) X.xe s₃) X.xe s₂) X.xe s:=by
  refine Aq (he pins s σ H _ I h) fun w s1 ⟨y,H1,I1,r1,q1⟩=>?_
  refine Aq (ho pins s1 σ H1 v y u w _ I1 r r1 q1) fun z s2 ⟨zv,H2,I2,r2,q2⟩=>?_
  exact EG I2 hN hi hx r2 (fun s3 I3=> ⟨_,H2,I3,q2⟩) hf
 rcases l with⟨hk,hm⟩| ⟨hk,c,hc,hcell⟩
 ·exact wpAny_loadName_local I.ok.kind hk hn hm go
 ·rcases hk with hk|hk
  ·exact wpAny_loadName_cell I.ok.kind hk hc hcell go
  ·rcases hx with k|k
   ·have:X.env.scope.names.lookup x=some .free:=hk
    rw[k] at this;cases this
   ·have:X.env.scope.names.lookup x=some .free:=hk
    rw[k] at this;cases this
def bV(f:Int→Int→Int):Xe:=fun x y H Q=>∃i j,x=.int i∧y=.int j∧Q (.int (f i j)) H
theorem VR:aG X .Add (bV fun i j=>i+j):=by
 intro pins s σ H x y v u Q I r1 r2 h
 obtain⟨i,j,e1,e2,q⟩:=h
 subst e1;subst e2
 obtain⟨t,rfl⟩:=r1
 obtain⟨t',rfl⟩:=r2
 exact iadd_int ⟨.int _,H,I.tok _,⟨_,rfl⟩,q⟩
end
section
variable{X:Cx}{pos:Pos}
def VS(c:TT)(tb:TS):TS:=fun D σ H=>∃W:Nat→St→Hp→Prop,(∃m,W m σ H)∧∀m σ H,W m σ H→
 c σ H fun b H1=>if b=true then∃N:St→Hp→Prop,(∀σ' H',N σ' H'→∃m',m'<m∧W m' σ' H')∧tb {D with nx:=N,ct:=N,bk:=D.nx} σ H1 else D.nx σ H1
theorem Oy{c:Expr}{body:List Stmt}{tc:TT}{tb:TS}(hp:kP (model X.prog X.w) X.A X.env X.xe)(hc:PT X c tc)(hb:PSs X body tb):PS X (.While c body [] pos) (VS tc tb):=by
 intro pins s σ H D I h
 obtain⟨W,⟨m0,w0⟩,turn⟩:=h
 refine wpAny_While (codeAny_whileLoop (fun n s'=>∃σ' H',Inv X pins σ' H' s'∧W n σ' H') ?_ m0 ⟨σ,H,I,w0⟩)
 rintro n s1 ⟨σ1,H1,I1,w1⟩
 refine iB hp (Aq (hc pins s1 σ1 H1 _ I1 (turn n σ1 H1 w1)) fun b s2 ⟨H2,I2,q2⟩=>?_)
 cases b with
 |true=>
  obtain⟨N,hN,q2⟩:=q2
  rw[if_pos rfl]
  refine iB hp (Aq (hb pins s2 σ1 H2 _ I2 q2) fun f s3 q3=>?_)
  cases f with
  |next=>
   obtain⟨σ3,H3,I3,n3⟩:=q3
   obtain⟨m',hm,w3⟩:=hN σ3 H3 n3
   exact⟨m',hm,σ3,H3,I3,w3⟩
  |cont=>
   obtain⟨σ3,H3,I3,n3⟩:=q3
   obtain⟨m',hm,w3⟩:=hN σ3 H3 n3
   exact⟨m',hm,σ3,H3,I3,w3⟩
  |brk=>exact q3
  |ret v=>exact q3
 |false=>
  rw[if_neg cf]
  exact jD ⟨σ1,H2,I2,q2⟩
end
structure It where
 go:Nat→Hp→Prop
 yld:Nat→Hp→V→Hp→Prop
 stop:Nat→Hp→Prop
def HW(X:Cx)(pins:List (Addr×Obj))(H:Hp)(b:Addr):Prop:=
 H b=none∧b≠X.env.locals∧b∉X.fs∧(b∈X.ex∨X.s₀.heap.objs.size≤b)∧(∀x c,X.env.cells.lookup x=some c→c≠b)∧∀p∈X.pn++pins,p.1≠b
theorem Inv.fpOk{X:Cx}{pins:List (Addr×Obj)}{σ:St}{H H':Hp}{s:Shared}{b:Addr}(I:Inv X pins σ H s)(hb:s.heap.objs.size≤b)(hn:H' b=none):HW X pins H' b:=by
 refine⟨hn,jV (dm I.lt hb),I.nofs hb,.inr (dZ I.sz hb),fun x c e z=>?_,fun p hp z=>?_⟩
 ·obtain⟨v,q⟩:=I.cell x c e
  exact absurd (dm q.lt (by rw[z];exact hb)) (fb _)
 ·exact absurd (dm (dc (I.pin p hp).1) (by rw[z];exact hb)) (fb _)
structure Turn(P:Program)(w:World)(K:a8)(tg:Expr)(J:It)(fp:List Addr)(it:Addr)(tn:Nat→Heap→Prop):Prop where
 mem:it∈fp
 obj:∀i h,tn i h→∀b∈fp,∃o,h.get? b=some o∧∀v,o.data≠.cell v
 keep:∀i h h',tn i h→(∀b∈fp,∀o,h.get? b=some o→h'.get? b=some o)→tn i h'
 item:∀(X:Cx),X.prog=P→X.w=w→X.K=K→X.calm=true→∀(i:Nat) (pins:List (Addr×Obj)) (s:Shared) (σ:St) (H:Hp) (E:Value→Shared→Prop),Inv X pins σ H s→(∀b∈fp,HW X pins H b)→tn i s.heap→J.go i H→
  wpAny (model P w) X.A (kT (.ref it)) (fun r s1=>∃u,r=some u∧
   wpAny (model P w) X.A (ko tg (.ref it) u) (fun _ s2=>∃x H',Inv X pins σ H' s2∧RelV x u∧J.yld i H x H'∧tn (i+1) s2.heap∧∀b∈fp,H' b=none) E s1) E s
 done:∀(X:Cx),X.prog=P→X.w=w→X.K=K→X.calm=true→∀(i:Nat) (pins:List (Addr×Obj)) (s:Shared) (σ:St) (H:Hp) (E:Value→Shared→Prop),Inv X pins σ H s→(∀b∈fp,HW X pins H b)→tn i s.heap→J.stop i H→
  wpAny (model P w) X.A (kT (.ref it)) (fun r s1=>r=none∧Inv X pins σ H s1) E s
 self:∀(A:de) (i:Nat) (s:Shared) (Q:Value→Shared→Prop) (E:Value→Shared→Prop),tn i s.heap→Q (.ref it) s→wpAny (model P w) A (ng (.ref it)) Q E s
abbrev TI:=St→Hp→(It→Hp→Prop)→Prop
def bF(X:Cx)(pins:List (Addr×Obj))(σ:St)(tg:Expr)(R:It→Hp→Prop)(itv:Value)(s2:Shared):Prop:=
 ∃(it:Addr) (fp:List Addr) (tn:Nat→Heap→Prop) (J:It) (H':Hp),itv=.ref it∧Inv X pins σ H' s2∧Turn X.prog X.w X.K tg J fp it tn∧tn 0 s2.heap∧(∀b∈fp,HW X pins H' b)∧R J H'
def PI(X:Cx)(tg iter:Expr)(wi:TI):Prop:=
 ∀(pins:List (Addr×Obj)) (s:Shared) (σ:St) (H:Hp) (R:It→Hp→Prop),Inv X pins σ H s→wi σ H R→
  wpAny (model X.prog X.w) X.A (eval iter X.env) (fun v s1=>wpAny (model X.prog X.w) X.A (ng v) (bF X pins σ tg R) X.xe s1) X.xe s
theorem Oz{M:Model}{A:de}{E:Value→Shared→Prop}{s:Shared}{tg:Expr}{it:Addr}{u:Value}{o:Obj}{n:String}{vs:Array Value}{Q:Unit→Shared→Prop}(ho:s.heap.get? it=some o)(hc:o.cls=.type n)(hd:o.data=.fields vs)
    (hn:["enumerate","zip","dict_itemiterator","dict_reverseitemiterator","odict_iterator","itertools.zip_longest","itertools.pairwise"].contains n=false) (hQ:Q () s):wpAny M A (ko tg (.ref it) u) Q E s:=by
  unfold ko
  cases tg<;>first
    |exact b9 hQ
    | (cases u<;>first
        |exact b9 hQ
        | (refine a9 (wpAny_load ho ?_)
           rw[hc,hd]
           show wpAny M A (if(["enumerate","zip","dict_itemiterator","dict_reverseitemiterator","odict_iterator","itertools.zip_longest","itertools.pairwise"].contains n&&vs[0]?==some (lT _))=true then _ else _) Q E s
           rw[if_neg (by intro h;rw[hn,Bool.false_and] at h;cases h)]
           exact b9 hQ))
def aL(K:a8)(a:Addr):It:=
 ⟨fun i H=>∃xs x,SqL K H a xs∧xs[i]?=some x,fun i H x H'=>H'=H∧∀xs,SqL K H a xs→xs[i]?=some x,fun i H=>∃xs,SqL K H a xs∧xs.length≤i⟩
def aM(K:a8)(a:Addr):It:=
 ⟨fun i H=>∃xs x,HU K H a xs∧xs[i]?=some x,fun i H x H'=>H'=H∧∀xs,HU K H a xs→xs[i]?=some x,fun i H=>∃xs,HU K H a xs∧xs.length≤i⟩
def Xj(lo:Int)(n:Nat):It:=⟨fun i _=>i<n,fun i H x H'=>H'=H∧x=.int (lo+i),fun i _=>n≤i⟩
theorem Nl{P:Program}{w:World}{K:a8}{tg:Expr}(a it:Addr):Turn P w K tg (aL K a) [it] it (fun i h=>h.IsListIter it a i) where
 mem:=by simp
 obj:=fun i h st b hb=>by
  have e:b=it:=by simpa using hb
  subst e
  obtain⟨o,e,c,d⟩:=st
  exact⟨o,e,fun v z=>by rw[d] at z;cases z⟩
 keep:=fun i h h' st k=>st.at fun o e=>k it (by simp) o e
 item:=by
  intro X hP hw hK hc i pins s σ H E I hf st hg
  subst hP hw hK
  obtain⟨xs,x,hq,hx⟩:=hg
  obtain⟨its,rv,p,hz⟩:=I.list hq
  obtain⟨u,hu,ru⟩:=rv.get hx
  obtain⟨f0,f1,f2,f3,f4,f5⟩:=hf it (by simp)
  refine wpAny_pyNext_list_item st p.isList (x:=u) (by simpa using hu) fun h' st' sb=>?_
  have I1:Inv X pins σ H {s with heap:=h'}:=I.turned (t':=s.toks) (fun b o hb e=> (sb.2 b hb).trans e) f0 f1 f3 f4 f5
  obtain⟨o,e,c,d⟩:=id st'
  exact⟨u,rfl,Oz (s:={s with heap:=h'}) e c d (by decide) ⟨x,H,I1,ru,⟨rfl,fun ys hy=>by rw[I.list_inj hy hq];exact hx⟩,st',fun b hb=> (hf b hb).1⟩⟩
 done:=by
  intro X hP hw hK hc i pins s σ H E I hf st hg
  subst hP hw hK
  obtain⟨xs,hq,hx⟩:=hg
  obtain⟨its,rv,p,hz⟩:=I.list hq
  obtain⟨f0,f1,f2,f3,f4,f5⟩:=hf it (by simp)
  have hl:=rv.length
  exact wpAny_pyNext_list_end (I.ok.hd hc) st p.isList (by simp;omega) fun h' eb=> ⟨rfl,I.turned (t':=s.toks) (fun b o hb e=>eb b o hb e) f0 f1 f3 f4 f5⟩
 self:=fun _ _ _ _ _ st h=>wpAny_pyIter_listiter st h
theorem LP{P:Program}{w:World}{K:a8}{tg:Expr}(a it:Addr):Turn P w K tg (aM K a) [it] it (fun i h=>h.IsTupleIter it a i) where
 mem:=by simp
 obj:=fun i h st b hb=>by
  have e:b=it:=by simpa using hb
  subst e
  obtain⟨o,e,c,d⟩:=st
  exact⟨o,e,fun v z=>by rw[d] at z;cases z⟩
 keep:=fun i h h' st k=>st.at fun o e=>k it (by simp) o e
 item:=by
  intro X hP hw hK hc i pins s σ H E I hf st hg
  subst hP hw hK
  obtain⟨xs,x,hq,hx⟩:=hg
  obtain⟨its,rv,p,hz⟩:=I.tuple hq
  obtain⟨u,hu,ru⟩:=rv.get hx
  obtain⟨f0,f1,f2,f3,f4,f5⟩:=hf it (by simp)
  refine wpAny_pyNext_tuple_item st (show s.heap.IsTuple a its.toArray from p) (x:=u) (by simpa using hu) fun h' st' sb=>?_
  have I1:Inv X pins σ H {s with heap:=h'}:=I.turned (t':=s.toks) (fun b o hb e=> (sb.2 b hb).trans e) f0 f1 f3 f4 f5
  obtain⟨o,e,c,d⟩:=id st'
  exact⟨u,rfl,Oz (s:={s with heap:=h'}) e c d (by decide) ⟨x,H,I1,ru,⟨rfl,fun ys hy=>by rw[I.tuple_inj hy hq];exact hx⟩,st',fun b hb=> (hf b hb).1⟩⟩
 done:=by
  intro X hP hw hK hc i pins s σ H E I hf st hg
  subst hP hw hK
  obtain⟨xs,hq,hx⟩:=hg
  obtain⟨its,rv,p,hz⟩:=I.tuple hq
  obtain⟨f0,f1,f2,f3,f4,f5⟩:=hf it (by simp)
  have hl:=rv.length
  exact wpAny_pyNext_tuple_end (I.ok.hd hc) st (show s.heap.IsTuple a its.toArray from p) (by simp;omega) fun h' eb=> ⟨rfl,I.turned (t':=s.toks) (fun b o hb e=>eb b o hb e) f0 f1 f3 f4 f5⟩
 self:=fun _ _ _ _ _ st h=>wpAny_pyIter_tupleiter st h
theorem LQ{P:Program}{w:World}{K:a8}{tg:Expr}(it:Addr)(lo:Int)(n:Nat):Turn P w K tg (Xj lo n) [it] it (fun i h=>IsRangeIter h it (lo+(i:Nat)*1) ((n:Int)- (i:Nat)) 1) where
 mem:=by simp
 obj:=fun i h st b hb=>by
  have e:b=it:=by simpa using hb
  subst e
  exact⟨_,st,fun v z=>by
   have z':Data.fields _=Data.cell v:=z
   cases z'⟩
 keep:=fun i h h' st k=>k it (by simp) _ st
 item:=by
  intro X hP hw hK hc i pins s σ H E I hf st hg
  subst hP hw hK
  obtain⟨f0,f1,f2,f3,f4,f5⟩:=hf it (by simp)
  have W:=Walks.range (prog:=X.prog) (w:=X.w) (I.ok.hd hc) it lo 1 n
  refine W.item i s _ _ hg st fun v h' tk hv st' kk=>?_
  obtain⟨t,rfl⟩:=hv
  have I1:Inv X pins σ H {s with heap:=h',toks:=tk}:=I.turned (fun b o hb e=>kk b o (by simpa using hb) e) f0 f1 f3 f4 f5
  refine⟨_,rfl,Oz (s:={s with heap:=h',toks:=tk}) (n:="range_iterator") st' rfl rfl (by decide) ⟨.int (lo+i),H,I1,⟨t,?_⟩,⟨rfl,rfl⟩,st',fun b hb=> (hf b hb).1⟩⟩
  rw[Int.mul_one]
 done:=by
  intro X hP hw hK hc i pins s σ H E I hf st hg
  subst hP hw hK
  obtain⟨f0,f1,f2,f3,f4,f5⟩:=hf it (by simp)
  exact wpAny_pyNext_range_end (I.ok.hd hc) st (by have:n≤i:=hg;omega) fun h' eb=> ⟨rfl,I.turned (t':=s.toks) (fun b o hb e=>eb b o hb e) f0 f1 f3 f4 f5⟩
 self:=fun _ _ _ _ _ st h=>wpAny_pyIter_rangeiter st h
section
variable{X:Cx}{tg:Expr}
def Xl(K:a8)(tl:TE):TI:=fun σ H R=>tl σ H fun x H1=>∃a,x=.ref a∧(∃xs,SqL K H1 a xs)∧R (aL K a) H1
def aN(K:a8)(tl:TE):TI:=fun σ H R=>tl σ H fun x H1=>∃a,x=.ref a∧(∃xs,HU K H1 a xs)∧R (aM K a) H1
theorem SD{l:Expr}{tl:TE}(hl:PE X l tl):PI X tg l (Xl X.K tl):=by
 intro pins s σ H R I h
 refine Aq (hl pins s σ H _ I h) fun v s1 ⟨x,H1,I1,r1,q1⟩=>?_
 obtain⟨a,e,⟨xs,hq⟩,q⟩:=q1
 subst e
 cases r1
 obtain⟨its,rv,p,hz⟩:=I1.list hq
 refine lz p.isList ?_
 refine⟨s1.heap.objs.size,[s1.heap.objs.size],_,_,H1,rfl,I1.kept (t':=s1.toks) fun b o e=>cj _ e,Nl a _,⟨_,dy _ rfl,rfl,rfl⟩,fun b hb=>?_,q⟩
 have e:b=s1.heap.objs.size:=by simpa using hb
 subst e
 exact I1.fpOk (cW _) (I1.hok.fresh (cW _))
theorem VT{l:Expr}{tl:TE}(hl:PE X l tl):PI X tg l (aN X.K tl):=by
 intro pins s σ H R I h
 refine Aq (hl pins s σ H _ I h) fun v s1 ⟨x,H1,I1,r1,q1⟩=>?_
 obtain⟨a,e,⟨xs,hq⟩,q⟩:=q1
 subst e
 cases r1
 obtain⟨its,rv,p,hz⟩:=I1.tuple hq
 refine wpAny_pyIter_tuple (show s1.heap.IsTuple a its.toArray from p) ?_
 refine⟨s1.heap.objs.size,[s1.heap.objs.size],_,_,H1,rfl,I1.kept (t':=s1.toks) fun b o e=>cj _ e,LP a _,⟨_,dy _ rfl,rfl,rfl⟩,fun b hb=>?_,q⟩
 have e:b=s1.heap.objs.size:=by simpa using hb
 subst e
 exact I1.fpOk (cW _) (I1.hok.fresh (cW _))
theorem Jh{pins:List (Addr×Obj)}{σ:St}{H:Hp}{s:Shared}{R:It→Hp→Prop}{E:Value→Shared→Prop}{lo hi:Int}{t u v:Tok}{tk:Nat}(I:Inv X pins σ H s)(h1: -(2^62)≤lo)(h2:lo<2^62)(h3: -(2^62)≤hi)(h4:hi<2^62)
  (q:R (Xj lo (hi-lo).toNat) H):wpAny (model X.prog X.w) X.A (ng (.ref s.heap.objs.size)) (bF X pins σ tg R) E {s with heap:=s.heap.push {cls:=.type "range",data:=.fields #[.int lo t,.int hi u,.int 1 v]},toks:=tk}:=by
 refine wpAny_pyIter_range (IsRange.new ..) (small_one h1 h2 h3 h4) ?_
 have I1:Inv X pins σ H {s with heap:=s.heap.push {cls:=.type "range",data:=.fields #[.int lo t,.int hi u,.int 1 v]},toks:=tk}:=I.kept fun b o e=>cj _ e
 refine⟨(s.heap.push {cls:=.type "range",data:=.fields #[.int lo t,.int hi u,.int 1 v]}).objs.size,[(s.heap.push {cls:=.type "range",data:=.fields #[.int lo t,.int hi u,.int 1 v]}).objs.size],_,_,H,rfl,
  I1.kept (t':=tk) fun b o e=>cj _ e,LQ _ lo (hi-lo).toNat,?_,fun b hb=>?_,q⟩
 ·have e1:lo+((0:Nat):Int)*1=lo:=by simp
  have e2:(((hi-lo).toNat:Nat):Int)- ((0:Nat):Int)=Builtin.Range.rangeSize lo hi 1:=by rw[rangeSize_one];split<;>omega
  show IsRangeIter _ _ (lo+((0:Nat):Int)*1) ((((hi-lo).toNat:Nat):Int)- ((0:Nat):Int)) 1
  rw[e1,e2]
  exact dy _ rfl
 ·have e:b=(s.heap.push {cls:=.type "range",data:=.fields #[.int lo t,.int hi u,.int 1 v]}).objs.size:=by simpa using hb
  subst e
  exact I1.fpOk (cW _) (I1.hok.fresh (cW _))
def Xm(ta:TA):TI:=fun σ H R=>ta σ H fun vs H1=>∃j:Int,vs=[.int j]∧-(2^62)≤j∧j<2^62∧R (Xj 0 j.toNat) H1
def Xn(ta:TA):TI:=fun σ H R=>ta σ H fun vs H1=>∃i j:Int,vs=[.int i,.int j]∧(-(2^62)≤i∧i<2^62∧-(2^62)≤j∧j<2^62)∧R (Xj i (j-i).toNat) H1
theorem Nm{a:Expr}{ta:TA}{p pos:Pos}(hg:Gl X "range")(hm:X.mg "range" =none)(ha:PA X [a] ta)(hs:cb [a] X.env=[(false,eval a X.env)]:=by rfl):PI X tg (.Call (.Name "range" p) [a] [] pos) (Xm ta):=by
 intro pins s σ H R I h
 refine Call_ (Eo I hg hm boot_range (jk (Aq (ha pos pins s σ H _ I h) fun us s1 ⟨vs,H1,I1,r1,q1⟩=>?_) hs rfl))
 obtain⟨j,e,q1,q2,q⟩:=q1
 subst e
 cases r1 with
 |cons r rr=>
  cases rr
  obtain⟨t,rfl⟩:=r
  exact call_range_1 (Jh I1 (by omega) (by omega) q1 q2 (by simpa using q))
theorem Nn{a b:Expr}{ta:TA}{p pos:Pos}(hg:Gl X "range")(hm:X.mg "range" =none)(ha:PA X [a,b] ta)(hs:cb [a,b] X.env=[(false,eval a X.env),(false,eval b X.env)]:=by rfl)(hs2:cb [b] X.env=[(false,eval b X.env)]:=by rfl):
  PI X tg (.Call (.Name "range" p) [a,b] [] pos) (Xn ta):=by
 intro pins s σ H R I h
 refine Call_ (Eo I hg hm boot_range (jk (Aq (ha pos pins s σ H _ I h) fun us s1 ⟨vs,H1,I1,r1,q1⟩=>?_) (by rw[hs,hs2]) (by rw[hs2];rfl)))
 obtain⟨i,j,e,⟨q1,q2,q3,q4⟩,q⟩:=q1
 subst e
 cases r1 with
 |cons r rr=>
  cases rr with
  |cons r' rr=>
   cases rr
   obtain⟨t,rfl⟩:=r
   obtain⟨t',rfl⟩:=r'
   exact call_range_2 (Jh I1 q1 q2 q3 q4 q)
def aO(wi:TI)(g:TG)(tb:TS):TS:=fun D σ H=>wi σ H fun J H1=>∃W:Nat→Nat→St→Hp→Prop,(∃m,W 0 m σ H1)∧∀i m σ H,W i m σ H→
 (J.stop i H∧D.nx σ H)∨(J.go i H∧∃N:St→Hp→Prop,(∀σ' H',N σ' H'→∃m',m'<m∧W (i+1) m' σ' H')∧∀x H',J.yld i H x H'→g x σ H' fun σ2 H2=>tb {D with nx:=N,ct:=N,bk:=D.nx} σ2 H2)
def GL(fp:List Addr)(h:Heap):List (Addr×Obj):=fp.filterMap fun b=> (h.get? b).map fun o=> (b,o)
theorem Cm{fp:List Addr}{h:Heap}{b:Addr}{o:Obj}(hb:b∈fp)(e:h.get? b=some o):(b,o)∈GL fp h:=gN.mpr ⟨b,hb,by rw[e];rfl⟩
theorem Np{fp:List Addr}{h:Heap}{p:Addr×Obj}(hp:p∈GL fp h):p.1∈fp∧h.get? p.1=some p.2:=by
 obtain⟨b,hb,e⟩:=gN.mp hp
 cases q:h.get? b with
 |none=>rw[q] at e;cases e
 |some o=>
  rw[q] at e
  have e':(b,o)=p:=dQ.inj e
  subst e'
  exact⟨hb,q⟩
theorem Inv.pinned{pins:List (Addr×Obj)}{σ:St}{H:Hp}{s:Shared}{fp:List Addr}(I:Inv X pins σ H s)(hf:∀b∈fp,HW X pins H b)(ho:∀b∈fp,∃o,s.heap.get? b=some o∧∀v,o.data≠.cell v):Inv X (pins++GL fp s.heap) σ H s:=
 I.pins_of fun p hp=> (dt.mp hp).elim (fun z=>I.pin p (eG _ z)) fun z=>by
  obtain⟨hb,e⟩:=Np z
  obtain⟨f0,f1,f2,_⟩:=hf p.1 hb
  obtain⟨o,e',d⟩:=ho p.1 hb
  rw[e] at e';cases e'
  exact⟨e,f0,f1,f2,d⟩
theorem Inv.unpinned{pins pl:List (Addr×Obj)}{σ:St}{H:Hp}{s:Shared}(I:Inv X (pins++pl) σ H s):Inv X pins σ H s:=I.pins_of fun p hp=>I.pin p (eG _ (eU _ hp))
theorem VU{iter:Expr}{body:List Stmt}{wi:TI}{g:TG}{tb:TS}{pos:Pos}(hp:kP (model X.prog X.w) X.A X.env X.xe)(hc:X.calm=true)(hi:PI X tg iter wi)(hg:PG X tg g)(hb:PSs X body tb)
  (hs:∀x,fP iter X.env x=pure x:=by intro _;rfl):PS X (.For tg iter body [] pos) (aO wi g tb):=by
 intro pins s σ H D I h
 refine wpAny_For (Aq (hi pins s σ H _ I h) fun v s1 h1=>Aq h1 fun itv s2 h2=>?_) hs
 obtain⟨it,fp,tn,J,H2,e,I2,T,st2,f2,W,⟨m0,w0⟩,turn⟩:=h2
 subst e
 have stat:∀{H':Hp},(∀b∈fp,H' b=none)→∀b∈fp,HW X pins H' b:=fun hn b hb=> ⟨hn b hb,(f2 b hb).2⟩
 refine codeAny_forLoop_any (fun n s'=>∃i σ' H',Inv X pins σ' H' s'∧tn i s'.heap∧(∀b∈fp,H' b=none)∧W i n σ' H') ?_ m0 ⟨0,σ,H2,I2,st2,fun b hb=> (f2 b hb).1,w0⟩
 rintro n s3 ⟨i,σ3,H3,I3,st3,fr3,w3⟩
 rcases turn i n σ3 H3 w3 with⟨stop,qn⟩| ⟨go,N,hN,step⟩
 ·refine iB hp (Aq (T.done X rfl rfl rfl hc i pins s3 σ3 H3 X.xe I3 (stat fr3) st3 stop) fun r s4 ⟨hr,I4⟩=>?_)
  subst hr
  exact jD ⟨σ3,H3,I4,qn⟩
 ·refine iB hp (Aq (T.item X rfl rfl rfl hc i pins s3 σ3 H3 X.xe I3 (stat fr3) st3 go) fun r s4 ⟨u,hr,h4⟩=>?_)
  subst hr
  refine iB hp (Aq h4 fun _ s5 ⟨x,H5,I5,r5,y5,st5,fr5⟩=>?_)
  have I5':=I5.pinned (stat fr5) (T.obj _ _ st5)
  refine iB hp (Aq (hg _ s5 σ3 H5 x u _ I5' r5 (step x H5 y5)) fun _ s6 ⟨σ6,H6,I6,q6⟩=>?_)
  refine iB hp (Aq (hb _ s6 σ6 H6 _ I6 q6) fun f s7 q7=>?_)
  have again:∀{σ7:St} {H7:Hp},Inv X (pins++GL fp s5.heap) σ7 H7 s7→N σ7 H7→∃m,m<n∧∃i σ' H',Inv X pins σ' H' s7∧tn i s7.heap∧(∀b∈fp,H' b=none)∧W i m σ' H':=fun{σ7 H7} I7 n7=>by
   obtain⟨m',hm,w7⟩:=hN σ7 H7 n7
   refine⟨m',hm,i+1,σ7,H7,I7.unpinned,T.keep _ _ _ st5 fun b hb o e=> (I7.pin (b,o) (eG _ (eG _ (Cm hb e)))).1,fun b hb=>?_,w7⟩
   obtain⟨o,e,d⟩:=T.obj _ _ st5 b hb
   exact(I7.pin (b,o) (eG _ (eG _ (Cm hb e)))).2.1
  cases f with
  |next=>obtain⟨σ7,H7,I7,n7⟩:=q7;exact again I7 n7
  |cont=>obtain⟨σ7,H7,I7,n7⟩:=q7;exact again I7 n7
  |brk=>obtain⟨σ7,H7,I7,q7⟩:=q7;exact⟨σ7,H7,I7.unpinned,q7⟩
  |ret v=>obtain⟨x7,σ7,H7,I7,r7,q7⟩:=q7;exact⟨x7,σ7,H7,I7.unpinned,r7,q7⟩
end
abbrev R2:=V→V→Hp→VK→Prop
def DL(X:Cx)(f:Value→Value→Sem Value)(r:R2):Prop:=
 ∀(pins:List (Addr×Obj)) (s:Shared) (σ:St) (H:Hp) (x y:V) (v u:Value) (Q:VK),Inv X pins σ H s→RelV x v→RelV y u→r x y H Q→
  wpAny (model X.prog X.w) X.A (f v u) (EP X pins σ Q) X.xe s
def Zp(X:Cx)(f:Value→Sem Value)(r:V→Hp→VK→Prop):Prop:=
 ∀(pins:List (Addr×Obj)) (s:Shared) (σ:St) (H:Hp) (x:V) (v:Value) (Q:VK),Inv X pins σ H s→RelV x v→r x H Q→
  wpAny (model X.prog X.w) X.A (f v) (EP X pins σ Q) X.xe s
def BA(X:Cx)(f:Value)(r:List V→Hp→VK→Prop):Prop:=
 ∀(pins:List (Addr×Obj)) (s:Shared) (σ:St) (H:Hp) (xs:List V) (us:List Value) (Q:VK),Inv X pins σ H s→Vals xs us→r xs H Q→
  wpAny (model X.prog X.w) X.A (call f us) (EP X pins σ Q) X.xe s
def aP(X:Cx)(r:V→Hp→(Bool→Hp→Prop)→Prop):Prop:=
 ∀(pins:List (Addr×Obj)) (s:Shared) (σ:St) (H:Hp) (x:V) (v:Value) (Q:Bool→Hp→Prop),Inv X pins σ H s→RelV x v→r x H Q→
  wpAny (model X.prog X.w) X.A (truthy v) (TP X pins σ Q) X.xe s
def Xo(r:R2)(ta tb:TE):TE:=fun σ H Q=>ta σ H fun x H1=>tb σ H1 fun y H2=>r x y H2 Q
def bW(r:V→Hp→VK→Prop)(ta:TE):TE:=fun σ H Q=>ta σ H fun x H1=>r x H1 Q
def rI(C:Int→Int→Prop)(g:Int→Int→V):R2:=fun x y H Q=>∃i j,x=.int i∧y=.int j∧C i j∧Q (g i j) H
def Rv(g:Int→Int→V):R2:=fun x y H Q=>∃i j,x=.int i∧y=.int j∧Q (g i j) H
def rU(g:Int→V):V→Hp→VK→Prop:=fun x H Q=>∃i,x=.int i∧Q (g i) H
section
variable{X:Cx}{a b c:Expr}{ta tb tc:TE}{pos:Pos}
theorem VV(ha:PE X a ta)(hb:PE X b tb){pins:List (Addr×Obj)}{s:Shared}{σ:St}{H:Hp}{R:V→V→Hp→Prop}(I:Inv X pins σ H s)
  (h:ta σ H fun x H1=>tb σ H1 fun y H2=>R x y H2) {Q:Value→Shared→Prop} {f:Value→Value→Sem Value}
  (hf:∀v u s2 x y H2,Inv X pins σ H2 s2→RelV x v→RelV y u→R x y H2→wpAny (model X.prog X.w) X.A (f v u) Q X.xe s2):
  wpAny (model X.prog X.w) X.A (eval a X.env) (fun v s₁=>wpAny (model X.prog X.w) X.A (eval b X.env) (fun u s₂=>wpAny (model X.prog X.w) X.A (f v u) Q X.xe s₂) X.xe s₁) X.xe s:=by
 refine Aq (ha pins s σ H _ I h) fun v s1 ⟨x,H1,I1,r1,q1⟩=>?_
 refine Aq (hb pins s1 σ H1 _ I1 q1) fun u s2 ⟨y,H2,I2,r2,q2⟩=>?_
 exact hf v u s2 x y H2 I2 r1 r2 q2
theorem UL{op:mF}{r:R2}(ho:DL X (iE op) r)(ha:PE X a ta)(hb:PE X b tb):PE X (.BinOp a op b pos) (Xo r ta tb):=by
 intro pins s σ H Q I h
 exact wpAny_BinOp (VV ha hb I h fun v u s2 x y H2 I2 rx ry q=>ho pins s2 σ H2 x y v u Q I2 rx ry q)
theorem Xp{op:UnaryOp}{r:V→Hp→VK→Prop}(ho:Zp X (unaryOp op) r)(ha:PE X a ta):PE X (.UnaryOp op a pos) (bW r ta):=by
 intro pins s σ H Q I h
 exact UnaryOp_ (Aq (ha pins s σ H _ I h) fun v s1 ⟨x,H1,I1,r1,q1⟩=>ho pins s1 σ H1 x v Q I1 r1 q1)
theorem Zq{f:Value→Value→Sem Value}{C:Int→Int→Prop}{g:Int→Int→Int}
  (rule:∀(i j:Int) (t u:Tok) (s:Shared) (Q:Value→Shared→Prop) (E:Value→Shared→Prop),C i j→Q (.int (g i j) s.toks) {s with toks:=s.toks+1}→wpAny (model X.prog X.w) X.A (f (.int i t) (.int j u)) Q E s):
  DL X f (rI C fun i j=> .int (g i j)):=by
 intro pins s σ H x y v u Q I rx ry h
 obtain⟨i,j,rfl,rfl,hc,q⟩:=h
 obtain⟨t,rfl⟩:=rx
 obtain⟨t',rfl⟩:=ry
 exact rule i j t t' s _ _ hc ⟨.int (g i j),H,I.tok _,⟨_,rfl⟩,q⟩
theorem Xq{f:Value→Value→Sem Value}{g:Int→Int→Int}
  (rule:∀(i j:Int) (t u:Tok) (s:Shared) (Q:Value→Shared→Prop) (E:Value→Shared→Prop),Q (.int (g i j) s.toks) {s with toks:=s.toks+1}→wpAny (model X.prog X.w) X.A (f (.int i t) (.int j u)) Q E s):
  DL X f (Rv fun i j=> .int (g i j)):=by
 intro pins s σ H x y v u Q I rx ry h
 obtain⟨i,j,rfl,rfl,q⟩:=h
 obtain⟨t,rfl⟩:=rx
 obtain⟨t',rfl⟩:=ry
 exact rule i j t t' s _ _ ⟨.int (g i j),H,I.tok _,⟨_,rfl⟩,q⟩
theorem SE{f:Value→Value→Sem Value}{g:Int→Int→Bool}
  (rule:∀(i j:Int) (t u:Tok) (s:Shared) (Q:Value→Shared→Prop) (E:Value→Shared→Prop),Q (.bool (g i j)) s→wpAny (model X.prog X.w) X.A (f (.int i t) (.int j u)) Q E s):
  DL X f (Rv fun i j=> .bl (g i j)):=by
 intro pins s σ H x y v u Q I rx ry h
 obtain⟨i,j,rfl,rfl,q⟩:=h
 obtain⟨t,rfl⟩:=rx
 obtain⟨t',rfl⟩:=ry
 exact rule i j t t' s _ _ ⟨.bl (g i j),H,I,rfl,q⟩
def Xr(i j:Int):Prop:=0<j∧j<1073741824
def Xs(i j:Int):Prop:=0≤j∧j≤1000000∧i.natAbs<2^64
def CMul(i j:Int):Prop:=(-(2^64)<i∧i<2^64)∨(-(2^64)<j∧j<2^64)
theorem CMul.ok{i j:Int}(h:CMul i j):IntMulOk i j:=by
 rcases h with⟨h1,h2⟩| ⟨h1,h2⟩
 ·exact .of_left (intBits_le_64 h1 h2)
 ·exact .of_right (intBits_le_64 h1 h2)
theorem GM:DL X (iE .Add) (Rv fun i j=> .int (i+j)):=Xq fun _ _ _ _ _ _ _ q=>add_int q
theorem VW:DL X (iE .Sub) (Rv fun i j=> .int (i-j)):=Xq fun _ _ _ _ _ _ _ q=>sub_int q
theorem VX:DL X (iE .Mult) (rI CMul fun i j=> .int (i*j)):=Zq fun _ _ _ _ _ _ _ hc q=>mul_int q hc.ok
theorem SF:DL X (iE .FloorDiv) (rI Xr fun i j=> .int (i/j)):=Zq fun i j _ _ _ _ _ hc q=>by
 have h1:(0:Int)<j:=hc.1
 have h2:j<1073741824:=hc.2
 exact floordiv_int (by omega) (by rw[Int.fdiv_eq_ediv_of_nonneg i (by omega)];exact q) (.inl (PyProof.noPylong_small (by omega)))
theorem PB:DL X (iE .Mod) (rI (fun _ j=>0<j) fun i j=> .int (i%j)):=Zq fun i j _ _ _ _ _ hc q=>by
 have h1:(0:Int)<j:=hc
 exact mod_int' (by omega) (by rw[Int.fmod_eq_emod_of_nonneg i (by omega)];exact q)
theorem VY:DL X (iE .Pow) (rI Xs fun i j=> .int (i^j.toNat)):=Zq fun _ _ _ _ _ _ _ hc q=>pow_int_small hc.1 hc.2.1 hc.2.2 q
theorem bX{f:Value→Sem Value}{g:Int→Int}
  (rule:∀(i:Int) (t:Tok) (s:Shared) (Q:Value→Shared→Prop) (E:Value→Shared→Prop),Q (.int (g i) s.toks) {s with toks:=s.toks+1}→wpAny (model X.prog X.w) X.A (f (.int i t)) Q E s):
  Zp X f (rU fun i=> .int (g i)):=by
 intro pins s σ H x v Q I rx h
 obtain⟨i,rfl,q⟩:=h
 obtain⟨t,rfl⟩:=rx
 exact rule i t s _ _ ⟨.int (g i),H,I.tok _,⟨_,rfl⟩,q⟩
theorem VZ:Zp X (unaryOp .USub) (rU fun i=> .int (-i)):=bX fun _ _ _ _ _ q=>neg_int q
end
def Xu:V→V→Bool
 | .non,.non=>true| .non,.int _=>true| .int _,.non=>true| .non,.bl _=>true| .bl _,.non=>true| .non,.str _=>true| .str _,.non=>true
 | .int _,.int _=>true| .bl _,.bl _=>true| .str _,.str _=>true| .byt _,.byt _=>true
 | .int _,.str _=>true| .str _,.int _=>true| .bl _,.str _=>true| .str _,.bl _=>true
 |_,_=>false
def aQ:R2:=fun x y H Q=>Xu x y=true∧Q (.bl (decide (x=y))) H
def Zr:R2:=fun x y H Q=>Xu x y=true∧Q (.bl (!decide (x=y))) H
theorem Mb{i j:Int}:decide (V.int i=V.int j)=(i==j):=by
 rw[i9]
 simp
theorem LR{i j:Bool}:decide (V.bl i=V.bl j)=(i==j):=by
 rw[i9]
 simp
theorem Ic{i j:Str}:decide (V.str i=V.str j)=(i==j):=by
 rw[i9]
 simp
theorem Mc{i j:Array UInt8}:decide (V.byt i=V.byt j)=(i.toList==j.toList):=by
 rw[i9]
 cases i
 cases j
 simp
section
variable{X:Cx}{a b c:Expr}{ta tb tc:TE}{pos:Pos}
theorem AX{pins:List (Addr×Obj)}{σ:St}{H:Hp}{s:Shared}{Q:VK}{k k':Bool}(I:Inv X pins σ H s)(q:Q (.bl k) H)(e:k=k'):EP X pins σ Q (.bool k') s:=by
 subst e
 exact⟨.bl k,H,I,rfl,q⟩
theorem Md:DL X (gh .Eq) aQ:=by
 intro pins s σ H x y v u Q I rx ry h
 obtain⟨hs,q⟩:=h
 cases x with
 |non=>
  cases rx
  cases y with
  |non=>cases ry;exact PySem.EqNone.eq_none_none (AX I q (by simp))
  |bl j=>cases ry;exact PySem.EqNone.eq_none_bool (AX I q (by simp))
  |int j=>obtain⟨t',rfl⟩:=ry;exact PySem.EqNone.eq_none_int (AX I q (by simp))
  |str j=>obtain⟨t',rfl⟩:=ry;exact PySem.EqNone.eq_none_str (AX I q (by simp))
  |_=>exact absurd (show false=true from hs) cf
 |bl i=>
  cases rx
  cases y with
  |non=>cases ry;exact PySem.EqNone.eq_bool_none (AX I q (by simp))
  |bl j=>cases ry;exact eq_bool (AX I q LR)
  |str j=>obtain⟨t',rfl⟩:=ry;exact PySem.EqMixed.eq_bool_str (AX I q (by simp))
  |_=>exact absurd (show false=true from hs) cf
 |int i=>
  obtain⟨t,rfl⟩:=rx
  cases y with
  |non=>cases ry;exact PySem.EqNone.eq_int_none (AX I q (by simp))
  |int j=>obtain⟨t',rfl⟩:=ry;exact eq_int (AX I q Mb)
  |str j=>obtain⟨t',rfl⟩:=ry;exact PySem.EqMixed.eq_int_str (AX I q (by simp))
  |_=>exact absurd (show false=true from hs) cf
 |str i=>
  obtain⟨t,rfl⟩:=rx
  cases y with
  |non=>cases ry;exact PySem.EqNone.eq_str_none (AX I q (by simp))
  |bl j=>cases ry;exact PySem.EqMixed.eq_str_bool (AX I q (by simp))
  |int j=>obtain⟨t',rfl⟩:=ry;exact PySem.EqMixed.eq_str_int (AX I q (by simp))
  |str j=>obtain⟨t',rfl⟩:=ry;exact eq_str (AX I q Ic)
  |_=>exact absurd (show false=true from hs) cf
 |byt i=>
  obtain⟨t,rfl⟩:=rx
  cases y with
  |byt j=>obtain⟨t',rfl⟩:=ry;exact PySem.W.eq_bytes (AX I q Mc)
  |_=>exact absurd (show false=true from hs) cf
 |_=>cases y<;>exact absurd (show false=true from hs) cf
theorem Me:DL X (gh .NotEq) Zr:=by
 intro pins s σ H x y v u Q I rx ry h
 obtain⟨hs,q⟩:=h
 cases x with
 |non=>
  cases rx
  cases y with
  |non=>cases ry;exact PySem.EqNone.ne_none_none (AX I q (by simp))
  |bl j=>cases ry;exact PySem.EqNone.ne_none_bool (AX I q (by simp))
  |int j=>obtain⟨t',rfl⟩:=ry;exact PySem.EqNone.ne_none_int (AX I q (by simp))
  |str j=>obtain⟨t',rfl⟩:=ry;exact PySem.EqNone.ne_none_str (AX I q (by simp))
  |_=>exact absurd (show false=true from hs) cf
 |bl i=>
  cases rx
  cases y with
  |non=>cases ry;exact PySem.EqNone.ne_bool_none (AX I q (by simp))
  |bl j=>cases ry;exact ne_bool (AX I q (congrArg not LR))
  |str j=>obtain⟨t',rfl⟩:=ry;exact PySem.EqMixed.ne_bool_str (AX I q (by simp))
  |_=>exact absurd (show false=true from hs) cf
 |int i=>
  obtain⟨t,rfl⟩:=rx
  cases y with
  |non=>cases ry;exact PySem.EqNone.ne_int_none (AX I q (by simp))
  |int j=>obtain⟨t',rfl⟩:=ry;exact ne_int (AX I q (congrArg not Mb))
  |str j=>obtain⟨t',rfl⟩:=ry;exact PySem.EqMixed.ne_int_str (AX I q (by simp))
  |_=>exact absurd (show false=true from hs) cf
 |str i=>
  obtain⟨t,rfl⟩:=rx
  cases y with
  |non=>cases ry;exact PySem.EqNone.ne_str_none (AX I q (by simp))
  |bl j=>cases ry;exact PySem.EqMixed.ne_str_bool (AX I q (by simp))
  |int j=>obtain⟨t',rfl⟩:=ry;exact PySem.EqMixed.ne_str_int (AX I q (by simp))
  |str j=>obtain⟨t',rfl⟩:=ry;exact ne_str (AX I q (congrArg not Ic))
  |_=>exact absurd (show false=true from hs) cf
 |byt i=>
  obtain⟨t,rfl⟩:=rx
  cases y with
  |byt j=>obtain⟨t',rfl⟩:=ry;exact PySem.W.ne_bytes (AX I q (congrArg not Mc))
  |_=>exact absurd (show false=true from hs) cf
 |_=>cases y<;>exact absurd (show false=true from hs) cf
theorem PC:DL X (gh .Lt) (Rv fun i j=> .bl (decide (i<j))):=SE fun _ _ _ _ _ _ _ q=>lt_int q
theorem Xv:DL X (gh .LtE) (Rv fun i j=> .bl (decide (i≤j))):=SE fun _ _ _ _ _ _ _ q=>le_int q
theorem Xw:DL X (gh .Gt) (Rv fun i j=> .bl (decide (j<i))):=SE fun _ _ _ _ _ _ _ q=>gt_int q
theorem Xx:DL X (gh .GtE) (Rv fun i j=> .bl (decide (j≤i))):=SE fun _ _ _ _ _ _ _ q=>ge_int q
theorem Va:DL X (gh .Is) (fun x y H Q=>y=.non∧Q (.bl (decide (x=.non))) H):=by
 intro pins s σ H x y v u Q I rx ry h
 obtain⟨rfl,q⟩:=h
 cases ry
 refine is_none_gen (AX I q ?_)
 cases x<;>first
  | (cases rx;rfl)
  | (obtain⟨t,rfl⟩:=rx;rfl)
theorem SG:DL X (gh .IsNot) (fun x y H Q=>y=.non∧Q (.bl (!decide (x=.non))) H):=by
 intro pins s σ H x y v u Q I rx ry h
 obtain⟨rfl,q⟩:=h
 cases ry
 refine isnot_none_gen (AX I q ?_)
 cases x<;>first
  | (cases rx;rfl)
  | (obtain⟨t,rfl⟩:=rx;rfl)
theorem Au(b:Expr){op:CmpOp}(h:op≠.In:=by decide)(h2:op≠.NotIn:=by decide):behindInMarks op b=false:=by
 have e1:(op==CmpOp.In)=false:=by cases op<;>first|rfl|exact absurd rfl h
 have e2:(op==CmpOp.NotIn)=false:=by cases op<;>first|rfl|exact absurd rfl h2
 cases b<;>simp[behindInMarks,e1,e2]
theorem SH{op:CmpOp}{r:R2}(ho:DL X (gh op) r)(ha:PE X a ta)(hb:PE X b tb)(hm:behindInMarks op b=false):PE X (.Compare a [op] [b] pos) (Xo r ta tb):=by
 intro pins s σ H Q I h
 exact wpAny_Compare1 (VV ha hb I h fun v u s2 x y H2 I2 rx ry q=>ho pins s2 σ H2 x y v u Q I2 rx ry q) hm
def Xy(t:TE):TT:=fun σ H Q=>t σ H fun x H'=>∃k,x=.bl k∧Q k H'
theorem Ie{op:CmpOp}{r:R2}(ho:DL X (gh op) r)(ha:PE X a ta)(hb:PE X b tb)(hm:behindInMarks op b=false):PT X (.Compare a [op] [b] pos) (Xy (Xo r ta tb)):=by
 intro pins s σ H Q I h
 refine wpAny_isTrue_Compare1 (Aq (ha pins s σ H _ I h) fun v s1 ⟨x,H1,I1,r1,q1⟩=>Aq (hb pins s1 σ H1 _ I1 q1) fun u s2 ⟨y,H2,I2,r2,q2⟩=>
  Aq (ho pins s2 σ H2 x y v u _ I2 r1 r2 q2) fun c s3 ⟨z,H3,I3,r3,k,e,q3⟩=>?_) hm
 subst e
 cases r3
 exact ji ⟨H3,I3,q3⟩
def Vb(K:a8)(x:V)(H:Hp)(k:Bool):Prop:=
 match x with
 | .non=>k=false
 | .bl b=>k=b
 | .int i=>k=(i !=0)
 | .str y=>y.length≤sizeLine∧k=((y.length:Int) !=0)
 | .byt y=>y.size≤sizeLine∧k=((y.size:Int) !=0)
 | .ref p=> (∃xs,SqL K H p xs∧k=!xs.isEmpty)∨(∃xs,HU K H p xs∧k=!xs.isEmpty)∨∃kvs,H p=some (.dK kvs)∧k=!kvs.isEmpty
 |_=>False
theorem LS{κ:Type}{kvs:List (κ×V)}{vs:List (κ×Value)}(r:KV kvs vs):(!vs.isEmpty)=!kvs.isEmpty:=by
 cases r<;>rfl
theorem GN{xs:List V}{its:List Value}(r:Vals xs its):(!its.toArray.isEmpty)=!xs.isEmpty:=by
 cases r<;>simp
theorem Er:(sizeLine:Nat)<2^63:=by rw[eT];decide
theorem Vc:aP X (fun x H Q=>∃k,Vb X.K x H k∧Q k H):=by
 intro pins s σ H x v Q I rx h
 obtain⟨k,e,q⟩:=h
 have hl:=Er
 have hs:sizeLine=16777216:=eT
 cases x with
 |non=>
  cases rx
  have e':k=false:=e
  subst e'
  exact truthy_none ⟨H,I,q⟩
 |bl b=>
  cases rx
  have e':k=b:=e
  subst e'
  exact ji ⟨H,I,q⟩
 |int i=>
  obtain⟨t,rfl⟩:=rx
  have e':k=(i !=0):=e
  subst e'
  exact PySem.P.truthy_int ⟨H,I,q⟩
 |str y=>
  obtain⟨t,rfl⟩:=rx
  obtain⟨hy,e'⟩:y.length≤sizeLine∧k=((y.length:Int) !=0):=e
  subst e'
  exact PySem.P.truthy_str (by omega) ⟨H,I.tok _,q⟩
 |byt y=>
  obtain⟨t,rfl⟩:=rx
  obtain⟨hy,e'⟩:y.size≤sizeLine∧k=((y.size:Int) !=0):=e
  subst e'
  exact PySem.W.truthy_bytes (by omega) ⟨H,I.tok _,q⟩
 |ref p=>
  cases rx
  have e':(∃xs,SqL X.K H p xs∧k=!xs.isEmpty)∨(∃xs,HU X.K H p xs∧k=!xs.isEmpty)∨∃kvs,H p=some (.dK kvs)∧k=!kvs.isEmpty:=e
  rcases e' with⟨xs,hx,e'⟩| ⟨xs,hx,e'⟩| ⟨kvs,hx,e'⟩
  ·subst e'
   obtain⟨its,r,pl,hz⟩:=I.list hx
   have hlen:=r.length
   exact wpAny_truthy_list pl.isList (by simp only[dj];omega) ⟨H,I.tok _,by rw[GN r];exact q⟩
  ·subst e'
   obtain⟨its,r,pl,hz⟩:=I.tuple hx
   have hlen:=r.length
   exact truthy_tuple pl (by simp only[dj];omega) ⟨H,I.tok _,by rw[GN r];exact q⟩
  ·subst e'
   obtain⟨hz,hS,vs,r,m⟩:kvs.length≤sizeLine∧(p==sysModules)=false∧∃vs,KV kvs vs∧s.heap.DictOf (IY X.prog X.w) p vs:=I.hok p _ hx
   have hlen:kvs.length=vs.length:=Paired.length r
   exact wpAny_truthy_dict hS m (by omega) ⟨H,I.tok _,by rw[LS r];exact q⟩
 |_=>exact(show False from e).elim
theorem Ji(ha:PE X a ta)(he:∀whole,isTrue a X.env whole=(do let v←whole;standAt a.pos;holding [v] (truthy v))):
  PT X a (fun σ H Q=>ta σ H fun x H'=>∃k,Vb X.K x H' k∧Q k H'):=by
 intro pins s σ H Q I h
 exact isTrue_plain (Aq (ha pins s σ H _ I h) fun v s1 ⟨x,H1,I1,r1,q1⟩=>Vc pins s1 σ H1 x v Q I1 r1 q1) (he _)
theorem Di{x:V}{us:List Value}(r:Vals [x] us):∃u,us=[u]∧RelV x u:=by
 cases r with
 |cons r1 r2=>cases r2;exact⟨_,rfl,r1⟩
theorem PD{x y:V}{us:List Value}(r:Vals [x,y] us):∃u w',us=[u,w']∧RelV x u∧RelV y w':=by
 cases r with
 |cons r1 r2=>
  cases r2 with
  |cons r3 r4=>cases r4;exact⟨_,_,rfl,r1,r3⟩
theorem Nq(hc:X.calm=true):BA X (.builtin "max") (fun xs H Q=>∃i j,xs=[.int i,.int j]∧Q (.int (if j>i then j else i)) H):=by
 intro pins s σ H xs us Q I r h
 obtain⟨i,j,rfl,q⟩:=h
 obtain⟨u,w',rfl,⟨t,rfl⟩,⟨t',rfl⟩⟩:=PD r
 refine max_two_ints (I.ok.hd hc) fun h' tk k=> ⟨_,H,I.kept k,?_,q⟩
 by_cases hj:j>i
 ·rw[if_pos hj,if_pos hj];exact⟨_,rfl⟩
 ·rw[if_neg hj,if_neg hj];exact⟨_,rfl⟩
theorem Nr(hc:X.calm=true):BA X (.builtin "min") (fun xs H Q=>∃i j,xs=[.int i,.int j]∧Q (.int (if j<i then j else i)) H):=by
 intro pins s σ H xs us Q I r h
 obtain⟨i,j,rfl,q⟩:=h
 obtain⟨u,w',rfl,⟨t,rfl⟩,⟨t',rfl⟩⟩:=PD r
 refine min_two_ints (I.ok.hd hc) fun h' tk k=> ⟨_,H,I.kept k,?_,q⟩
 by_cases hj:j<i
 ·rw[if_pos hj,if_pos hj];exact⟨_,rfl⟩
 ·rw[if_neg hj,if_neg hj];exact⟨_,rfl⟩
theorem Nt:BA X (.type "int") (fun xs H Q=> (∃i,xs=[.int i]∧Q (.int i) H)∨∃k,xs=[.bl k]∧Q (.int (if k then 1 else 0)) H):=by
 intro pins s σ H xs us Q I r h
 rcases h with⟨i,rfl,q⟩| ⟨k,rfl,q⟩
 ·obtain⟨u,rfl,t,rfl⟩:=Di r
  exact call_int_int ⟨.int i,H,I,⟨_,rfl⟩,q⟩
 ·obtain⟨u,rfl,r1⟩:=Di r
  cases r1
  exact call_int_bool ⟨.int (if k then 1 else 0),H,I.tok _,⟨_,rfl⟩,q⟩
end
structure ObjM(h:Heap)(x dx C:Addr)(mA:Str→Option Value):Prop where
 obj:h.get? x=some (md C dx)
 ns:h.Ns1 dx mA
 ne:dx≠x
theorem Hj{h:Heap}{dx:Addr}{mA:Str→Option Value}(n:h.Ns1 dx mA):∃od,h.get? dx=some od∧∀name,mB name od=some (mA name):=by
 obtain⟨o,es,ep,ho,hd,hk,_,hm⟩:=n
 refine⟨o,ho,fun name=>?_⟩
 have e:=hm name
 unfold nsFind findBy at e
 rw[←Array.find?_toList] at e
 unfold mB
 rw[hd]
 dsimp only
 split
 ·rename_i y q
  rw[q] at e
  exact congrArg some e
 ·rename_i q
  rw[q] at e
  have a:es.toList.any (·.refKey)=false:=by
   rw[List.any_eq_false]
   intro y hy
   obtain⟨z,t,hkey⟩:=hk y (Array.mem_toList_iff.mp hy)
   simp[DictEntry.refKey,hkey]
  have a':¬es.toList.any (·.refKey)=true:=by rw[a];exact cf
  rw[if_neg a']
  exact congrArg some e
theorem ObjM.look{h:Heap}{x dx C:Addr}{mA:Str→Option Value}(I:ObjM h x dx C mA):∃od,jq h x (md C dx) C (some od)∧∀name,mB name od=some (mA name):=
 let⟨od,ho,hl⟩:=Hj I.ns
 ⟨od,⟨I.obj,rfl,rfl,ho⟩,hl⟩
section
variable{prog:Program}{w:World}{A:de}{E:Value→Shared→Prop}{s:Shared}{K:a8}{x dx C f:Addr}{mA:Str→Option Value}{name:Str}{v:Value}
end
def GO(f:Str)(v:V):List (Str×V)→List (Str×V)
 | []=> [(f,v)]
 | (g,x)::r=>if g=f then(g,v)::r else(g,x)::GO f v r
theorem FV(f g:Str)(v:V):∀fs:List (Str×V),(GO f v fs).lookup g=if g=f then some v else fs.lookup g
 | []=>by
  show gW g [(f,v)]=_
  by_cases h:g=f
  ·have hb:(g==f)=true:=beq_iff_eq.mpr h
   simp only[gW,hb,if_pos h]
  ·have hb:(g==f)=false:=beq_eq_false_iff_ne.mpr h
   simp only[gW,hb,if_neg h]
 | (k,x)::r=>by
  have ih:=FV f g v r
  rw[show GO f v ((k,x)::r)=(if k=f then(k,v)::r else(k,x)::GO f v r) from rfl]
  by_cases hk:k=f
  ·rw[if_pos hk]
   by_cases h:g=k
   ·have hb:(g==k)=true:=beq_iff_eq.mpr h
    simp only[gW,hb,if_pos (h.trans hk)]
   ·have hb:(g==k)=false:=beq_eq_false_iff_ne.mpr h
    simp only[gW,hb,if_neg (fun e:g=f=>h (e.trans hk.symm))]
  ·rw[if_neg hk]
   by_cases h:g=k
   ·have hb:(g==k)=true:=beq_iff_eq.mpr h
    simp only[gW,hb,if_neg (fun e:g=f=>hk (h.symm.trans e))]
   ·have hb:(g==k)=false:=beq_eq_false_iff_ne.mpr h
    simp only[gW,hb]
    exact ih
theorem Et(f:Str)(v:V):∀fs:List (Str×V),f∈(GO f v fs).map (·.1)∧∀g,g∈fs.map (·.1)→g∈(GO f v fs).map (·.1)
 | []=> ⟨by simp[GO],fun g h=>by simp at h⟩
 | (k,x)::r=>by
  obtain⟨i1,i2⟩:=Et f v r
  rw[show GO f v ((k,x)::r)=(if k=f then(k,v)::r else(k,x)::GO f v r) from rfl]
  by_cases hk:k=f
  ·rw[if_pos hk]
   subst hk
   exact⟨by simp,fun g h=>by simpa using h⟩
  ·rw[if_neg hk]
   refine⟨?_,fun g h=>?_⟩
   ·rw[dv]
    exact cX _ i1
   ·rw[dv] at h ⊢
    rcases da.mp h with e|e
    ·exact da.mpr (.inl e)
    ·exact cX _ (i2 g e)
section
variable{P:Program}{w:World}{H H':Hp}{h h':Heap}{a C dx:Addr}{fs fs':List (Str×V)}
theorem SI(hok:HOk P w H h)(e:H a=some (.ins C dx fs)):∃mA,ObjM h a dx C mA∧(∀f,On (fs.lookup f) (mA f))∧lZ mA (fs.map (·.1))∧fs.length≤1000∧H dx=some (.own a):=by
 obtain⟨d,z,ne,ob,mA,n,r,q⟩:=(show ObjOk P w H h a (.ins C dx fs) from hok a _ e)
 exact⟨mA,⟨ob,n,ne⟩,r,q,z,d⟩
end
structure Cls(K:a8)(C:Addr):Prop where
 pg:PySem.W.plainGet K C Str.empty=true
 hd:iF K C=true
 po:PySem.W.plainOver K C=true
 sa:dJ K (.ref C) "__setattr__" =some (some (.builtin "object.__setattr__"))
theorem Cls.get{K:a8}{C:Addr}(c:Cls K C)(f:Str):PySem.W.plainGet K C f=true:=c.pg
section
variable{X:Cx}{pins:List (Addr×Obj)}{σ:St}{H:Hp}{s:Shared}{a C dx:Addr}{fs:List (Str×V)}{f:Str}{v:V}{A:de}{E:Value→Shared→Prop}
theorem SJ{prog:Program}{w:World}{env:Env}{e:Expr}{f:Str}{pos:Pos}{s:Shared}{Q:Value→Shared→Prop}(hb:jd e f env (eval e env)=eval e env)
  (h:wpAny (model prog w) A (eval e env) (fun o s₁=>wpAny (model prog w) A (getAttr o f true) Q E s₁) E s):wpAny (model prog w) A (eval (.Attribute e f pos) env) Q E s:=
 Attribute_any_ h (by rw[arm_eval_Attribute,hb])
end
section
variable{X:Cx}{o e value:Expr}{f:Str}{pos pos' tpos:Pos}{ta tv:TE}
end
section
variable{X:Cx}{pins:List (Addr×Obj)}{σ:St}{H:Hp}{s:Shared}{A:de}{E:Value→Shared→Prop}{Q:Value→Shared→Prop}{c:Value}{b:Bool}
inductive TyOf(K:a8)(H:Hp):V→Value→Prop where
 |non:TyOf K H .non (.type "NoneType")
 |bl (x:Bool):TyOf K H (.bl x) (.type "bool")
 |int (i:Int):TyOf K H (.int i) (.type "int")
 |str (x:Str):TyOf K H (.str x) (.type "str")
 |flt (x:UInt64):TyOf K H (.flt x) (.type "float")
 |lst {a:Addr} {xs:List V} (e:H a=some (.lst xs)):TyOf K H (.ref a) (.type "list")
 |frz {a:Addr} {o:Obj} {xs:List V} (e:H a=some (.frz o (.lst xs))):TyOf K H (.ref a) (.type "list")
 |tup {a:Addr} {xs:List V} (e:H a=some (.tup xs)):TyOf K H (.ref a) (.type "tuple")
 |dK {a:Addr} {kvs:List (Je×V)} (e:H a=some (.dK kvs)):TyOf K H (.ref a) (.type "dict")
 |dT {a:Addr} {kvs:List (List Je×V)} (e:H a=some (.dT kvs)):TyOf K H (.ref a) (.type "dict")
 |ins {a C dx:Addr} {fs:List (Str×V)} (e:H a=some (.ins C dx fs)) (cl:Cls K C) (ha:dJ K (.ref C) "__class__" =some (some (.builtin "object.__class__")))
   (hn:lB K (.builtin "object.__class__") "__get__" =some (some (.builtin "getset_descriptor.__get__"))) (htk:l9 K (.builtin "object.__class__")=some true)
   (hm:fU K C (.type "object")=some true):TyOf K H (.ref a) (.ref C)
theorem Nu{x:V}{u t:Value}(I:Inv X pins σ H s)(rx:RelV x u)(ty:TyOf X.K H x t)(e:du X.K t c=some b)(h:∀tk,Q (.bool b) {s with toks:=tk}):
  wpAny (model X.prog X.w) A (call (.builtin "isinstance") [u,c]) Q E s:=by
 cases ty with
 |non=>cases(show u=jn from rx);exact fF PySem.W.kitx_none I.kIn kW e (fun z=>nomatch z) h
 |bl y=>cases(show u=lW y from rx);exact fF PySem.W.kitx_bool I.kIn kW e (fun z=>nomatch z) h
 |int i=>obtain⟨t,q⟩:=(show∃t,u=jM i t from rx);cases q;exact fF PySem.W.kitx_int I.kIn kW e (fun z=>nomatch z) h
 |str y=>obtain⟨t,q⟩:=(show∃t,u=nJ y t from rx);cases q;exact fF PySem.W.kitx_str I.kIn kW e (fun z=>nomatch z) h
 |flt y=>obtain⟨t,q⟩:=(show∃t,u=Value.float y t from rx);cases q;exact fF PySem.W.kitx_float I.kIn kW e (fun z=>nomatch z) h
 | @lst a xs ea=>
  cases(show u=Value.ref a from rx)
  obtain⟨_,_,n,_,h1⟩:=(show ObjOk X.prog X.w H s.heap a (.lst xs) from I.hok a _ ea)
  exact fF PySem.W.kitx_list I.kIn ⟨_,h1,rfl⟩ e (fun z=>nomatch z) h
 | @frz a ob xs ea=>
  cases(show u=Value.ref a from rx)
  obtain⟨_,_,_,n,_,h1⟩:=(show ObjOk X.prog X.w H s.heap a (.frz ob (.lst xs)) from I.hok a _ ea)
  exact fF PySem.W.kitx_list I.kIn ⟨_,h1,rfl⟩ e (fun z=>nomatch z) h
 | @tup a xs ea=>
  cases(show u=Value.ref a from rx)
  obtain⟨_,_,_,p⟩:=(show ObjOk X.prog X.w H s.heap a (.tup xs) from I.hok a _ ea)
  obtain⟨o,h1,h2,_⟩:=p
  exact fF PySem.W.kitx_tuple I.kIn ⟨o,h1,h2⟩ e (fun z=>nomatch z) h
 | @dK a kvs ea=>
  cases(show u=Value.ref a from rx)
  obtain⟨_,_,vs,_,p⟩:=(show ObjOk X.prog X.w H s.heap a (.dK kvs) from I.hok a _ ea)
  obtain⟨o,es,ep,h1,h2,_⟩:=p
  exact fF PySem.W.kitx_dict I.kIn ⟨o,h1,h2.1⟩ e (fun z=>nomatch z) h
 | @dT a kvs ea=>
  cases(show u=Value.ref a from rx)
  obtain⟨_,_,xs,_,o,es,ep,h1,h2,_⟩:=(show ObjOk X.prog X.w H s.heap a (.dT kvs) from I.hok a _ ea)
  exact fF PySem.W.kitx_dict I.kIn ⟨o,h1,h2.1⟩ e (fun z=>nomatch z) h
 | @ins a C dx fs ea cl ha hn htk hm=>
  cases(show u=Value.ref a from rx)
  obtain⟨mA,O,_⟩:=SI I.hok ea
  obtain⟨od,J,_⟩:=O.look
  exact fF (PySem.W.kitx_own (cl.get _) cl.hd ha hn htk hm) I.kIn J e (fun z=>nomatch z) h
end
structure Room(k:Nat)(A:de):Prop where
 hd:A.handled=none
 dp:A.depth+3*k+5<mq
 un:A.units+16*k+200<cLine
 gd:A.guards=some []
theorem Room.mono{j k:Nat}{A:de}(r:Room k A)(h:j≤k):Room j A:=⟨r.hd,by have:=r.dp;omega,by have:=r.un;omega,r.gd⟩
theorem Room.deeper{k:Nat}{A:de}(r:Room (k+1) A)(env:Env):Room k (A.deeper env):=
 ⟨r.hd,by have:=r.dp;show A.depth+1+3*k+5<_;omega,by have:=r.un;show A.units+3+16*k+200<_;omega,r.gd⟩
theorem LU{A:de}{C:Addr}{us:List Value}{kw:List (Str×Value)}:(A.under (.builtin "type.__call__" ⟨.ref C::us,kw⟩)).depth=A.depth+1:=by
 first|rfl|simp[l0,Code.weight,Code.isCreation,Code.isGuard,Code.isCaller,Code.frames,nH,guardIds]
theorem LV{A:de}{C:Addr}{us:List Value}{kw:List (Str×Value)}:(A.under (.builtin "type.__call__" ⟨.ref C::us,kw⟩)).units=A.units+1:=by
 first|rfl|simp[l0,Code.cUnits,Code.frames,nH]
theorem Jj{A:de}{C:Addr}{us:List Value}{kw:List (Str×Value)}:(A.under (.builtin "type.__call__" ⟨.ref C::us,kw⟩)).guards=A.guards:=by
 have h:(Code.builtin "type.__call__" ⟨.ref C::us,kw⟩).isGuard=false:=by
  show guardIds.contains "type.__call__" =false
  decide+kernel
 simp only[l0,Code.guards,h]
 cases A.guards<;>rfl
theorem Room.make{k:Nat}{A:de}(r:Room (k+1) A)(C:Addr)(us:List Value)(kw:List (Str×Value)):Room k (A.under (.builtin "type.__call__" ⟨.ref C::us,kw⟩)):=
 ⟨r.hd,by have:=r.dp;rw[LU];omega,by have:=r.un;rw[LV];omega,by rw[Jj];exact r.gd⟩
theorem Room.depth{k:Nat}{A:de}(r:Room k A):A.depth<mq:=by have:=r.dp;omega
def aR:TA:=fun _ H Q=>Q [] H
def Xz(ta:TE)(tr:TA):TA:=fun σ H Q=>ta σ H fun x H1=>tr σ H1 fun xs H2=>Q (x::xs) H2
section
variable{X:Cx}{e:Expr}{es:List Expr}{te:TE}{t:TA}{pos:Pos}
theorem Ay:PA X [] aR:=fun _ _ _ _ H Q I h=>Calls.spliced_nil ⟨[],H,I,.nil,h⟩
theorem AM(ha:PE X e te)(hr:PA X es t)(hs:cb (e::es) X.env=(false,eval e X.env)::cb es X.env:=by rfl):PA X (e::es) (Xz te t):=by
 intro pos pins s σ H Q I h
 rw[hs]
 show wpAny _ _ (spliced ((false,eval e X.env)::fY pos (cb es X.env))) _ _ s
 refine Calls.spliced_cons (Aq (ha pins s σ H _ I h) fun u s1 ⟨x,H1,I1,r1,q1⟩=>?_)
 exact Aq (hr pos pins s1 σ H1 _ I1 q1) fun us s2 ⟨xs,H2,I2,r2,q2⟩=> ⟨x::xs,H2,I2,.cons r1 r2,q2⟩
def aS(t:TA):TE:=fun σ H Q=>t σ H fun xs H1=>xs.length≤sizeLine∧∀p,H1 p=none→Q (.ref p) (upd H1 p (.tup xs))
def aT(t:TA):TE:=fun σ H Q=>t σ H fun xs H1=>xs.length≤sizeLine∧∀p,H1 p=none→Q (.ref p) (upd H1 p (.lst xs))
theorem Vd{x1}(h:PA X es t):PE X (.Tuple es x1 pos) (aS t):=by
 intro pins s σ H Q I hq
 refine wpAny_Tuple_spliced (Aq (h pos pins s σ H _ I hq) fun us s1 ⟨xs,H1,I1,r,z,q⟩=> ⟨by rw[←r.length];exact z,?_⟩)
 have hf:H1 s1.heap.objs.size=none:=I1.hok.fresh (cW _)
 refine⟨.ref s1.heap.objs.size,upd H1 s1.heap.objs.size (.tup xs),I1.laid (t':=s1.toks) (fun b u e=>cj _ e) (cW _) ?_,rfl,q _ hf⟩
 exact⟨z,us,r,⟨_,dy _ rfl,rfl,_,rfl⟩⟩
theorem GP(h:PA X es t):PE X (.List es pos) (aT t):=by
 intro pins s σ H Q I hq
 refine wpAny_List_spliced (Aq (h pos pins s σ H _ I hq) fun us s1 ⟨xs,H1,I1,r,z,q⟩=> ⟨by rw[←r.length];exact z,?_⟩)
 have hf:H1 s1.heap.objs.size=none:=I1.hok.fresh (cW _)
 refine⟨.ref s1.heap.objs.size,upd H1 s1.heap.objs.size (.lst xs),I1.laid (t':=s1.toks) (fun b u e=>cj _ e) (cW _) ?_,rfl,q _ hf⟩
 exact⟨z,us,0,r,dy _ rfl⟩
end
abbrev Sp:=List V→Hp→VK→XK→Prop
abbrev PF:=List Env→Hp→Shared→XK→Value→Shared→Prop
structure Env0(P:Program)(w:World)(K:a8)(mg:Str→Option Value)(base:Heap)(A:de)(outer:List Env)(s:Shared)(H:Hp):Prop where
 frames:A.frames=some outer
 mod:Mod K mg base
 bs:∀b o,base.get? b=some o→s.heap.get? b=some o∧H b=none
 bsz:base.objs.size≤s.heap.objs.size
 funs:s.heap.FunFrames base outer
 frf:∀b∈En outer,H b=none
 hok:HOk P w H s.heap
 bare:kN s.gens
def CE(outer:List Env)(P:Program)(w:World)(H:Hp)(s:Shared)(Q:VK)(u:Value)(s':Shared):Prop:=
 ∃v H',s'.os=s.os∧kN s'.gens∧Un (En outer) [] H H' s.heap s'.heap∧HOk P w H' s'.heap∧RelV v u∧Q v H'
def CR(CX:PF)(outer:List Env)(P:Program)(w:World)(H:Hp)(s:Shared)(Q:VK)(E:XK)(r:ni)(s':Shared):Prop:=
 match r with
 | .ok (.ret u)=>CE outer P w H s Q u s'
 | .ok _=>False
 | .error e=>CX outer H s E e s'
structure FnOk(P:Program)(w:World)(K:a8)(mg:Str→Option Value)(base:Heap)(CX:PF)(k:Nat)(f:Addr)(fd:dA)(ps:List Str)(sp:Sp):Prop where
 len:∀vs H Q E,sp vs H Q E→vs.length=ps.length
 run:∀(A:de) (outer:List Env) (s:Shared) (H:Hp) (args:Args) (us:List Value) (vs:List V) (Q:VK) (E:XK),Room k A→Env0 P w K mg base A outer s H→mP s fd args (ps.zip us)→Vals vs us→sp vs H Q E→
  iD (model P w) A (.call (.ref f) args) (CR CX outer P w H s Q E) s
theorem Env0.make{P:Program}{w:World}{K:a8}{mg:Str→Option Value}{base:Heap}{A:de}{outer:List Env}{s:Shared}{H:Hp}(e:Env0 P w K mg base A outer s H)(C:Addr)(us:List Value)(kw:List (Str×Value)):
  Env0 P w K mg base (A.under (.builtin "type.__call__" ⟨.ref C::us,kw⟩)) outer s H:=⟨by first|exact e.frames| (simpa[l0,Code.envs,nH,pushEnvs] using e.frames),e.mod,e.bs,e.bsz,e.funs,e.frf,e.hok,e.bare⟩
section
variable{X:Cx}{pins:List (Addr×Obj)}{σ:St}{H:Hp}{s s':Shared}
theorem Inv.env0(I:Inv X pins σ H s):Env0 X.prog X.w X.K X.mg X.base X.A X.stack s H:=
 ⟨I.ok.frames,I.ok.mod,I.bs,dZ I.ok.bsz I.sz,I.stack,I.stkFree,I.hok,I.bare⟩
theorem Inv.after{Q:VK}{u:Value}(I:Inv X pins σ H s)(h:CE X.stack X.prog X.w H s Q u s'):EP X pins σ Q u s':=by
 obtain⟨v,H',os,bare,un,hok,r,q⟩:=h
 obtain⟨hh,g,d,t,os'⟩:=s'
 obtain rfl:os'=s.os:=os
 exact⟨v,H',I.call (h':=hh) (g':=g) (d':=d) (t':=t) (ch:=[]) un hok bare (fun b z=>absurd z (by simp)),r,q⟩
end
def Binds(K:a8)(fd:dA)(ps:List Str)(ds:List Value):Prop:=
 ∀(s:Shared) (us:List Value),K.In s.heap→(us++ds).length=ps.length→mP s fd ⟨us,[]⟩ (ps.zip (us++ds))
theorem Binds.all{K:a8}{fd:dA}{ps:List Str}(h:∀us:List Value,us.length=ps.length→nV fd ⟨us,[]⟩=pure (ps.zip us)):Binds K fd ps []:=fun s us _ hl=>by
 rw[eZ] at hl ⊢
 exact .of_eq (h us hl)
section
variable{X:Cx}{CX:PF}{k:Nat}{f C:Addr}{fd:dA}{ps:List Str}{sp:Sp}{dvs:List V}{ds:List Value}{E:XK}{x m:Str}{p pos apos:Pos}{e o:Expr}{es:List Expr}{ta:TE}{t:TA}
end
section
variable{X:Cx}{CX:PF}{k:Nat}{f C:Addr}{fd:dA}{ps ks:List Str}{sp:Sp}{E:XK}{x m:Str}{p pos apos kpos:Pos}{e o:Expr}{es:List Expr}{kws:List lH}{te ta:TE}{t tk:TA}{nm:Option Str}
variable{g:List Value→List Value→List Value}{gV:List V→List V→List V}
end
structure FnScope(N P:List Str)(sc:Scope):Prop where
 kind:sc.kind=.function
 co:sc.isCoroutine=false
 gen:sc.isGenerator=false
 nd:N.Nodup
 pre:N.take P.length=P
 par:∀x∈P,sc.names.lookup x=some .local∨sc.names.lookup x=some .cell
 nofree:∀y∈sc.names,y.2≠.free
theorem Hl{kindOf:Str→Option NameKind}{x:Str}:∀{binds:List (Str×Value)} {m:Str→Option Value},(∀v,(x,v)∉binds)→bindL kindOf binds m x=m x
 | [],_,_=>rfl
 | (n,v)::r,m,h=>by
  unfold bindL
  rw[Hl fun w hw=>h w (cX _ hw)]
  split
  ·have:x≠n:=by rintro rfl;exact h v dw
   simp[this]
  ·rfl
theorem Hm{kindOf:Str→Option NameKind}{x:Str}:∀{binds:List (Str×Value)} {m:Str→Option Value},(∀v,(x,v)∉binds)→bindC kindOf binds m x=m x
 | [],_,_=>rfl
 | (n,v)::r,m,h=>by
  unfold bindC
  rw[Hm fun w hw=>h w (cX _ hw)]
  split
  ·rfl
  ·have:x≠n:=by rintro rfl;exact h v dw
   simp[this]
theorem Hn{kindOf:Str→Option NameKind}{x:Str}{v:Value}:∀{P:List Str} {vs:List Value} {i:Nat} {m:Str→Option Value},P.Nodup→P[i]?=some x→vs[i]?=some v→kindOf x=some .local→
  bindL kindOf (P.zip vs) m x=some v
 | [],_,_,_,_,h,_,_=>by simp at h
 |_::_,[],_,_,_,_,h,_=>by simp at h
 |p::P,w::vs,0,m,nd,h1,h2,hk=>by
  simp at h1 h2;subst h1;subst h2
  show bindL kindOf ((p,w)::P.zip vs) m p=_
  unfold bindL
  rw[Hl fun v hv=> (dO.mp nd).1 (kv hv).1,if_pos hk]
  simp
 |p::P,w::vs,i+1,m,nd,h1,h2,hk=>by
  show bindL kindOf ((p,w)::P.zip vs) m x=_
  unfold bindL
  exact Hn (i:=i) (dO.mp nd).2 (by simpa using h1) (by simpa using h2) hk
theorem Ho{kindOf:Str→Option NameKind}{x:Str}{v:Value}:∀{P:List Str} {vs:List Value} {i:Nat} {m:Str→Option Value},P.Nodup→P[i]?=some x→vs[i]?=some v→kindOf x≠some .local→
  bindC kindOf (P.zip vs) m x=some v
 | [],_,_,_,_,h,_,_=>by simp at h
 |_::_,[],_,_,_,_,h,_=>by simp at h
 |p::P,w::vs,0,m,nd,h1,h2,hk=>by
  simp at h1 h2;subst h1;subst h2
  show bindC kindOf ((p,w)::P.zip vs) m p=_
  unfold bindC
  rw[Hm fun v hv=> (dO.mp nd).1 (kv hv).1,if_neg hk]
  simp
 |p::P,w::vs,i+1,m,nd,h1,h2,hk=>by
  show bindC kindOf ((p,w)::P.zip vs) m x=_
  unfold bindC
  exact Ho (i:=i) (dO.mp nd).2 (by simpa using h1) (by simpa using h2) hk
def start(N:List Str)(vs:List V):St:=vs.map some++cY (N.length-vs.length) none
def Bq(CX:PF)(P:Program)(w:World)(K:a8)(mg:Str→Option Value)(base:Heap)(N:List Str)(qual:Str)(scope:Scope)(f:Addr)(cd:Value)(A:de)(outer:List Env)(s:Shared)(H:Hp)(E:XK):Cx where
 prog:=P
 w:=w
 K:=K
 mg:=mg
 base:=base
 A:=A.deeper (hZ qual scope s.heap.objs.size f cd)
 N:=N
 s₀:=s
 H₀:=H
 env:=hZ qual scope s.heap.objs.size f cd
 outer:=outer
 stack:=hZ qual scope s.heap.objs.size f cd::outer
 ex:=[]
 calm:=true
 fn:=fun _=>true
 pn:=[]
 xe:=fun e s'=>wpAny (model P w) (A.deeper (hZ qual scope s.heap.objs.size f cd)) (leaving (hZ qual scope s.heap.objs.size f cd) e) (fun _ s''=>CX outer H s E e s'') (fun e' s''=>CX outer H s E e' s'') s'
theorem Jk{sc:Scope}{n:Nat}{x:Str}(h:sc.names.lookup x=some .cell):∃c,(fV n sc.names []).lookup x=some c:=by
 have q:=jR sc.names n [] (.inl h)
 exact Option.isSome_iff_exists.mp q
theorem Hq{CX:PF}{P:Program}{w:World}{K:a8}{mg:Str→Option Value}{base:Heap}{N ps:List Str}{qual:Str}{scope:Scope}{f:Addr}{cd:Value}{A:de}{outer:List Env}{s s1:Shared}{H:Hp}{E:XK}{us:List Value}{vs:List V}
  (S:FnScope N ps scope) (hd:A.handled=none) (e0:Env0 P w K mg base A outer s H) (hl:vs.length=ps.length) (r:Vals vs us)
  (x:InCallC s s.heap.objs.size (bindL (hZ qual scope s.heap.objs.size f cd).kindOf (ps.zip us) fun _=>none) (fV (s.heap.objs.size+1) scope.names []) (bindC (hZ qual scope s.heap.objs.size f cd).kindOf (ps.zip us) fun _=>none) s1):
  Inv (Bq CX P w K mg base N qual scope f cd A outer s H E) [] (start N vs) H s1:=by
 have hpl:ps.length≤N.length:=by have:=congrArg List.length S.pre;rw[dI] at this;omega
 obtain⟨h1,tk,rfl,hk⟩:=x.done
 have noA:∀b:Addr,b∉(Bq CX P w K mg base N qual scope f cd A outer s H E).ex:=fun b z=>absurd (show b∈([]:List Addr) from z) (by simp)
 refine⟨⟨e0.mod,S.kind,rfl,rfl,cW _,fun y z c h1 h2=>?_,fun y hy=>?_,fun y c _ h=>?_,fun _=>hd,de.frames_deeper e0.frames,.inr ⟨rfl,rfl⟩,fun b z=>absurd z (noA b),e0.bs,e0.bsz,fun b _ _=>noA b,fun b z=>absurd z (noA b),e0.funs,e0.frf⟩,
  rfl,e0.bare,Un.kept hk,⟨_,x.toInCall.ns,fun i y v h1 h2 h3=>?_⟩,fun y c h=> ⟨_,x.cell y c h⟩,e0.hok.fresh (cW _),fun y c h=>?_,fun p hp=>absurd (show p∈([]:List (Addr×Obj)) from hp) (by simp),e0.hok.kept hk,?_⟩
 ·exact name_of_addr x.apart (iN h1) (iN h2)
 ·have hy:scope.names.lookup y=some .cell∨scope.names.lookup y=some .free:=hy
  rcases hy with hy|hy
  ·exact Jk hy
  ·exact absurd rfl (S.nofree _ (iN hy))
 ·exact iG (x.above y c (iN h))
 ·have hi:i<vs.length:=by
   unfold start at h2
   by_cases hi:i<vs.length
   ·exact hi
   ·rw[dB (by simpa using hi)] at h2
    rw[fm] at h2
    split at h2<;>cases h2
  have ha:vs[i]?=some v:=by
   unfold start at h2
   rw[dM (by simpa using hi),cg] at h2
   cases e:vs[i]? with
   |none=>rw[e] at h2;cases h2
   |some a=>rw[e] at h2;cases h2;rfl
  obtain⟨u,hu,rv⟩:=r.get ha
  have hp:ps[i]?=some y:=by
   rw[←S.pre,iM (by omega)];exact h1
  have ndP:ps.Nodup:=by rw[←S.pre];exact S.nd.sublist (iH _ _)
  refine⟨u,rv,?_⟩
  rcases S.par y (cU hp) with k|k
  ·exact .inl ⟨k,Hn ndP hp hu k⟩
  ·obtain⟨c,e⟩:=Jk (n:=s.heap.objs.size+1) k
   refine .inr ⟨.inl k,c,e,?_⟩
   have q:=x.cell y c e
   rw[Ho ndP hp hu (by show scope.names.lookup y≠_;rw[k];decide)] at q
   exact q
 ·exact e0.hok.fresh (iG (x.above y c (iN h)))
 ·unfold start
  show _=N.length
  rw[dh,b8,e9]
  omega
theorem YA{CX:PF}{P:Program}{w:World}{K:a8}{mg:Str→Option Value}{base:Heap}{k:Nat}{f:Addr}{name qual:Str}{params:Arguments}{body:List Stmt}{scope:Scope}{dV kV doc pm cdv ct oc:Value}{an od:Option Addr}
  {osl:Array (Option Value)} {N ps:List Str} {sp:Sp} (lk:K.lookup f=some ⟨oc,od,.func (il name qual params body scope dV kV doc pm an cdv ct),osl⟩) (hcd:kY K cdv qual=true) (S:FnScope N ps scope)
  (len:∀vs H Q E,sp vs H Q E→vs.length=ps.length)
  (hbody:∀(A:de) (outer:List Env) (s:Shared) (H:Hp) (vs:List V) (Q:VK) (E:XK),Room k (A.deeper (hZ qual scope s.heap.objs.size f cdv))→sp vs H Q E→
   ∃t,PSs (Bq CX P w K mg base N qual scope f cdv A outer s H E) body t∧t {nx:=fun _ H'=>Q .non H',rt:=Q} (start N vs) H):
  FnOk P w K mg base CX (k+1) f (il name qual params body scope dV kV doc pm an cdv ct) ps sp:=by
 refine⟨len,fun A outer s H args us vs Q E hr e0 hb r hsp=>?_⟩
 have hl:=len _ _ _ _ hsp
 have KX:K.In s.heap:=e0.mod.kin.keeps fun b o e=> (e0.bs b o e).1
 have lim:s.heap.NoLimit:=e0.mod.nolimit.keeps fun b o e=> (e0.bs b o e).1
 have hkind:∀y∈ps.zip us,scope.names.lookup y.1=some .local∨(scope.names.lookup y.1=some .cell∧((fV (s.heap.objs.size+1) scope.names []).lookup y.1).isSome=true):=fun⟨n,v⟩ hy=>by
  rcases S.par n (kv hy).1 with q|q
  ·exact .inl q
  ·exact .inr ⟨q,jR _ _ _ (.inl q)⟩
 refine codeAny_call_function hr.depth (KX _ _ lk) rfl S.co S.gen rfl (PySem.W.codeRec_of KX hcd) (hb _ _ _ _ ?_)
 refine wpAny_newFunctionEnv_cells S.kind hkind fun env he s1 x=>?_
 subst he
 refine⟨lim.keeps x.toInCall.keep,codeAny_func ?_⟩
 obtain⟨t,ht,hq⟩:=hbody A outer s H vs Q E (hr.deeper _) hsp
 have I:Inv (Bq CX P w K mg base N qual scope f cdv A outer s H E) [] (start N vs) H s1:=Hq S hr.hd e0 hl r x
 refine gD (ht [] s1 (start N vs) H _ I hq) (fun fl s' hs=>?_) fun e s' hs=>hs
 have fin:∀{σ':St} {H':Hp} {v:V} {u:Value},Inv (Bq CX P w K mg base N qual scope f cdv A outer s H E) [] σ' H' s'→RelV v u→Q v H'→CE outer P w H s Q u s':=
  fun{σ' H' v u} J rv q=> ⟨v,H',J.os,J.bare,J.base,J.hok,rv,q⟩
 cases fl with
 |ret u=>
  obtain⟨v,σ',H',J,rv,q⟩:=hs
  exact fin J rv q
 |next=>
  obtain⟨σ',H',J,q⟩:=hs
  exact fin (v:=V.non) (u:=jn) J rfl q
 |brk=>
  obtain⟨_,_,_,q⟩:=hs
  exact fh q
 |cont=>
  obtain⟨_,_,_,q⟩:=hs
  exact fh q
section
variable{X:Cx}{x:Str}{p pos:Pos}{e:Expr}{es:List Expr}{t:TA}{id T:String}{r:List V→Hp→VK→Prop}
def bG(r:List V→Hp→VK→Prop)(t:TA):TE:=fun σ H Q=>t σ H fun vs H1=>r vs H1 Q
theorem Aw(hc:BA X (.builtin id) r)(hg:Gl X x)(hm:X.mg x=none)(hv:dY x=some (.builtin id))(ha:PA X (e::es) t)(hn:x≠"__name__":=by decide)(hdb:(x==("__debug__" :Str))=false:=by decide)
  (he:cb (e::es) X.env=(false,eval e X.env)::cb es X.env:=by rfl) (hpl:(fY pos (cb es X.env)).any (·.1)=false:=by rfl):PE X (.Call (.Name x p) (e::es) [] pos) (bG r t):=by
 intro pins s σ H Q I h
 refine iw (Eo I hg hm hv ?_ hn hdb)
 exact PyProof.Rows.callWith_builtin1 (Aq (ha pos pins s σ H _ I h) fun us s1 ⟨vs,H1,I1,r1,q1⟩=>hc pins s1 σ H1 vs us Q I1 r1 q1) he hpl
theorem DX(hc:BA X (.type T) r)(hg:Gl X x)(hm:X.mg x=none)(hv:dY x=some (.type T))(ha:PA X (e::es) t)(hn:x≠"__name__":=by decide)(hdb:(x==("__debug__" :Str))=false:=by decide)
  (he:cb (e::es) X.env=(false,eval e X.env)::cb es X.env:=by rfl) (hpl:(fY pos (cb es X.env)).any (·.1)=false:=by rfl):PE X (.Call (.Name x p) (e::es) [] pos) (bG r t):=by
 intro pins s σ H Q I h
 refine iw (Eo I hg hm hv ?_ hn hdb)
 exact jk (Aq (ha pos pins s σ H _ I h) fun us s1 ⟨vs,H1,I1,r1,q1⟩=>hc pins s1 σ H1 vs us Q I1 r1 q1) he hpl
end
end L2
namespace HT
open PySem PyProof.Rows
section
open PySem.SeqAt
open PySem.AutoSeq1 (wpAny_loadPart')
open PySem.MeetsSeq PySem.MeetsSeq2 PySem.MeetsSeq3
end
section
variable{prog:Program}{w:World}{A:de}{E:Value→Shared→Prop}{s:Shared}
theorem SK{t b:Addr}{vs ws:List Value}{Q:Value→Shared→Prop}(ht:IsTup s.heap t vs.toArray)(hb:IsTup s.heap b ws.toArray)(hv:vs≠[])
  (h1:ws=[]→Q (.ref t) s) (h2:ws≠[]→Q (.ref s.heap.objs.size) {s with heap:=s.heap.push {cls:=.type "tuple",data:=.seq (vs++ws).toArray}})
  (hsz:vs.length+ws.length≤sizeLine):wpAny (model prog w) A (iE .Add (.ref t) (.ref b)) Q E s:=by
 obtain⟨⟨cls,dd,data,sl⟩,ho,hc,n,hd⟩:=id ht
 obtain⟨⟨cls2,dd2,data2,sl2⟩,ho2,hc2,n2,hd2⟩:=id hb
 simp only at hc hd hc2 hd2
 subst hc hd hc2 hd2
 have e:vs.toArray++ws.toArray=(vs++ws).toArray:=by simp
 by_cases hw:ws=[]
 ·exact ny ⟨_,ho,rfl⟩ ⟨_,ho2,rfl⟩ lP mT jS jN (jB _ _)
   (tuple_addW1 t b vs.toArray ws.toArray n n2 dd dd2 sl sl2 (by simpa using hv) (by simp[hw])) ⟨ho,ho2,h1 hw⟩
 ·refine ny ⟨_,ho,rfl⟩ ⟨_,ho2,rfl⟩ lP mT jS jN (jB _ _)
   (tuple_addW2 t b vs.toArray ws.toArray n n2 dd dd2 sl sl2 (by simpa using hv) (by simpa using hw) (by rw[dj,dj];exact hsz)) ⟨ho,ho2,?_⟩
  rw[e]
  exact h2 hw
def Jf(n d:Nat):Option Int→Nat
 |none=>d
 |some v=>if v<0 then(v+(n:Int)).toNat else min v.toNat n
end
end HT
namespace L2
open PySem PySem.Spec PyProof.Rows
abbrev TO:=St→Hp→(Option Int→Hp→Prop)→Prop
def PO(X:Cx)(e:Option Expr)(t:TO):Prop:=
 ∀(pins:List (Addr×Obj)) (s:Shared) (σ:St) (H:Hp) (Q:Option Int→Hp→Prop),Inv X pins σ H s→t σ H Q→
  wpAny (model X.prog X.w) X.A (evalPart e X.env) (fun u s'=>∃o H',Inv X pins σ H' s'∧IsPart u o∧Q o H') X.xe s
def YB(t:TE):TO:=fun σ H Q=>t σ H fun x H1=>∃i,x=.int i∧Q (some i) H1
theorem LW{ns:List Int}:∀{us:List Value},Vals (ns.map V.int) us→IntsAre us ns:=by
 induction ns with
 |nil=>intro us r;rw[kM] at r;cases r;exact .nil
 |cons n ns ih=>
  intro us r
  rw[dv] at r
  cases r with
  |cons r1 r2=>
   obtain⟨t,e⟩:=r1
   subst e
   exact .cons n t (ih r2)
section
variable{X:Cx}{e:Expr}{te:TE}{lo hi:Option Expr}{tl th:TO}{pos p2:Pos}
theorem Mf(h:PE X e te):PO X (some e) (YB te):=by
 intro pins s σ H Q I hw
 rw[evalPart_some]
 refine Aq (h pins s σ H _ I hw) fun u s1 ⟨x,H1,I1,r1,q1⟩=>?_
 obtain⟨i,rfl,q⟩:=q1
 obtain⟨t,rfl⟩:=r1
 exact⟨some i,H1,I1,.int i t,q⟩
def bH(X:Cx)(r:V→Option Int→Option Int→Hp→VK→Prop):Prop:=
 ∀(pins:List (Addr×Obj)) (s:Shared) (σ:St) (H:Hp) (x:V) (v vl vu:Value) (lo hi:Option Int) (sl:Addr) (Q:VK),Inv X pins σ H s→RelV x v→s.heap.IsSliceOf sl vl vu .none→IsPart vl lo→IsPart vu hi→r x lo hi H Q→
  ∃T id,typeLookup (.type T) "__getitem__" =pure (some (.builtin id))∧s.TypeIs v T∧wpAny (model X.prog X.w) X.A (getItem v (.ref sl)) (EP X pins σ Q) X.xe s
def bZ(r:V→Option Int→Option Int→Hp→VK→Prop)(te:TE)(tl th:TO):TE:=fun σ H Q=>te σ H fun x H1=>tl σ H1 fun l H2=>th σ H2 fun u H3=>r x l u H3 Q
theorem PH{r:V→Option Int→Option Int→Hp→VK→Prop}(hr:bH X r)(he:PE X e te)(hl:PO X lo tl)(hu:PO X hi th):PE X (.Subscript e (.Slice lo hi none p2) pos) (bZ r te tl th):=by
 intro pins s σ H Q I h
 refine Subscript_ (Aq (he pins s σ H _ I h) fun v s1 ⟨x,H1,I1,r1,q1⟩=>?_)
 refine wpAny_Slice (Aq (hl pins s1 σ H1 _ I1 q1) fun vl s2 ⟨l,H2,I2,pl,q2⟩=>Aq (hu pins s2 σ H2 _ I2 q2) fun vu s3 ⟨u,H3,I3,pu,q3⟩=>?_)
 rw[evalPart_none]
 refine b9 ?_
 have I4:Inv X pins σ H3 {s3 with heap:=s3.heap.push {cls:=.type "slice",data:=.fields #[vl,vu,.none]}}:=I3.kept (t':=s3.toks) fun b ob q=>cj _ q
 obtain⟨T,id,hT,ht,hg⟩:=hr pins {s3 with heap:=s3.heap.push {cls:=.type "slice",data:=.fields #[vl,vu,.none]}} σ H3 x v vl vu l u s3.heap.objs.size Q I4 r1 (Heap.IsSliceOf.new ..) pl pu q3
 show wpAny (model X.prog X.w) X.A (subscriptTail e (.Slice lo hi none p2) v (.ref s3.heap.objs.size)) (EP X pins σ Q) X.xe {s3 with heap:=s3.heap.push {cls:=.type "slice",data:=.fields #[vl,vu,.none]}}
 exact tail_any (ops:=[.ref s3.heap.objs.size,v]) ht hT hg (by with_unfolding_all rfl)
def Nv(xs:List V)(lo hi:Option Int):List V:=(xs.drop (HT.Jf xs.length 0 lo)).take (HT.Jf xs.length xs.length hi-HT.Jf xs.length 0 lo)
theorem Jl(xs:List V)(lo hi:Option Int):(Nv xs lo hi).length≤xs.length:=by
 unfold Nv
 rw[dI,gO]
 omega
def YC(K:a8):R2:=fun x y H Q=>∃a b xs ys,x=.ref a∧y=.ref b∧HU K H a xs∧HU K H b ys∧xs≠[]∧xs.length+ys.length≤sizeLine∧
 (ys=[]→Q (.ref a) H)∧(ys≠[]→∀p,H p=none→Q (.ref p) (upd H p (.tup (xs++ys))))
theorem Vals.nil_iff{xs:List V}{us:List Value}(r:Vals xs us):us=[]↔xs=[]:=by
 cases r with
 |nil=>simp
 |cons _ _=>simp
theorem SL:DL X (iE .Add) (YC X.K):=by
 intro pins s σ H x y v u Q I rx ry h
 obtain⟨a,b,xs,ys,rfl,rfl,ha,hb,hx,hz,q1,q2⟩:=h
 cases rx
 cases ry
 obtain⟨its,r1,p1,_⟩:=I.tuple ha
 obtain⟨its2,r2,p2,_⟩:=I.tuple hb
 refine HT.SK p1 p2 (fun z=>hx (r1.nil_iff.mp z)) (fun z=> ⟨.ref a,H,I,rfl,q1 (r2.nil_iff.mp z)⟩) (fun z=>?_) (by rw[←r1.length,←r2.length];exact hz)
 refine⟨.ref s.heap.objs.size,_,I.laid (t':=s.toks) (o:=.tup (xs++ys)) (fun b ob q=>cj _ q) (cW _) ?_,rfl,q2 (fun w=>z (r2.nil_iff.mpr w)) _ (I.hok.fresh (cW _))⟩
 exact⟨by rw[dh];exact hz,_,r1.append r2,IsTup.new _ _⟩
end
def Nw(n:Nat)(i:Int):Option Nat:=if 0≤i then(if i<n then some i.toNat else none) else if-(n:Int)≤i then some (i+n).toNat else none
def atI{α:Type}(xs:List α)(i:Int):Option α:=(Nw xs.length i).bind fun j=>xs[j]?
theorem Mh{n:Nat}{i:Int}{j:Nat}(h:Nw n i=some j):mK i n=some j∧j<n∧-(n:Int)≤i∧i<n:=by
 unfold Nw at h
 by_cases h0:0≤i
 ·rw[if_pos h0] at h
  by_cases h1:i<n
  ·rw[if_pos h1] at h
   have e:i.toNat=j:=dQ.inj h
   exact⟨by rw[nL h0 h1,e],by omega,by omega,h1⟩
  ·rw[if_neg h1] at h;cases h
 ·rw[if_neg h0] at h
  by_cases h1: -(n:Int)≤i
  ·rw[if_pos h1] at h
   have e:(i+n).toNat=j:=dQ.inj h
   exact⟨by rw[seqIndex_neg (by omega) h1,e],by omega,h1,by omega⟩
  ·rw[if_neg h1] at h;cases h
theorem Mi{α:Type}{xs:List α}{i:Int}{v:α}(h:atI xs i=some v):∃j,mK i xs.length=some j∧xs[j]?=some v∧j<xs.length∧-(xs.length:Int)≤i∧i<xs.length:=by
 unfold atI at h
 cases e:Nw xs.length i with
 |none=>rw[e] at h;cases h
 |some j=>
  rw[e] at h
  obtain⟨h1,h2,h3,h4⟩:=Mh e
  exact⟨j,h1,h,h2,h3,h4⟩
theorem BB{α:Type}{xs:List α}{j:Nat}{v:α}(h:xs[j]?=some v):atI xs (j:Int)=some v:=by
 have hj:j<xs.length:=(cw.mp h).1
 have e:Nw xs.length (j:Int)=some j:=by
  unfold Nw
  rw[if_pos (by omega),if_pos (by omega)];simp
 unfold atI;rw[e];exact h
theorem PJ{α:Type}(xs:List α)(v:α):atI (xs++[v]) (-1)=some v:=by
 have hl:(xs++[v]).length=xs.length+1:=by simp
 have e:Nw (xs++[v]).length (-1)=some xs.length:=by
  unfold Nw
  rw[hl,if_neg (by decide),if_pos (by omega)]
  congr 1
  omega
 unfold atI
 rw[e]
 show(xs++[v])[xs.length]?=some v
 simp
def DY(b:Expr):Prop:=∀o i,subscripted b false o i=operate [o,i] (getItem o i)
def YD(X:Cx)(r:R2):Prop:=
 ∀(value slice:Expr) (pins:List (Addr×Obj)) (s:Shared) (σ:St) (H:Hp) (x y:V) (v u:Value) (Q:VK),Inv X pins σ H s→RelV x v→RelV y u→r x y H Q→
  subscripted slice false v u=operate [v,u] (getItem v u)→wpAny (model X.prog X.w) X.A (subscriptTail value slice v u) (EP X pins σ Q) X.xe s
def bI(X:Cx)(id:String)(r:V→List V→Hp→VK→Prop):Prop:=
 ∀(pins:List (Addr×Obj)) (s:Shared) (σ:St) (H:Hp) (x:V) (xs:List V) (v:Value) (us:List Value) (Q:VK),Inv X pins σ H s→RelV x v→Vals xs us→r x xs H Q→
  wpAny (model X.prog X.w) X.A (call (.builtin id) (v::us)) (EP X pins σ Q) X.xe s
section
variable{X:Cx}{a b:Expr}{ta tb:TE}{pos:Pos}
theorem PK{r:R2}(hr:YD X r)(ha:PE X a ta)(hb:PE X b tb)(hs:DY b):PE X (.Subscript a b pos) (Xo r ta tb):=by
 intro pins s σ H Q I h
 exact Subscript_ (VV ha hb I h fun v u s2 x y H2 I2 rx ry q=>hr a b pins s2 σ H2 x y v u Q I2 rx ry q (hs _ _))
def Ve(K:a8):R2:=fun x y H Q=>∃p xs i v,x=.ref p∧y=.int i∧SqL K H p xs∧atI xs i=some v∧Q v H
def YE(K:a8):R2:=fun x y H Q=>∃p xs i v,x=.ref p∧y=.int i∧HU K H p xs∧atI xs i=some v∧Q v H
theorem EJ:YD X (Ve X.K):=by
 intro value slice pins s σ H x y v u Q I rx ry h hs
 obtain⟨p,xs,i,z,rfl,rfl,hq,he,q⟩:=h
 cases rx
 obtain⟨t,rfl⟩:=ry
 obtain⟨its,r,pl,hz⟩:=I.list hq
 obtain⟨j,h1,h2,h3,h4,h5⟩:=Mi he
 obtain⟨w,ew,rw'⟩:=r.get h2
 have hl:=r.length
 have hn:=Er
 have fin:EP X pins σ Q w s:=⟨z,H,I,rw',q⟩
 by_cases h0:0≤i
 ·have hj:i.toNat=j:=by
   rw[nL h0 h5] at h1
   exact dQ.inj h1
  exact item_listR pl.isList h0 (by omega) (by rw[hj];simpa using ew) fin hs
 ·have hj:(i+(its.toArray.size:Int)).toNat=j:=by
   rw[seqIndex_neg (by omega) h4] at h1
   rw[dj,←hl]
   exact dQ.inj h1
  exact subscriptTail_builtinR (x:=w) pl.isList.typeIs slot_list_getitem.lookup
   (wpAny_getItem_list_neg (Q:=fun r s'=>r=w∧EP X pins σ Q r s') pl.isList (by omega) (by rw[dj]<;>omega) (by omega) (by rw[hj];simpa using ew) ⟨rfl,fin⟩) hs
theorem Vf:YD X (YE X.K):=by
 intro value slice pins s σ H x y v u Q I rx ry h hs
 obtain⟨p,xs,i,z,rfl,rfl,hq,he,q⟩:=h
 cases rx
 obtain⟨t,rfl⟩:=ry
 obtain⟨its,r,pl,hz⟩:=I.tuple hq
 obtain⟨j,h1,h2,h3,h4,h5⟩:=Mi he
 obtain⟨w,ew,rw'⟩:=r.get h2
 have hl:=r.length
 have hn:=Er
 have fin:EP X pins σ Q w s:=⟨z,H,I,rw',q⟩
 exact subscriptTail_builtinR (x:=w) pl.typeIs slot_tuple_getitem.lookup
  (getItem_tuple (j:=j) (Q:=fun r s'=>r=w∧EP X pins σ Q r s') pl (by omega) (by omega) (by rw[dj,←hl];exact h1) (by simpa using ew) ⟨rfl,fin⟩) hs
theorem LX(its:List Value)(n j:Nat)(u:Value):fS (·.setIfInBounds j u) {cls:=.type "list",data:=.seq its.toArray n}={cls:=.type "list",data:=.seq (its.set j u).toArray n}:=by
 simp[fS]
theorem Inv.lst{pins:List (Addr×Obj)}{σ:St}{H:Hp}{s:Shared}{p:Addr}{xs:List V}(I:Inv X pins σ H s)(h:H p=some (.lst xs)):
  ∃(its:List Value) (n:Nat),Vals xs its∧s.heap.get? p=some {cls:=.type "list",data:=.seq its.toArray n}∧xs.length≤sizeLine:=by
 obtain⟨z,its,n,r,e⟩:=I.hok p _ h
 exact⟨its,n,r,e,z⟩
theorem Inv.lstUpd{pins:List (Addr×Obj)}{σ:St}{H:Hp}{s:Shared}{p:Addr}{xs ys:List V}{its its':List Value}{n n':Nat}{f:Obj→Obj}(I:Inv X pins σ H s)(h:H p=some (.lst xs))
  (ho:s.heap.get? p=some {cls:=.type "list",data:=.seq its.toArray n}) (hf:f {cls:=.type "list",data:=.seq its.toArray n}={cls:=.type "list",data:=.seq its'.toArray n'}) (r:Vals ys its') (hz:ys.length≤sizeLine) (t:Nat):
  Inv X pins σ (upd H p (.lst ys)) {s with heap:=s.heap.update p f,toks:=t}:=by
 have e:(s.heap.update p f).get? p=some {cls:=.type "list",data:=.seq its'.toArray n'}:=by
  rw[iz f ho (by rw[hf]<;>rfl),hf]
 refine I.write (x:=p) (e:=p) (by rw[h];trivial) (.inl rfl) (fun b u hb q=> (fg _ _ (Ne.symm hb)).trans q) ⟨_,e⟩ ?_
 exact⟨hz,its',n',r,e⟩
def YF:V→V→V→Hp→(Hp→Prop)→Prop:=fun o i v H Q=>∃p xs k j,o=.ref p∧i=.int k∧H p=some (.lst xs)∧Nw xs.length k=some j∧Q (upd H p (.lst (xs.set j v)))
theorem PL:Xd X YF:=by
 intro pins s σ H o i v ov iv u Q I ro ri rv h
 obtain⟨p,xs,k,j,rfl,rfl,hp,hj,q⟩:=h
 cases ro
 obtain⟨t,rfl⟩:=ri
 obtain⟨its,n,r,ho,hz⟩:=I.lst hp
 obtain⟨h1,h2,h3,h4⟩:=Mh hj
 have hl:=r.length
 have hn:=Er
 have I':Inv X pins σ (upd H p (.lst (xs.set j v))) {s with heap:=s.heap.update p (fS (·.setIfInBounds j u))}:=
  I.lstUpd hp ho (LX its n j u) (r.set rv j) (by rw[gG];exact hz) s.toks
 by_cases h0:0≤k
 ·have hk:k.toNat=j:=by
   rw[nL h0 h4] at h1
   exact dQ.inj h1
  exact PySem.W.ki_setAt ho h0 (by omega) (by rw[dj,←hl];exact h4) (by rw[hk];exact⟨_,I',q⟩)
 ·have hk:(k+(its.toArray.size:Int)).toNat=j:=by
   rw[seqIndex_neg (by omega) h3] at h1
   rw[dj,←hl]
   exact dQ.inj h1
  exact PySem.W.ki_setBack ho (by omega) (by rw[dj,←hl];exact h3) (by omega) (by rw[hk];exact⟨_,I',q⟩)
theorem Ig(lo hi:Option Int)(n:Nat):(jL lo hi none n).1=((HT.Jf n 0 lo:Nat):Int)∧(jL lo hi none n).2.1=((HT.Jf n n hi:Nat):Int)∧(jL lo hi none n).2.2=1:=by
 refine⟨?_,?_,rfl⟩
 ·cases lo with
  |none=>simp[jL,HT.Jf]
  |some i=>
   simp only[jL,HT.Jf,Option.getD_none,show(1:Int)>0 by decide,if_true]
   by_cases h:i<0
   ·simp only[h,if_true]<;>omega
   ·simp only[h,if_false]<;>omega
 ·cases hi with
  |none=>simp[jL,HT.Jf]
  |some i=>
   simp only[jL,HT.Jf,Option.getD_none,show(1:Int)>0 by decide,if_true]
   by_cases h:i<0
   ·simp only[h,if_true]<;>omega
   ·simp only[h,if_false]<;>omega
theorem HX(its:List Value)(lo hi:Option Int):slicePick its.toArray lo hi none=((its.drop (HT.Jf its.length 0 lo)).take (HT.Jf its.length its.length hi-HT.Jf its.length 0 lo)).toArray:=by
 obtain⟨h1,h2,h3⟩:=Ig lo hi its.toArray.size
 unfold slicePick
 rw[h1,h2,h3]
 simp only[sliceRange_one,pick_run,dj]<;>rfl
def aU(K:a8):V→Option Int→Option Int→Hp→VK→Prop:=fun x lo hi H Q=>∃a xs,x=.ref a∧SqL K H a xs∧∀p,H p=none→Q (.ref p) (upd H p (.lst (Nv xs lo hi)))
theorem SM:bH X (aU X.K):=by
 intro pins s σ H x v vl vu lo hi sl Q I rx hs pl pu h
 obtain⟨a,xs,rfl,hx,q⟩:=h
 cases rx
 obtain⟨its,r,ht,hz⟩:=I.list hx
 have hlen:=r.length
 refine⟨"list",_,slot_list_getitem.lookup,ht.isList.typeIs,?_⟩
 refine wpAny_getItem_list_slice ht.isList hs pl pu .none (by simp) ?_ (by rw[dj]<;>omega)
 rw[HX,←hlen]
 refine⟨.ref s.heap.objs.size,_,I.laid (t':=s.toks) (o:=.lst (Nv xs lo hi)) (fun b ob q=>cj _ q) (cW _) ?_,rfl,q _ (I.hok.fresh (cW _))⟩
 exact⟨dZ (Jl xs lo hi) hz,_,0,(r.drop (HT.Jf xs.length 0 lo)).take (HT.Jf xs.length xs.length hi-HT.Jf xs.length 0 lo),dy _ rfl⟩
def Dj:V→Bool
 | .non=>true
 | .bl _=>true
 | .int _=>true
 | .str _=>true
 |_=>false
def LL:V→V→Bool
 | .non,.non=>true
 | .bl a,.bl b=>a==b
 | .bl a,.int b=> (if a then 1 else 0)==b
 | .int a,.bl b=>a==(if b then 1 else 0)
 | .int a,.int b=>a==b
 | .str a,.str b=>a==b
 |_,_=>false
theorem Vg{A:de}{s:Shared}{y x:V}{u v:Value}(ry:RelV y u)(rx:RelV x v)(fy:Dj y=true)(fx:Dj x=true):fz A s u v (LL y x):=by
 cases y with
 |non=>
  cases ry
  cases x with
  |non=>cases rx;exact fz.same _
  |bl b=>cases rx;exact fz.none_bool b
  |int b=>obtain⟨t,rfl⟩:=rx;exact fz.none_int b t
  |str b=>obtain⟨t,rfl⟩:=rx;exact fz.none_str b t
  |_=>exact absurd (show false=true from fx) cf
 |bl a=>
  cases ry
  cases x with
  |non=>cases rx;exact fz.bool_none a
  |bl b=>cases rx;exact fz.bool_bool a b
  |int b=>obtain⟨t,rfl⟩:=rx;exact fz.bool_int a b t
  |str b=>obtain⟨t,rfl⟩:=rx;exact fz.bool_str a b t
  |_=>exact absurd (show false=true from fx) cf
 |int a=>
  obtain⟨t',rfl⟩:=ry
  cases x with
  |non=>cases rx;exact fz.int_none a t'
  |bl b=>cases rx;exact fz.int_bool a t' b
  |int b=>obtain⟨t,rfl⟩:=rx;exact fz.int_int a t' b t
  |str b=>obtain⟨t,rfl⟩:=rx;exact fz.int_str a t' b t
  |_=>exact absurd (show false=true from fx) cf
 |str a=>
  obtain⟨t',rfl⟩:=ry
  cases x with
  |non=>cases rx;exact fz.str_none a t'
  |bl b=>cases rx;exact fz.str_bool a t' b
  |int b=>obtain⟨t,rfl⟩:=rx;exact fz.str_int a t' b t
  |str b=>obtain⟨t,rfl⟩:=rx;exact fz.str_str a t' b t
  |_=>exact absurd (show false=true from fx) cf
 |_=>exact absurd (show false=true from fy) cf
def XT(x:V)(u:Value):Bool:=match u with
 | .none=>LL .non x
 | .bool b=>LL (.bl b) x
 | .int i _=>LL (.int i) x
 | .str z _=>LL (.str z) x
 |_=>false
theorem LY{x y:V}{u:Value}(r:RelV y u)(f:Dj y=true):XT x u=LL y x:=by
 cases y with
 |non=>cases r;rfl
 |bl b=>cases r;rfl
 |int i=>obtain⟨t,rfl⟩:=r;rfl
 |str z=>obtain⟨t,rfl⟩:=r;rfl
 |_=>exact absurd (show false=true from f) cf
theorem GQ{A:de}{s:Shared}{x:V}{v:Value}(rx:RelV x v)(fx:Dj x=true):∀{xs:List V} {us:List Value},Vals xs us→xs.all Dj=true→∀u∈us,fz A s u v (XT x u)
 |_,_,.nil,_=>fun u hu=>by cases hu
 |y::xs,u::us,.cons r t,f=>fun u' hu=>by
  rw[List.all_cons,eX] at f
  rcases da.mp hu with rfl|hu
  ·rw[LY r f.1];exact Vg r rx f.1 fx
  ·exact GQ rx fx t f.2 u' hu
theorem EK:BA X (.builtin "len") (fun xs H Q=>∃p ys,xs=[.ref p]∧(SqL X.K H p ys∨HU X.K H p ys)∧Q (.int ys.length) H):=by
 intro pins s σ H xs us Q I r h
 obtain⟨p,ys,rfl,hq,q⟩:=h
 obtain⟨u,rfl,rx⟩:=Di r
 cases rx
 have hn:=Er
 rcases hq with hq|hq
 ·obtain⟨its,r',pl,hz⟩:=I.list hq
  have hlen:=r'.length
  exact Calls.call_len_list pl.isList (by simp only[dj]<;>omega) ⟨.int ys.length,H,I.tok _,⟨s.toks+1,by rw[dj,hlen]⟩,q⟩
 ·obtain⟨its,r',pl,hz⟩:=I.tuple hq
  have hlen:=r'.length
  exact len_tuple pl (by simp only[dj]<;>omega) ⟨.int ys.length,H,I.tok _,⟨s.toks+1,by rw[dj,hlen]⟩,q⟩
def aV(K:a8)(T:String)(x:V)(H:Hp):Prop:=match x with
 | .str _=>T= "str"
 | .int _=>T= "int"
 | .ref p=> (T= "list"∧∃xs,SqL K H p xs)∨(T= "tuple"∧∃o,K.lookup p=some o∧o.cls=.type "tuple"∧o.dict=none)∨
   (T= "dict"∧((∃kvs,H p=some (.dK kvs))∨∃kvs,H p=some (.dT kvs)))∨(T= "set"∧∃S n,H p=some (.set S n))
 |_=>False
theorem Vh{pins:List (Addr×Obj)}{σ:St}{H:Hp}{s:Shared}{T:String}{x:V}{v:Value}(I:Inv X pins σ H s)(r:RelV x v)(ty:aV X.K T x H):
  s.TypeIs v T∧∀a,v=.ref a→∃ob,s.heap.get? a=some ob∧ob.dict=none:=by
 cases x with
 |str z=>
  obtain⟨t,rfl⟩:=r
  cases(show T= "str" from ty)
  exact⟨typeIs_str s z t,fun _ e=>nomatch e⟩
 |int i=>
  obtain⟨t,rfl⟩:=r
  cases(show T= "int" from ty)
  exact⟨typeIs_int s i t,fun _ e=>nomatch e⟩
 |ref p=>
  cases r
  rcases ty with⟨rfl,xs,hq⟩| ⟨rfl,o,hk,hc,hd⟩| ⟨rfl,hk⟩| ⟨rfl,S,n,hk⟩
  ·obtain⟨its,_,pl,_⟩:=I.list hq
   refine⟨pl.isList.typeIs,fun a e=>?_⟩
   cases e
   obtain⟨o,n,e,c,hd,_⟩:=pl
   exact⟨o,e,hd⟩
  ·refine⟨⟨o,I.kIn p o hk,hc⟩,fun a e=>?_⟩
   cases e
   exact⟨o,I.kIn _ o hk,hd⟩
  ·have z:∃o,s.heap.get? p=some o∧o.ExactDict:=by
    rcases hk with⟨kvs,hk⟩| ⟨kvs,hk⟩
    ·obtain⟨_,_,_,_,o,_,_,e,ex,_⟩:=I.hok p _ hk
     exact⟨o,e,ex⟩
    ·obtain⟨_,_,_,_,o,_,_,e,ex,_⟩:=I.hok p _ hk
     exact⟨o,e,ex⟩
   obtain⟨o,e,ex⟩:=z
   refine⟨⟨o,e,ex.1⟩,fun a e2=>?_⟩
   cases e2
   exact⟨o,e,ex.2.1⟩
  ·obtain⟨o,_,_,_,e,ex,_⟩:=I.hok p _ hk
   refine⟨⟨o,e,ex.1⟩,fun a e2=>?_⟩
   cases e2
   exact⟨o,e,ex.2.1⟩
 |_=>exact fh ty
def ba(K:a8)(T:String)(r:V→List V→Hp→VK→Prop)(to:TE)(t:TA):TE:=fun σ H Q=>to σ H fun x H1=>aV K T x H1∧t σ H1 fun xs H2=>r x xs H2 Q
variable{o e:Expr}{es:List Expr}{to:TE}{t:TA}{name:Str}{apos cpos:Pos}{T id:String}{r:V→List V→Hp→VK→Prop}
theorem PM(pa:PlainAttrs T)(slot:Slot T name id)(hty:nQ (.builtin id)=pure (.type "method_descriptor"))(hm:bI X id r)(ho:PE X o to)(ha:PA X (e::es) t)
  (hbase:jd o name X.env (eval o X.env)=eval o X.env:=by rfl)
  (hfew:((fY cpos (cb (e::es) X.env)).all (fun x=>!x.1)&&(nX cpos (mx [] X.env)).all (fun x=>x.1.isSome)
   &&decide ((e::es).length+([]:List lH).length+(if([]:List lH).isEmpty then 0 else 1)<30))=true:=by rfl)
  (hline:(apos.endLine==cpos.line)=true:=by rfl) (hs:cb (e::es) X.env=(false,eval e X.env)::cb es X.env:=by rfl) (hplain:(fY cpos (cb es X.env)).any (·.1)=false:=by rfl):
  PE X (.Call (.Attribute o name apos) (e::es) [] cpos) (ba X.K T r to t):=by
 intro pins s σ H Q I h
 refine wpAny_Call_method_late hbase hfew hline rfl (Aq (ho pins s σ H _ I h) fun v s1 ⟨x,H1,I1,r1,ty,q1⟩=>?_)
 obtain⟨h1,h2⟩:=Vh I1 r1 ty
 refine⟨T,id,pa,slot,hty,h1,h2,?_⟩
 have hA:=ha cpos pins s1 σ H1 _ I1 q1
 rw[hs] at hA ⊢
 refine Calls.callWith_builtin (by show(false|| (fY cpos (cb es X.env)).any (·.1))=false;rw[hplain]<;>rfl) (Calls.evalArgs_plain ?_)
 exact Aq hA fun us s2 ⟨vs,H2,I2,r2,q2⟩=>hm pins s2 σ H2 x vs v us Q I2 r1 r2 q2
end
def Zs(X:Cx)(id:String)(r:V→List V→Hp→VK→Prop):Prop:=
 ∀(pins:List (Addr×Obj)) (s:Shared) (σ:St) (H:Hp) (x:V) (xs:List V) (v:Value) (us:List Value) (Q:VK),Inv X pins σ H s→RelV x v→Vals xs us→r x xs H Q→
  wpAny (model X.prog X.w) X.A (call (.builtin id) (v::us)) (EP X pins σ Q) X.xe s
theorem Vals.one:∀{x:V} {us:List Value},Vals [x] us→∃u,us=[u]∧RelV x u
 |_,_,.cons r .nil=> ⟨_,rfl,r⟩
theorem Vals.eraseIdx:∀{xs:List V} {us:List Value} (i:Nat),Vals xs us→Vals (xs.eraseIdx i) (us.eraseIdx i)
 |_,_,_,.nil=> .nil
 |_,_,0,.cons _ t=>t
 |_,_,i+1,.cons r t=> .cons r (Vals.eraseIdx i t)
theorem Hr{α:Type}:∀(l:List α) (i:Nat),(l.eraseIdx i).length≤l.length
 | [],_=>cW _
 |_::_,0=>mG _
 |_::r,i+1=>Nat.succ_le_succ (Hr r i)
section
variable{X:Cx}{pins:List (Addr×Obj)}{σ:St}{H:Hp}{s:Shared}{l b:Addr}{xs ys zs:List V}
theorem Inv.lset{its its':List Value}{n:Nat}{f:Array Value→Array Value}{t':Nat}(I:Inv X pins σ H s)(hH:H l=some (.lst xs))
  (e:s.heap.get? l=some {cls:=.type "list",data:=.seq its.toArray n}) (hf:f its.toArray=its'.toArray) (hv:Vals ys its') (hz:ys.length≤sizeLine):
  Inv X pins σ (upd H l (.lst ys)) {s with heap:=s.heap.update l (fS f),toks:=t'}:=by
 have q:=PySem.IsL.update e f
 rw[hf] at q
 refine I.write (x:=l) (e:=l) (by rw[hH];exact trivial) (.inl rfl) (fun b' u hb hu=> (fg s.heap (fS f) (Ne.symm hb)).trans hu) ⟨_,q⟩ ?_
 exact⟨hz,its',_,hv,q⟩
theorem Inv.lnew{its:List Value}{t':Nat}(I:Inv X pins σ H s)(hv:Vals ys its)(hz:ys.length≤sizeLine):
  Inv X pins σ (upd H s.heap.objs.size (.lst ys)) {s with heap:=s.heap.push {cls:=.type "list",data:=.seq its.toArray},toks:=t'}:=
 I.laid (fun _ _ q=>cj _ q) (cW _) ⟨hz,its,0,hv,dy _ rfl⟩
theorem Inv.fresh(I:Inv X pins σ H s):H s.heap.objs.size=none:=I.hok.fresh (cW _)
theorem Inv.lstM(I:Inv X pins σ H s)(hH:H l=some (.lst xs)):xs.length≤sizeLine∧∃(its:List Value) (n:Nat),Vals xs its∧xs.length=its.length∧s.heap.get? l=some {cls:=.type "list",data:=.seq its.toArray n}:=by
 obtain⟨z,its,n,r,e⟩:=I.hok l _ hH
 exact⟨z,its,n,r,r.length,e⟩
end
section
variable{X:Cx}
def Mj:V→List V→Hp→VK→Prop:=fun x vs H Q=>∃l xs y,x=.ref l∧vs=[y]∧H l=some (.lst xs)∧xs.length<sizeLine∧Q .non (upd H l (.lst (xs++[y])))
theorem Hs:Zs X "list.append" Mj:=by
 intro pins s σ H x vs v us Q I rx rv h
 obtain⟨l,xs,y,rfl,rfl,hH,hz,q⟩:=h
 cases rx
 obtain⟨u,rfl,ru⟩:=rv.one
 obtain⟨z,its,n,r,hl,e⟩:=I.lstM hH
 refine kU F.slot_list_append ⟨_,e,rfl⟩ F.entry_list_append (F.args_list_append_2 _ _) (PySem.list_append l its.toArray n u (by rw[dj];omega)) ⟨e,?_⟩
 refine⟨.non,_,I.lset (its':=its++[u]) hH e (by simp) (r.append (.cons ru .nil)) ?_,rfl,q⟩
 rw[dh,List.length_singleton]
 omega
def Vi:V→List V→Hp→VK→Prop:=fun x vs H Q=>∃l xs i k y,x=.ref l∧vs=[.int i]∧H l=some (.lst xs)∧-(2^63)≤i∧i<2^63∧mK i xs.length=some k∧xs[k]?=some y∧Q y (upd H l (.lst (xs.eraseIdx k)))
theorem PN:Zs X "list.pop" Vi:=by
 intro pins s σ H x vs v us Q I rx rv h
 obtain⟨l,xs,i,k,y,rfl,rfl,hH,h1,h2,hk,hy,q⟩:=h
 cases rx
 obtain⟨u,rfl,ru⟩:=rv.one
 obtain⟨t,rfl⟩:=ru
 obtain⟨z,its,n,r,hl,e⟩:=I.lstM hH
 obtain⟨w,hw,rw'⟩:=r.get hy
 refine kU F.slot_list_pop ⟨_,e,rfl⟩ F.entry_list_pop (F.args_list_pop_2 _ _)
  (MeetsSeq.list_pop_at l its.toArray n i t k w (fitsIndex_both h1 h2) (by rw[dj,←hl];exact hk) (by rw[←dG];exact hw) (by rw[dj];omega)) ⟨e,?_⟩
 refine⟨y,_,I.lset (its':=its.eraseIdx k) hH e ?_ (r.eraseIdx k) ?_,rw',q⟩
 ·show its.toArray.eraseIdxIfInBounds k=(its.eraseIdx k).toArray
  rw[List.eraseIdxIfInBounds_toArray]
 ·have:=Hr xs k
  omega
def YG:R2:=fun x y H Q=>∃l b xs zs,x=.ref l∧y=.ref b∧H l=some (.lst xs)∧H b=some (.lst zs)∧xs.length+zs.length≤sizeLine∧∀p,H p=none→Q (.ref p) (upd H p (.lst (xs++zs)))
theorem LZ:DL X (iE .Add) YG:=by
 intro pins s σ H x y v u Q I rx ry h
 obtain⟨l,b,xs,zs,rfl,rfl,hH,hB,hz,q⟩:=h
 cases rx
 cases ry
 obtain⟨z,its,n,r,hl,e⟩:=I.lstM hH
 obtain⟨z2,its2,n2,r2,hl2,e2⟩:=I.lstM hB
 refine PySem.P.add_list e e2 ?_ (by rw[dj,dj];omega)
 have ea:its.toArray++its2.toArray=(its++its2).toArray:=by simp
 rw[ea]
 exact⟨.ref _,_,I.lnew (t':=s.toks) (r.append r2) (by rw[dh];omega),rfl,q _ I.fresh⟩
end
section
variable{prog:Program}{w:World}{A:de}{E:Value→Shared→Prop}{s:Shared}
end
section
variable{X:Cx}
end
end L2
namespace Att
open PySem PySem.W PySem.Calls PyProof.Rows
theorem Fk{P:Params}{h:Heap}:∀(ns:List Int) (vs:List Value),WellAll P h vs (ns.map WData.int)→IntsAre vs ns:=by
 intro ns
 induction ns with
 |nil=>
  intro vs w
  rw[kM] at w
  cases w
  exact .nil
 |cons n ns ih=>
  intro vs w
  rw[dv] at w
  cases w with
  |cons a b=>
   cases a
   exact .cons _ _ (ih _ b)
theorem Nx{l:me}{n:Nat}(hn:l.most=some n){P:Params}{h:Heap}{args:List WData}{vals:List Value}
  (hpre:l.row.toRowW.claim.pre args=true) (hwl:WellAll P h vals args):
  ∃a vs ns,vals=[Value.ref a]∧args=[WData.list (ns.map WData.int)]∧h.get? a=some {cls:=.type "list",data:=.seq vs.toArray}∧IntsAre vs ns∧ns.length≤n:=by
 have hsh:WShape.hasAll [] args [.list .int]=true:=(pre_splitW hpre).1
 have hc:l.pre.holds [] {args:=args}=true:=(pre_splitW hpre).2
 obtain⟨d,r,rfl,h1,h2⟩:=hasAllW_cons hsh
 obtain rfl:=hasAllW_nil h2
 obtain⟨xs,rfl,h3⟩:=hasW_list h1
 obtain⟨ns,rfl⟩:=items_int h3
 have hlen:ns.length≤n:=by
  unfold me.pre at hc
  have h4:(WTm.not (.lt (.lit (.int (n:Int))) (.len (.arg 0)))).holds [] {args:=[.list (ns.map .int)]}=true:=by
   have h4:=(holds_andW hc).1
   rw[hn] at h4
   exact h4
  have h5:=condW_of h4 (w_not (w_lt w_lit (w_len_list (w_arg rfl))))
  rw[b8] at h5
  refine j9 fun q=>?_
  have q':(n:Int)< ((ns.length:Nat):Int):=by omega
  first
   | (rw[decide_eq_true q'] at h5;exact absurd h5 (by decide))
   | (simp at h5;omega)
 cases hwl with
 |cons w1 w2=>
  cases w2
  cases w1 with
  |list ho hall=>exact⟨_,_,ns,rfl,rfl,ho,Fk ns _ hall,hlen⟩
theorem Ny(l:me)(args:List WData):l.row.toRowW.claim.post args (.bool true) args=true:=
 postW_of (r:=l.row.toRowW) (X:=(true==true))
  (show WShape.has [] (.bool true) .bool=true by first|rfl|decide|simp[WShape.has,WShape.arms,WShape.armsAll])
  (show(WTm.eq .res (.lit (.bool true))).value [] {args:=args,res:=some (.bool true),after:=args}=some (.bool (true==true)) from w_eq_bool (w_res rfl) w_lit) rfl
theorem Jm{l:me}{n:Nat}{q:Program}{loose:List Str}{XP:(Str→Option Value)→Heap→Prop}{YP:World→Heap→Prop}{d:DefRec}
  (hn:l.most=some n) (hdf:d.params.defaults=[])
  (call:∀(w:World) (s₀ s₁:Shared) (mg mb:Str→Option Value) (fa:Addr) (o:Obj) (pm cd doc:Value) (a:Addr) (vs:List Value) (ns:List Int),
   Ground q loose [] XP w s₀ mg mb s₁.heap→YP w s₁.heap→
   s₁.heap.get? fa=some o→o.data=.func (docDef d.name d.params d.body d.scope pm cd doc)→s₁.heap.CodeRec cd d.name→mg d.name=some (.ref fa)→
   s₁.heap.get? a=some {cls:=.type "list",data:=.seq vs.toArray}→IntsAre vs ns→ns.length≤n→s₁.gens= #[]→
   iD (model l.prog w) mO (.call (.ref fa) ⟨[.ref a],[]⟩) (fun r s'=>r=.ok (.ret (.bool true))∧OldK s₁.heap s'.heap∧s'.os=s₁.os∧kN s'.gens) s₁):
  WalkO q loose XP YP l.row.toRowW d [] (fun f vs=>PySem.call f vs):=by
 intro w s₀ s₁ mg mb G Y fa o pm cd doc dV kV ho hd hcd hD hmg hg args vals as hpre hlay hrd hwl hlo
 obtain rfl:dV=.none:=Dflts.none hD hdf
 obtain rfl:kV=.none:=Dflts.noKw hD
 obtain⟨a,vs,ns,rfl,rfl,hobj,hints,hlen⟩:=Nx hn hpre hwl
 refine enter_call (iY (call w s₀ s₁ mg mb fa o pm cd doc a vs ns G Y ho (fd_plain hd) hcd hmg hobj hints hlen hg) fun r s' hq=>?_)
 obtain⟨rfl,h2,h3,h4⟩:=hq
 exact⟨.inl ⟨.bool true,.bool true,[],rfl,fun _=>rfl,.bool true,Ny l _,fun _=> ⟨hV,fun _ hm=> (nomatch hm)⟩⟩,h2,h3,h4⟩
section
variable{prog:Program}{w:World}{A:de}{E:Value→Shared→Prop}{s:Shared}{K:Frag}
end
end Att
namespace L2
open PySem PySem.Spec PyProof.Rows
theorem Ht:∀{vs:List Value} {ns:List Int},IntsAre vs ns→Vals (ns.map V.int) vs
 |_,_,.nil=> .nil
 |_,_,.cons n t h=> .cons ⟨t,rfl⟩ (Ht h)
def Vj(H:Hp):Prop:=∀b,H b=none∨∃o xs,H b=some (.frz o (.lst xs))
theorem PP{P:Program}{w:World}{K:a8}{mg mb:Str→Option Value}{CX:PF}{k:Nat}{fa a:Addr}{fd:dA}{x:Str}{sp:Sp}{s₁:Shared}{vs:List Value}{ns:List Int}
  (KX:K.In s₁.heap) (hns:s₁.heap.Ns fJ mg) (hb:s₁.heap.Ns nh mb) (hbb:∀x:Str,x≠"__name__"→mb x=dY x) (hlim:s₁.heap.NoLimit) (hg:s₁.gens= #[])
  (ha:s₁.heap.get? a=some {cls:=.type "list",data:=.seq vs.toArray}) (hi:IntsAre vs ns) (hl:ns.length≤sizeLine) (hr:Room k mO)
  (F:∀base:Heap,K.In base→base.Ns fJ mg→FnOk P w K mg base CX k fa fd [x] sp) (hbind:∀(s:Shared) (u:Value),mP s fd ⟨[u],[]⟩ [(x,u)])
  (hsp:∀H:Hp,Vj H→SqL K H a (ns.map V.int)→sp [.ref a] H (fun v _=>v=.bl true) fun _ _ _=>False)
  (hCX:∀H e s',CX [] H s₁ (fun _ _ _=>False) e s'→False):
  iD (model P w) mO (.call (.ref fa) ⟨[.ref a],[]⟩) (fun r s'=>r=.ok (.ret (.bool true))∧OldK s₁.heap s'.heap∧s'.os=s₁.os∧kN s'.gens) s₁:=by
 have rv:=Ht hi
 have lenV:=hi.length
 have core:∀H:Hp,Vj H→SqL K H a (ns.map V.int)→HOk P w H s₁.heap→(∀b,H b≠none→b=a)→(H a≠none→K.lookup a=none)→
   iD (model P w) mO (.call (.ref fa) ⟨[.ref a],[]⟩) (fun r s'=>r=.ok (.ret (.bool true))∧OldK s₁.heap s'.heap∧s'.os=s₁.os∧kN s'.gens) s₁:=by
  intro H hO hS hok hA hK
  have base_of:∀{b:Addr} {o:Obj},s₁.heap.get? b=some o→H b=none→(IZ s₁.heap H).get? b=some o:=fun e n=>Oo e n
  have noA:∀{b:Addr} {o:Obj} {es:Array DictEntry} {ep:Nat},s₁.heap.get? b=some o→o.data=.dict es ep→H b=none:=fun{b o es ep} e d=>by
   cases q:H b with
   |none=>rfl
   |some u=>
    have e':b=a:=hA b (by rw[q];simp)
    subst e'
    rw[ha] at e;cases e
    have d':Data.seq vs.toArray _=Data.dict es ep:=d
    cases d'
  have nsK:∀{b:Addr} {m:Str→Option Value},s₁.heap.Ns b m→(IZ s₁.heap H).Ns b m:=fun{b m} ⟨o,es,ep,e,d,r⟩=> ⟨o,es,ep,base_of e (noA e d),d,r⟩
  have hKb:K.In (IZ s₁.heap H):=fun b o e=>base_of (KX b o e) (by
   cases q:H b with
   |none=>rfl
   |some u=>
    have e':b=a:=hA b (by rw[q];simp)
    subst e'
    rw[hK (by rw[q];simp)] at e;cases e)
  have hM:Mod K mg (IZ s₁.heap H):=⟨hKb,nsK hns,⟨mb,nsK hb,hbb⟩,let⟨mc,h1,h2⟩:=hlim;⟨mc,nsK h1,h2⟩⟩
  have e0:Env0 P w K mg (IZ s₁.heap H) mO [] s₁ H:=⟨rfl,hM,fun b o e=>Rz e,Nat.le_of_eq (Nk _ _),trivial,fun b hb=>absurd (show b∈([]:List Addr) from hb) (by simp),hok,.of_eq hg⟩
  refine iY ((F _ hKb (nsK hns)).run mO [] s₁ H ⟨[.ref a],[]⟩ [.ref a] [.ref a] _ _ hr e0 (hbind s₁ (.ref a)) (.cons rfl .nil) (hsp H hO hS)) fun r s' h=>?_
  cases r with
  |error e=>exact(hCX H e s' h).elim
  |ok fl=>
   cases fl with
   |next=>exact fh h
   |brk=>exact fh h
   |cont=>exact fh h
   |ret u=>
    obtain⟨v,H',os,bare,un,hok',r',q⟩:=h
    have q':v=.bl true:=q
    subst q'
    obtain rfl:u=lW true:=r'
    refine⟨rfl,OldK.of_keep fun b o e=>?_,os,bare⟩
    cases q:H b with
    |none=>exact un.keep b o e q (by intro z;exact absurd (show b∈([]:List Addr) from z) (by simp)) (by simp)
    |some u=>
     rcases hO b with z| ⟨ob,xs,z⟩
     ·rw[q] at z;cases z
     ·have z2:=un.frzs b ob _ z
      obtain⟨e1,_⟩:=hok b _ z
      obtain⟨e2,_⟩:=hok' b _ z2
      rw[e] at e1;cases e1
      exact e2
 cases hk:K.lookup a with
 |some o=>
  have e:=KX a o hk
  rw[ha] at e
  cases e
  refine core (fun _=>none) (fun _=> .inl rfl) (.inr ⟨_,vs.toArray,_,hk,rfl,rfl,rfl,by rw[dj,lenV];exact hl,by simpa using rv⟩) (fun b u z=>by have z':(none:Option HO)=some u:=z;cases z') (fun b z=>absurd rfl z) fun z=>absurd rfl z
 |none=>
  refine core (fun b=>if b=a then some (.frz {cls:=.type "list",data:=.seq vs.toArray} (.lst (ns.map V.int))) else none) (fun b=>?_) (.inl (.inr ⟨{cls:=.type "list",data:=.seq vs.toArray},if_pos rfl⟩)) (fun b u z=>?_) (fun b z=>?_) fun _=>hk
  ·by_cases hb:b=a
   ·exact .inr ⟨_,_,if_pos hb⟩
   ·exact .inl (if_neg hb)
  ·by_cases hb:b=a
   ·have z':=(if_pos hb).symm.trans z
    cases z'
    subst hb
    exact⟨ha,by rw[b8];exact hl,vs,_,rv,ha⟩
   ·have z':=(if_neg hb).symm.trans z
    cases z'
  ·by_cases hb:b=a
   ·exact hb
   ·exact absurd (if_neg hb) z
theorem SN{l:me}{n k:Nat}{q:Program}{loose:List Str}{XP:(Str→Option Value)→Heap→Prop}{YP:World→Heap→Prop}{d:DefRec}{K:Params→a8}{CX:World→PF}{sp:World→Sp}{x:Str}
  (hn:l.most=some n) (hn2:n≤sizeLine) (hdf:d.params.defaults=[]) (hr:Room k mO)
  (hY:∀(w:World) (h:Heap),YP w h→(K w.params).In h)
  (F:∀(w:World) (mg:Str→Option Value) (fa:Addr) (h:Heap),(K w.params).In h→h.Ns fJ mg→mg d.name=some (.ref fa)→
   ∃fd:dA,(∀(s:Shared) (u:Value),mP s fd ⟨[u],[]⟩ [(x,u)])∧
    ∀base:Heap,(K w.params).In base→base.Ns fJ mg→FnOk l.prog w (K w.params) mg base (CX w) k fa fd [x] (sp w))
  (hsp:∀(w:World) (H:Hp) (a:Addr) (ns:List Int),ns.length≤n→Vj H→SqL (K w.params) H a (ns.map V.int)→sp w [.ref a] H (fun v _=>v=.bl true) fun _ _ _=>False)
  (hCX:∀(w:World) (H:Hp) (s:Shared) (e:Value) (s':Shared),CX w [] H s (fun _ _ _=>False) e s'→False):
  PySem.W.WalkO q loose XP YP l.row.toRowW d [] (fun f vs=>PySem.call f vs):=by
 refine Att.Jm hn hdf fun w s₀ s₁ mg mb fa o pm cd doc a vs ns G Y ho hd hcd hmg hobj hints hlen hg=>?_
 have KX:=hY w _ Y
 obtain⟨fd,hb,hF⟩:=F w mg fa _ KX G.T.g hmg
 exact PP KX G.T.g G.T.b G.T.builtins G.T.nolimit hg hobj hints (dZ hlen hn2) hr hF hb (fun H hO hS=>hsp w H a ns hlen hO hS) fun H e s'=>hCX w H s₁ e s'
def CB(s:Stmt):Arguments:=match s with
 | .FunctionDef _ a _ _ _ _ _ _ _ _=>a
 |_=> {posonlyargs:=[],args:=[],vararg:=none,kwonlyargs:=[],kw_defaults:=[],kwarg:=none,defaults:=[]}
def AY(s:Stmt):List Stmt:=match s with
 | .FunctionDef _ _ b _ _ _ _ _ _ _=>b
 |_=> []
def AA(s:Stmt):Scope:=match s with
 | .FunctionDef _ _ _ _ _ _ sc _ _ _=>sc
 |_=> {kind:=.function,names:=[],isGenerator:=false,isCoroutine:=false}
abbrev aW:PF:=fun _ _ _ _ _ _=>False
abbrev E0:XK:=fun _ _ _=>False
structure Fun(K:a8)(x qual:Str)(st:Stmt)(f:Addr)(fd:dA):Prop where
 ex:∃(oc:Value) (od:Option Addr) (kV doc pm:Value) (an:Option Addr) (cdv ct:Value) (osl:Array (Option Value)),
  fd=il x qual (CB st) (AY st) (AA st) .none kV doc pm an cdv ct∧K.lookup f=some ⟨oc,od,.func fd,osl⟩∧kY K cdv qual=true
 kp:eM K (.ref f)=true
section
variable{P:Program}{w:World}{K:a8}{mg:Str→Option Value}{base:Heap}
theorem Fun.binds{x qual:Str}{st:Stmt}{f:Addr}{fd:dA}{ps:List Str}(F:Fun K x qual st f fd)
  (h:∀(kV doc pm:Value) (an:Option Addr) (cdv ct:Value) (us:List Value),us.length=ps.length→nV (il x qual (CB st) (AY st) (AA st) .none kV doc pm an cdv ct) ⟨us,[]⟩=pure (ps.zip us)):Binds K fd ps []:=by
 obtain⟨oc,od,kV,doc,pm,an,cdv,ct,osl,rfl,lk,hcd⟩:=F.ex
 exact .all (h kV doc pm an cdv ct)
end
section
variable{X:Cx}
theorem pv(i:Nat){x:Str}{pos:Pos}(hN:X.N[i]?=some x:=by rfl)(hv:XS X.env.scope x:=by first|exact ku rfl|exact k8 (ku rfl)|exact k8 (k8 rfl))(hd:(x==("__debug__" :Str))=false:=by decide)
  (hcd:(x==("__classdict__" :Str))=false:=by decide):PE X (.Name x pos) (XY i):=Oq hN hv hd hcd
end
theorem La{A B:Prop}(h:B):if false=true then A else B:=by
 rw[if_neg cf]
 exact h
theorem Ih{A B:Prop}(h:A):if true=true then A else B:=by
 rw[if_pos rfl]
 exact h
theorem Vk{c A B:Prop} [Decidable c](h1:c→A)(h2:¬c→B):if c then A else B:=by
 by_cases h:c
 ·rw[if_pos h]
  exact h1 h
 ·rw[if_neg h]
  exact h2 h
def Same(H H':Hp):Prop:=∀b o,H b=some o→H' b=some o
theorem Same.refl(H:Hp):Same H H:=fun _ _ h=>h
end L2
set_option maxHeartbeats 4000000
namespace L2
open PySem PySem.Spec PyProof.Rows
theorem Ii{env:Env}:∀(l:List (Str×NameKind)) (acc:List (Str×Addr)),(∀y∈l,y.2=.free→∃c,env.cells.lookup y.1=some c)→
  (∀x c,acc.lookup x=some c→env.cells.lookup x=some c)→
  ∃cl,(forIn l acc (fun(x:Str×NameKind) (r:List (Str×Addr))=> (match x with
   | (name,kind)=>if(kind==NameKind.free)=true then(do let a←cellOf env name;pure (gI ((name,a)::r))) else pure (gI r):Sem (ForInStep (List (Str×Addr))))))=(pure cl:Sem _)∧
   (∀x c,cl.lookup x=some c→env.cells.lookup x=some c)∧(∀x,(acc.lookup x).isSome=true→(cl.lookup x).isSome=true)∧∀y∈l,y.2=.free→(cl.lookup y.1).isSome=true
 | [],acc,_,ha=> ⟨acc,rfl,ha,fun _ h=>h,fun _ h=>nomatch h⟩
 | (n,k)::r,acc,h,ha=>by
  have hr:∀y∈r,y.2=.free→∃c,env.cells.lookup y.1=some c:=fun y hy=>h y (cX _ hy)
  by_cases hk:k=.free
  ·subst hk
   obtain⟨c,hc⟩:=h (n,.free) dw rfl
   have hc:env.cells.lookup n=some c:=hc
   have ha':∀x c',((n,c)::acc).lookup x=some c'→env.cells.lookup x=some c':=fun x c' e=>by
    rw[eD] at e
    cases hx:x==n with
    |true=>rw[hx] at e;cases e;rw[beq_iff_eq.mp hx];exact hc
    |false=>rw[hx] at e;exact ha x c' e
   obtain⟨cl,e,h1,h2,h3⟩:=Ii r ((n,c)::acc) hr ha'
   refine⟨cl,?_,h1,fun x hx=>h2 x ?_,fun y hy hf=>?_⟩
   ·rw[mh]
    simp only[cellOf,hc,beq_self_eq_true,if_true]
    exact e
   ·rw[eD]
    cases x==n with
    |true=>rfl
    |false=>exact hx
   ·rcases da.mp hy with rfl|hy
    ·exact h2 n (by rw[eD,beq_self_eq_true];rfl)
    ·exact h3 y hy hf
  ·have hb:(k==NameKind.free)=false:=by simpa using hk
   obtain⟨cl,e,h1,h2,h3⟩:=Ii r acc hr ha
   refine⟨cl,?_,h1,h2,fun y hy hf=>?_⟩
   ·rw[mh]
    simp only[hb,dC,if_false]
    exact e
   ·rcases da.mp hy with rfl|hy
    ·exact absurd hf hk
    ·exact h3 y hy hf
theorem SO{env:Env}{csc:Scope}(h:∀y∈csc.names,y.2=.free→∃c,env.cells.lookup y.1=some c):
  ∃cl,closureFor csc env=pure cl∧(∀x c,cl.lookup x=some c→env.cells.lookup x=some c)∧∀y∈csc.names,y.2=.free→(cl.lookup y.1).isSome=true:=by
 obtain⟨cl,e,h1,_,h3⟩:=Ii csc.names [] h (fun x c e=>by cases e)
 refine⟨cl,?_,h1,h3⟩
 unfold closureFor
 have e':=congrArg (fun m:Sem (List (Str×Addr))=>m>>=fun r=>pure r) e
 exact e'
theorem EL{env:Env}:∀{names:List (Str×NameKind)} {x:Str},names.lookup x=some .free→
  (names.map fun(n,k)=>if(k==NameKind.free&&env.scope.kind==.function&&env.kindOf n==some .cell) then(n,jf) else(n,k)).lookup x=some .cell∨
  (names.map fun(n,k)=>if(k==NameKind.free&&env.scope.kind==.function&&env.kindOf n==some .cell) then(n,jf) else(n,k)).lookup x=some .free
 | [],_,h=>by simp at h
 | (n,k)::r,x,h=>by
  have ih:=@EL env r x
  rw[dv]
  show gW x ((if(k==NameKind.free&&env.scope.kind==.function&&env.kindOf n==some .cell)=true then(n,jf) else(n,k))::_)=_∨gW x ((if(k==NameKind.free&&env.scope.kind==.function&&env.kindOf n==some .cell)=true then(n,jf) else(n,k))::_)=_
  cases hx:x==n with
  |true=>
   simp only[eD,hx] at h
   cases h
   split
   ·exact .inl (by rw[eD,hx])
   ·exact .inr (by rw[eD,hx])
  |false=>
   simp only[eD,hx] at h
   split
   ·simp only[eD,hx];exact ih h
   ·simp only[eD,hx];exact ih h
def Mk:Option NameKind→Bool
 |some .cell=>true
 |_=>false
theorem Jn{k:Option NameKind}(h:Mk k=true):k=some .cell:=by
 cases k with
 |none=>cases h
 |some k=>cases k<;>first|rfl|cases h
def SQ(X:Cx)(csc:Scope)(cl:List (Str×Addr))(N':List Str)(s:Shared)(H:Hp)(fp:List Addr):Cx:=
 {X with N:=N',s₀:=s,H₀:=H,env:=nz csc cl s.heap.objs.size X.env,outer:=X.stack,ex:=fp,fn:=fun x=>Mk (csc.names.lookup x),pn:=[],xe:=fun _ _=>False}
structure LcCx(X:Cx)(csc:Scope)(N':List Str)(X':Cx):Prop where
 is:∃cl s H fp,X'=SQ X csc cl N' s H fp
def CC(σ:St)(cap:List (Str×Nat)):St:=cap.map fun p=> (σ[p.2]?).join
structure LcOk(X:Cx)(csc:Scope)(nc:List Str)(cap:List (Str×Nat)):Prop where
 kind:csc.kind=.function
 cells:∀y∈csc.names,y.2=.cell→csc.names.lookup y.1=some .cell
 locals:∀y∈csc.names,y.2=.local→csc.names.lookup y.1=some .local
 free:∀y∈csc.names,y.2=.free→X.env.scope.names.lookup y.1=some .cell∨X.env.scope.names.lookup y.1=some .free
 caps:∀p∈cap,X.N[p.2]?=some p.1∧csc.names.lookup p.1=some .free
abbrev Ak(nc:List Str)(cap:List (Str×Nat)):List Str:=nc++cap.map (·.1)
abbrev HY(nc:List Str)(σ:St)(cap:List (Str×Nat)):St:=cY nc.length none++CC σ cap
theorem An{α:Type}:∀{l:List (Str×α)} {x:Str} {v:α},l.lookup x=some v→(x,v)∈l
 | [],_,_,h=>by simp at h
 | (n,k)::r,x,v,h=>by
  rw[eD] at h
  cases hx:x==n with
  |true=>rw[hx] at h;cases h;rw[beq_iff_eq.mp hx];exact dw
  |false=>rw[hx] at h;exact cX _ (An h)
theorem Lb:∀(names:List (Str×NameKind)) (L:Nat) (a acc:List (Str×Addr)),fV L names (a++acc)=fV L names a++acc
 | [],_,_,_=>rfl
 | (n,k)::r,L,a,acc=>by
  unfold fV
  split
  ·exact Lb r (L+1) ((n,L)::a) acc
  ·exact Lb r L a acc
theorem Vl(names:List (Str×NameKind))(L:Nat)(acc:List (Str×Addr)):fV L names acc=fV L names []++acc:=Lb names L [] acc
theorem Lc:∀(names:List (Str×NameKind)) (L:Nat) (acc:List (Str×Addr)) (x:Str) (c:Addr),(x,c)∈fV L names acc→(x,.cell)∈names∨(x,c)∈acc
 | [],_,_,_,_,h=> .inr h
 | (n,k)::r,L,acc,x,c,h=>by
  unfold fV at h
  split at h
  ·rename_i hk
   rcases Lc r (L+1) _ x c h with h|h
   ·exact .inl (cX _ h)
   ·rcases da.mp h with h|h
    ·cases h
     rw[eq_of_beq hk]
     exact .inl dw
    ·exact .inr h
  ·rcases Lc r L _ x c h with h|h
   ·exact .inl (cX _ h)
   ·exact .inr h
theorem Ij:∀(names:List (Str×NameKind)) (L:Nat) (acc:List (Str×Addr)) (x:Str),((x,.cell)∈names∨(acc.lookup x).isSome=true)→((fV L names acc).lookup x).isSome=true
 | [],_,_,_,h=>h.elim (fun z=>by cases z) id
 | (n,k)::r,L,acc,x,h=>by
  unfold fV
  split
  ·refine Ij r (L+1) _ x ?_
   rcases h with h|h
   ·rcases da.mp h with h|h
    ·cases h
     exact .inr (by rw[eD,beq_self_eq_true];rfl)
    ·exact .inl h
   ·refine .inr ?_
    rw[eD]
    cases x==n with
    |true=>rfl
    |false=>exact h
  ·rename_i hk
   refine Ij r L acc x ?_
   rcases h with h|h
   ·rcases da.mp h with h|h
    ·cases h;exact absurd rfl hk
    ·exact .inl h
   ·exact .inr h
theorem Do{α:Type}:∀{l m:List (Str×α)} {x:Str},(l++m).lookup x=match l.lookup x with|some v=>some v|none=>m.lookup x
 | [],_,_=>rfl
 | (n,k)::r,m,x=>by
  rw[kg,eD,eD]
  cases x==n with
  |true=>rfl
  |false=>exact Do
structure LcCells(X:Cx)(csc:Scope)(cs:List (Str×Addr))(s:Shared)(h1:Heap):Prop where
 at_:∀x c,cs.lookup x=some c→(csc.names.lookup x=some .cell∧s.heap.objs.size≤c∧h1.IsCell c none)∨(csc.names.lookup x≠some .cell∧X.env.cells.lookup x=some c)
 has:∀x,csc.names.lookup x=some .free∨csc.names.lookup x=some .cell→∃c,cs.lookup x=some c
 inj:∀x y c,cs.lookup x=some c→cs.lookup y=some c→x=y
theorem SR{X:Cx}{csc:Scope}{cl:List (Str×Addr)}{nc:List Str}{cap:List (Str×Nat)}{pins:List (Addr×Obj)}{σ:St}{H:Hp}{s:Shared}{o:Obj}
  (ok:LcOk X csc nc cap) (I:Inv X pins σ H s) (hc1:∀x c,cl.lookup x=some c→X.env.cells.lookup x=some c) (hc2:∀y∈csc.names,y.2=.free→(cl.lookup y.1).isSome=true):
  LcCells X csc (fV (s.heap.objs.size+1) csc.names cl) s (mL (s.heap.push o) csc.names):=by
 have nk:=cellsFrom_ok csc.names (s.heap.push o) (s.heap.objs.size+1) [] ⟨fun _ _ hm=> (nomatch hm),hV⟩ (by rw[fH];exact cW _)
 rw[fH] at nk
 rw[Vl]
 have split:∀x c,(fV (s.heap.objs.size+1) csc.names []++cl).lookup x=some c→((x,c)∈fV (s.heap.objs.size+1) csc.names []∧csc.names.lookup x=some .cell)∨(csc.names.lookup x≠some .cell∧cl.lookup x=some c):=fun x c e=>by
  rw[Do] at e
  cases hx:(fV (s.heap.objs.size+1) csc.names []).lookup x with
  |some v=>
   rw[hx] at e
   cases e
   have m:=An hx
   refine .inl ⟨m,?_⟩
   rcases Lc _ _ _ _ _ m with z|z
   ·exact ok.cells _ z rfl
   ·cases z
  |none=>
   rw[hx] at e
   refine .inr ⟨fun z=>?_,e⟩
   have:=Ij csc.names (s.heap.objs.size+1) [] x (.inl (An z))
   rw[hx] at this
   cases this
 refine⟨fun x c e=>?_,fun x hx=>?_,fun x y c e1 e2=>?_⟩
 ·rcases split x c e with⟨m,k⟩| ⟨k,e⟩
  ·exact .inl ⟨k,lD (nk.empty x c m).2,(nk.empty x c m).1⟩
  ·exact .inr ⟨k,hc1 x c e⟩
 ·refine Option.isSome_iff_exists.mp ?_
  rw[Do]
  cases hn:(fV (s.heap.objs.size+1) csc.names []).lookup x with
  |some v=>rfl
  |none=>
   rcases hx with hx|hx
   ·exact hc2 _ (An hx) rfl
   ·have:=Ij csc.names (s.heap.objs.size+1) [] x (.inl (An hx))
    rw[hn] at this
    cases this
 ·have old:∀z,cl.lookup z=some c→c<s.heap.objs.size:=fun z e=>by
   obtain⟨v,hv⟩:=I.cell z c (hc1 z c e)
   exact hv.lt
  rcases split x c e1 with⟨m1,_⟩| ⟨_,g1⟩<;>rcases split y c e2 with⟨m2,_⟩| ⟨_,g2⟩
  ·exact name_of_addr nk.apart m1 m2
  ·exact absurd (dm (old y g2) (lD (nk.empty x c m1).2)) (fb _)
  ·exact absurd (dm (old x g1) (lD (nk.empty y c m2).2)) (fb _)
  ·exact I.ok.inj x y c (hc1 x c g1) (hc1 y c g2)
section
variable{M:Model}{A:de}{E:Value→Shared→Prop}{s:Shared}
theorem PQ{scope:Scope}{globals:Addr}{closure:List (Str×Addr)}{qual:Str}{env:Env}{Q:Env→Shared→Prop}
  (hQ:Q (newEnv scope s.heap.objs.size globals (fV (s.heap.objs.size+1) scope.names closure) qual none .none (some env) nh) {s with heap:=mL (s.heap.push {cls:=.type "dict",data:=.dict #[]}) scope.names}):
  wpAny M A (mw scope globals closure [] qual none .none (some env)) Q E s:=by
 simp only[mw,Option.isSome_some,if_true]
 refine a9 (nK ?_)
 refine a9 (wpAny_layCells _ (fun name kind cells=>by cases hkc:kind==jf<;>simp[hkc]) _ _ _ _ ?_)
 rw[show({s with heap:=s.heap.push {cls:=.type "dict",data:=.dict #[]}}:Shared).heap.objs.size=s.heap.objs.size+1 from fH ..]
 refine a9 ?_
 rw[List.forIn_nil]
 exact b9 (b9 hQ)
end
theorem Vm{X:Cx}{csc:Scope}{cl:List (Str×Addr)}{nc:List Str}{cap:List (Str×Nat)}{pins:List (Addr×Obj)}{σ:St}{H:Hp}{s:Shared}{h1:Heap}{fp:List Addr}
  (ok:LcOk X csc nc cap) (I:Inv X pins σ H s) (C:LcCells X csc cl s h1)
  (hf:∀b∈fp,HW X pins H b) (ho:∀b∈fp,∃o,s.heap.get? b=some o)
  (hn:h1.Ns s.heap.objs.size (fun _=>none)) (kept:∀b o,s.heap.get? b=some o→h1.get? b=some o):
  Inv (SQ X csc cl (Ak nc cap) s H fp) [] (HY nc σ cap) H {s with heap:=h1}:=by
 have frel:∀x,csc.names.lookup x=some .free→(nz csc cl s.heap.objs.size X.env).kindOf x=some .cell∨(nz csc cl s.heap.objs.size X.env).kindOf x=some .free:=fun x h=>EL h
 have back:∀{names:List (Str×NameKind)} {x:Str},((names.map fun(n,k)=>if(k==NameKind.free&&X.env.scope.kind==.function&&X.env.kindOf n==some .cell) then(n,jf) else(n,k)).lookup x=some .cell∨
   (names.map fun(n,k)=>if(k==NameKind.free&&X.env.scope.kind==.function&&X.env.kindOf n==some .cell) then(n,jf) else(n,k)).lookup x=some .free)→
   names.lookup x=some .free∨names.lookup x=some .cell:=by
  intro names
  induction names with
  |nil=>intro x h;simp at h
  |cons p r ih=>
   obtain⟨n,k⟩:=p
   intro x h
   rw[dv] at h
   cases hx:x==n with
   |true=>
    rw[eD,hx]
    have e:∀(kk:NameKind) (l:List (Str×NameKind)),((n,kk)::l).lookup x=some kk:=fun kk l=>by rw[eD,hx]
    by_cases hcnd:(k==NameKind.free&&X.env.scope.kind==.function&&X.env.kindOf n==some .cell)=true
    ·left
     have:(k==NameKind.free)=true:=by
      revert hcnd;cases(k==NameKind.free)<;>simp
     show some k=some .free
     rw[eq_of_beq this]
    ·simp only[if_neg hcnd] at h
     rw[e,] at h
     exact h.symm
   |false=>
    have e:∀(kk:NameKind) (l:List (Str×NameKind)),((n,kk)::l).lookup x=l.lookup x:=fun kk l=>by rw[eD,hx]
    by_cases hcnd:(k==NameKind.free&&X.env.scope.kind==.function&&X.env.kindOf n==some .cell)=true
    ·simp only[if_pos hcnd] at h
     rw[e] at h
     rw[e]
     exact ih h
    ·simp only[if_neg hcnd] at h
     rw[e] at h
     rw[e]
     exact ih h
 refine⟨⟨I.ok.mod,ok.kind,I.ok.glob,I.ok.blt,cW _,C.inj,fun x hx=>C.has x (back hx),fun x c e1 e2=>?_,I.ok.hd,I.ok.frames,.inl rfl,fun b hb=> ⟨?_,fun x c e=>?_⟩,
  I.bs,dZ I.ok.bsz I.sz,fun b o e hb=>?_,fun b hb z=>?_,I.stack,I.stkFree⟩,rfl,I.bare,⟨fun b o e _ _ _=>kept b o e,fun b o e _ _ _=> ⟨o.slots,kept b o e⟩,fun b o e n _=>n,fun b o e _=> ⟨o,kept b o e⟩,fun _ _ e=>e,fun _ _ _ e=>e,fun b ps e=> ⟨#[],by rw[show H b=some (HO.tbl ps) from e];simp⟩⟩,
  ⟨_,hn,fun i x v e1 e2 e3=>?_⟩,fun x c e=>?_,I.hok.fresh (cW _),fun x c e=> (C.at_ x c e).elim (fun z=>I.hok.fresh z.2.1) (fun z=>I.freeC x c z.2),fun p hp=>absurd (show p∈([]:List (Addr×Obj)) from hp) (by simp),I.hok.kept kept,?_⟩
 ·rcases C.at_ x c e2 with z|z
  ·exact z.2.1
  ·exact absurd (Jn e1) z.1
 ·obtain⟨o,e⟩:=ho b hb
  exact dF (dc e)
 ·rcases C.at_ x c e with z|z
  ·obtain⟨o,e⟩:=ho b hb
   exact jV (dm (dc e) z.2.1)
  ·exact(hf b hb).2.2.2.2.1 x c z.2
 ·have h1:=(hf b hb).2.2.2.1
  rcases h1 with z|z
  ·exact I.ok.noex b o e z
  ·exact absurd (dm (dc e) (dZ I.ok.bsz z)) (fb _)
 ·have h1:=(hf b hb).2.1
  have h2:=(hf b hb).2.2.1
  exact(da.mp (I.stkSub b z)).elim h1 h2
 ·--the names
  have hlen:nc.length≤i:=by
   by_cases hi:i<nc.length
   ·have e2':(cY nc.length (none:Option V)++CC σ cap)[i]?=some (some v):=e2
    rw[dM (by simpa using hi),fm] at e2'
    split at e2'<;>cases e2'
   ·omega
  have e1':(nc++cap.map (·.1))[i]?=some x:=e1
  have e2':(cY nc.length (none:Option V)++CC σ cap)[i]?=some (some v):=e2
  rw[dB hlen,cg] at e1'
  rw[dB (by simpa using hlen)] at e2'
  simp only[e9] at e2'
  unfold CC at e2'
  rw[cg] at e2'
  cases hp:cap[i-nc.length]? with
  |none=>rw[hp] at e1';cases e1'
  |some p=>
   rw[hp] at e1' e2'
   have e1'':p.1=x:=dQ.inj e1'
   have e2'':(σ[p.2]?).join=some v:=dQ.inj e2'
   subst e1''
   obtain⟨c1,c2⟩:=ok.caps p (cU hp)
   have hσ:σ[p.2]?=some (some v):=by
    cases q:σ[p.2]? with
    |none=>rw[q] at e2'';cases e2''
    |some w'=>rw[q] at e2'';exact congrArg some e2''
   have vis:X.env.scope.names.lookup p.1=some .cell∨X.env.scope.names.lookup p.1=some .free:=ok.free _ (An c2) rfl
   obtain⟨m,_,hl⟩:=I.loc
   obtain⟨u,r,l⟩:=hl p.2 p.1 v c1 hσ (vis.elim (fun z=> .inr (.inl z)) fun z=> .inr (.inr z))
   refine⟨u,r,.inr ⟨frel p.1 c2,?_⟩⟩
   rcases l with⟨k,_⟩| ⟨_,c,e,z⟩
   ·have k:X.env.scope.names.lookup p.1=some .local:=k
    rcases vis with q|q<;> (rw[q] at k;cases k)
   ·obtain⟨c',e''⟩:=C.has p.1 (.inl c2)
    have q:X.env.cells.lookup p.1=some c':=by
     rcases C.at_ _ _ e'' with z|z
     ·rw[c2] at z;cases z.1
     ·exact z.2
    rw[e] at q;cases q
    obtain⟨o,z1,z2⟩:=z
    exact⟨c,e'',o,kept c o z1,z2⟩
 ·rcases C.at_ x c e with z|z
  ·exact⟨none,z.2.2⟩
  ·obtain⟨v,o,z1,z2⟩:=I.cell x c z.2
   exact⟨v,o,kept c o z1,z2⟩
 ·show(cY nc.length (none:Option V)++CC σ cap).length=(nc++cap.map (·.1)).length
  unfold CC
  simp
section
variable{prog:Program}{w:World}{A:de}{R:ni→Shared→Prop}{s:Shared}
abbrev SS:Value→Shared→Prop:=fun _ _=>False
theorem DM{elt target iter:Expr}{ifs:List Expr}{scope:Scope}{pos:Pos}{it acc:Value}{env:Env}(I:Nat→Shared→Prop)
  (turn:∀n s,I n s→wpAny (model prog w) A (kT it) (fun r s₁=>match r with
   |none=>R (.ok .next) s₁
   |some v=>wpAny (model prog w) A (ko target it v) (fun _ s₂=>wpAny (model prog w) A (assign target env v) (fun _ s₃=>
     wpAny (model prog w) A (forIn ifs true fun c r=>if r=true then do let ok←isTrue c env (eval c env);pure (gI ok) else pure (gI r)) (fun ok s₄=>
      if ok=true then wpAny (model prog w) A (eval elt env) (fun x s₅=>
       wpAny (model prog w) A (call (.builtin "list.append") [acc,x]) (fun _ s₆=>∃m,m<n∧I m s₆) SS s₅) SS s₄
      else∃m,m<n∧I m s₄) SS s₃) SS s₂) SS s₁) SS s)
  (n:Nat) (h:I n s):
  iD (model prog w) A (.compLoop (.ListComp elt [⟨target,iter,ifs,0⟩] scope pos) 0 it acc env) R s:=by
 refine codeAny_loop rfl I (fun n s hI=>?_) n h
 show wpAny _ A ((compTurn (.ListComp elt [⟨target,iter,ifs,0⟩] scope pos) 0 it acc env).onRaise (fun x=>do nI x env;theTreesLotGoes x)) _ _ s
 refine wpAny_noted (wpAny_noRaise ?_)
 rw[compTurn_list]
 refine a9 (ja (a9 (Aq (turn n s hI) fun r s₁ h₁=>?_)))
 cases r with
 |none=>exact b9 h₁
 |some v=>
  refine a9 (Aq h₁ fun _ s₂ h₂=>a9 (Aq h₂ fun _ s₃ h₃=>a9 (Aq h₃ fun ok s₄ h₄=>?_)))
  cases ok with
  |true=>
   rw[if_pos rfl] at h₄ ⊢
   exact a9 (a9 (Aq h₄ fun x s₅ h₅=>a9 (Aq h₅ fun _ s₆ h₆=>b9 (b9 ⟨rfl,h₆⟩))))
  |false=>
   rw[if_neg cf] at h₄ ⊢
   exact a9 (b9 (b9 ⟨rfl,h₄⟩))
end
def Vn(X:Cx)(ifs:List Expr)(t:TT):Prop:=
 ∀(pins:List (Addr×Obj)) (s:Shared) (σ:St) (H:Hp) (Q:Bool→Hp→Prop),Inv X pins σ H s→t σ H Q→
  wpAny (model X.prog X.w) X.A (forIn ifs true fun c r=>if r=true then do let ok←isTrue c X.env (eval c X.env);pure (gI ok) else pure (gI r)) (TP X pins σ Q) X.xe s
def YH:TT:=fun _ H Q=>Q true H
theorem SU{X:Cx}:Vn X [] YH:=fun _ _ _ H _ I h=>wpAny_tests_nil ⟨H,I,h⟩
theorem SV{X:Cx}{c:Expr}{t:TT}(h:PT X c t):Vn X [c] t:=fun pins s σ H Q I q=>wpAny_tests_one (h pins s σ H Q I q)
def UM(nc:List Str)(cap:List (Str×Nat))(g:TG)(tt:TT)(te:TE)(σ:St)(J:It)(p:Addr)(H:Hp)(Q:Hp→Prop):Prop:=
 ∃W:Nat→Nat→Hp→Prop,(∃m,W 0 m (upd H p (.lst [])))∧∀i m H2,W i m H2→
  (J.stop i H2∧Q H2)∨(J.go i H2∧∃N:Hp→Prop,(∀H',N H'→∃m',m'<m∧W (i+1) m' H')∧∀x H3,J.yld i H2 x H3→g x (HY nc σ cap) H3 fun σ4 H4=> (∃pre:St,pre.length=nc.length∧σ4=pre++CC σ cap)∧tt σ4 H4 fun b H5=>
   if b=true then te σ4 H5 fun y H6=>∃ys,H6 p=some (.lst ys)∧ys.length<sizeLine∧N (upd H6 p (.lst (ys++[y])))
   else N H5)
def Zt(wi:TI)(nc:List Str)(cap:List (Str×Nat))(g:TG)(tt:TT)(te:TE):TE:=fun σ H Q=>wi σ H fun J H1=>∀p,H1 p=none→UM nc cap g tt te σ J p H1 (Q (.ref p))
section
variable{X:Cx}{elt tg iter:Expr}{ifs:List Expr}{csc:Scope}{nc:List Str}{cap:List (Str×Nat)}{wi:TI}{g:TG}{tt:TT}{te:TE}{pos:Pos}
theorem Jo{pins:List (Addr×Obj)}{σ:St}{s2:Shared}{H2:Hp}{it:Addr}{fp:List Addr}{tn:Nat→Heap→Prop}{J:It}{cl:List (Str×Addr)}{Q:Hp→Prop}{RR:Value→Addr→ni→Shared→Prop}{E:Value→Shared→Prop}
  (hc:X.calm=true) (ok:LcOk X csc nc cap) (hg:∀X',LcCx X csc (Ak nc cap) X'→PG X' tg g) (ht:∀X',LcCx X csc (Ak nc cap) X'→Vn X' ifs tt) (he:∀X',LcCx X csc (Ak nc cap) X'→PE X' elt te)
  (hc1:∀x c,cl.lookup x=some c→X.env.cells.lookup x=some c) (hc2:∀y∈csc.names,y.2=.free→(cl.lookup y.1).isSome=true)
  (I2:Inv X pins σ H2 s2) (T:Turn X.prog X.w X.K tg J fp it tn) (st2:tn 0 s2.heap) (f2:∀b∈fp,HW X pins H2 b) (run:UM nc cap g tt te σ J s2.heap.objs.size H2 Q)
  (out:∀(C:Addr) (H':Hp) (s':Shared),Inv X pins σ H' s'→(∃m,s'.heap.Ns C m)→H' C=none→C≠X.env.locals→X.s₀.heap.objs.size≤C→(∀x c,X.env.cells.lookup x=some c→c≠C)→(∀p∈X.pn++pins,p.1≠C)→Q H'→RR (.ref s2.heap.objs.size) C (.ok .next) s'):
  wpAny (model X.prog X.w) X.A (newList []) (fun acc s₃=>wpAny (model X.prog X.w) X.A (mw csc X.env.globals cl [] X.env.qual none .none (some X.env)) (fun cenv s₄=>
   iD (model X.prog X.w) X.A (.compStart (.ListComp elt [⟨tg,iter,ifs,0⟩] csc pos) 0 (.ref it) acc {cenv with scope:=relabel csc X.env}) (RR acc cenv.locals) s₄) E s₃) E s2:=by
 refine jj ?_
 have hp:H2 s2.heap.objs.size=none:=I2.hok.fresh (cW _)
 have I3:Inv X pins σ (upd H2 s2.heap.objs.size (.lst [])) {s2 with heap:=s2.heap.push {cls:=.type "list",dict:=none,data:=.seq ([]:List Value).toArray}}:=
  I2.laid (t':=s2.toks) (fun b u e=>cj _ e) (cW _) ⟨eS _,[],0,.nil,dy _ rfl⟩
 generalize hs3:({s2 with heap:=s2.heap.push {cls:=.type "list",dict:=none,data:=.seq ([]:List Value).toArray}}:Shared)=s3 at I3
 have hk3:∀b o,s2.heap.get? b=some o→s3.heap.get? b=some o:=fun b o e=>by rw[←hs3];exact cj _ e
 generalize hp0:s2.heap.objs.size=p at*
 have hlt:∀b∈fp,b<p:=fun b hb=>by
  obtain⟨o,e,_⟩:=T.obj 0 _ st2 b hb
  rw[←hp0];exact dc e
 have f3:∀b∈fp,HW X pins (upd H2 p (.lst [])) b:=fun b hb=> ⟨by rw[AH (dF (hlt b hb))];exact(f2 b hb).1,(f2 b hb).2⟩
 have st3:tn 0 s3.heap:=T.keep 0 _ _ st2 fun b _ o e=>hk3 b o e
 refine PQ ?_
 have LC:=SR (o:={cls:=.type "dict",data:=.dict #[]}) ok I3 hc1 hc2
 have hns:(mL (s3.heap.push {cls:=.type "dict",data:=.dict #[]}) csc.names).Ns s3.heap.objs.size (fun _=>none):=(Heap.Ns.new s3.heap (.type "dict")).keeps (pushCells_keeps _ _)
 have kept4:∀b o,s3.heap.get? b=some o→(mL (s3.heap.push {cls:=.type "dict",data:=.dict #[]}) csc.names).get? b=some o:=fun b o e=>pushCells_keeps _ _ b o (cj _ e)
 generalize hcs:fV (s3.heap.objs.size+1) csc.names cl=cs at LC ⊢
 generalize hh1:mL (s3.heap.push {cls:=.type "dict",data:=.dict #[]}) csc.names=h₁ at LC hns kept4 ⊢
 have hcc:∀x c,cs.lookup x=some c→X.env.cells.lookup x=some c∨s3.heap.objs.size≤c:=fun x c e=> (LC.at_ x c e).elim (fun z=> .inr z.2.1) (fun z=> .inl z.2)
 have I4:Inv (SQ X csc cs (Ak nc cap) s3 (upd H2 p (.lst [])) fp) [] (HY nc σ cap) (upd H2 p (.lst [])) {s3 with heap:=h₁}:=
  Vm ok I3 LC f3 (fun b hb=> (T.obj 0 _ st3 b hb).imp fun o q=>q.1) hns kept4
 have st4:tn 0 h₁:=T.keep 0 _ _ st3 fun b _ o e=>kept4 b o e
 generalize hX':SQ X csc cs (Ak nc cap) s3 (upd H2 p (.lst [])) fp=X' at I4
 have is':LcCx X csc (Ak nc cap) X':=⟨_,_,_,_,hX'.symm⟩
 have hP:X'.prog=X.prog:=by rw[←hX'];rfl
 have hw:X'.w=X.w:=by rw[←hX'];rfl
 have hK:X'.K=X.K:=by rw[←hX'];rfl
 have hA:X'.A=X.A:=by rw[←hX'];rfl
 have hcal:X'.calm=true:=by rw[←hX'];exact hc
 have hE:X'.env=nz csc cs s3.heap.objs.size X.env:=by rw[←hX'];rfl
 have hxe:X'.xe=SS:=by rw[←hX'];rfl
 have hfs:X'.fs=En X.stack:=by rw[←hX'];rfl
 have hex:X'.ex=fp:=by rw[←hX'];rfl
 have hs0:X'.s₀=s3:=by rw[←hX'];rfl
 have hH0:X'.H₀=upd H2 p (.lst []):=by rw[←hX'];rfl
 have hpn:X'.pn=[]:=by rw[←hX'];rfl
 have stat:∀{H':Hp},(∀b∈fp,H' b=none)→∀b∈fp,HW X' [] H' b:=fun{H'} hn b hb=>by
  obtain⟨_,q2,q3,q4,q5,q6⟩:=f3 b hb
  obtain⟨o,e,_⟩:=T.obj 0 _ st3 b hb
  refine⟨hn b hb,?_,?_,?_,?_,?_⟩
  ·rw[hE];exact dF (dc e)
  ·rw[hfs];exact fun z=> (da.mp (I3.stkSub b z)).elim q2 q3
  ·rw[hex];exact .inl hb
  ·rw[hE];exact fun x c e'=> (hcc x c e').elim (fun z=>q5 x c z) fun z=>jV (dm (dc e) z)
  ·rw[hpn];intro p hp;simp at hp
 obtain⟨W,⟨m0,w0⟩,turn⟩:=run
 have loop:∀s4:Shared,s4={s3 with heap:=h₁}→iD (model X.prog X.w) X.A (.compLoop (.ListComp elt [⟨tg,iter,ifs,0⟩] csc pos) 0 (.ref it) (.ref p) (nz csc cs s3.heap.objs.size X.env)) (RR (.ref p) s3.heap.objs.size) s4:=by
  rintro s4 rfl
  refine DM (fun n s'=>∃i H',Inv X' [] (HY nc σ cap) H' s'∧tn i s'.heap∧(∀b∈fp,H' b=none)∧W i n H') ?_ m0 ⟨0,_,I4,st4,fun b hb=> (f3 b hb).1,w0⟩
  rintro n s5 ⟨i,H5,I5,st5,fr5,w5⟩
  rcases turn i n H5 w5 with⟨stop,qn⟩| ⟨go,N,hN,step⟩
  ·have q:=T.done X' hP hw hK hcal i [] s5 (HY nc σ cap) H5 SS I5 (stat fr5) st5 stop
   rw[hA] at q
   refine Aq q fun r s6 ⟨hr,I6⟩=>?_
   subst hr
   have B:=I6.base
   rw[hfs,hex,hs0,hH0] at B
   have I7:Inv X pins σ H5 s6:=by
    refine I3.call' (ch:=fp) (by rw[I6.os,hs0]) B (by have:=I6.hok;rw[hP,hw] at this;exact this) I6.bare fun b hb=>?_
    obtain⟨_,q2,q3,q4,q5,q6⟩:=f3 b hb
    exact⟨q4,q2,q5,q6⟩
   obtain⟨m,hm,_⟩:=I6.loc
   have hCf:=I6.free
   rw[hE] at hm hCf
   refine out _ H5 s6 I7 ⟨m,hm⟩ hCf (jV I3.lt) I3.sz (fun x c e z=>?_) (fun p hp z=>?_) qn
   ·obtain⟨v,hv⟩:=I3.cell x c e
    exact absurd hv.lt (by rw[z];exact fb _)
   ·exact absurd (dc (I3.pin p hp).1) (by rw[z];exact fb _)
  ·have q:=T.item X' hP hw hK hcal i [] s5 (HY nc σ cap) H5 SS I5 (stat fr5) st5 go
   rw[hA] at q
   refine Aq q fun r s6 ⟨u,hr,h6⟩=>?_
   subst hr
   refine Aq h6 fun _ s7 ⟨x,H7,I7,r7,y7,st7,fr7⟩=>?_
   have I7':=I7.pinned (stat fr7) (T.obj _ _ st7)
   have q8:=hg X' is' _ s7 _ H7 x u _ I7' r7 (step x H7 y7)
   rw[hP,hw,hA,hE,hxe] at q8
   refine Aq q8 fun _ s8 ⟨σ8,H8,I8,⟨pre,hpl,hσ8⟩,q8⟩=>?_
   have q9:=ht X' is' _ s8 σ8 H8 _ I8 q8
   rw[hP,hw,hA,hE,hxe] at q9
   have wk:∀{s':Shared} {H':Hp} {pl:List (Addr×Obj)},Inv X' pl σ8 H' s'→Inv X' pl (HY nc σ cap) H' s':=fun{s' H' pl} J'=>by
    refine J'.weak (by rw[J'.len,I4.len]) fun j v e=>?_
    rw[hσ8]
    by_cases hj:j<nc.length
    ·have e:(cY nc.length (none:Option V)++CC σ cap)[j]?=some (some v):=e
     rw[dM (by simpa using hj),fm] at e
     split at e<;>cases e
    ·have e:(cY nc.length (none:Option V)++CC σ cap)[j]?=some (some v):=e
     rw[dB (by simpa using hj)] at e
     rw[dB (by omega),hpl]
     simpa using e
   have again:∀{s':Shared} {H':Hp} {m':Nat},Inv X' ([]++GL fp s7.heap) σ8 H' s'→m'<n→W (i+1) m' H'→
     ∃m,m<n∧∃i H',Inv X' [] (HY nc σ cap) H' s'∧tn i s'.heap∧(∀b∈fp,H' b=none)∧W i m H':=fun{s' H' m'} J' hm hW=>by
    refine⟨m',hm,i+1,H',wk J'.unpinned,T.keep _ _ _ st7 fun b hb o e=> (J'.pin (b,o) (eG _ (eG _ (Cm hb e)))).1,fun b hb=>?_,hW⟩
    obtain⟨o,e,d⟩:=T.obj _ _ st7 b hb
    exact(J'.pin (b,o) (eG _ (eG _ (Cm hb e)))).2.1
   refine Aq q9 fun b s9 ⟨H9,I9,q9⟩=>?_
   cases b with
   |false=>
    rw[if_neg cf] at q9 ⊢
    obtain⟨m',hm,hW⟩:=hN _ q9
    exact again I9 hm hW
   |true=>
    rw[if_pos rfl] at q9 ⊢
    have qe:=he X' is' _ s9 σ8 H9 _ I9 q9
    rw[hP,hw,hA,hE,hxe] at qe
    refine Aq qe fun u s10 ⟨y,H10,I10,ry,ys,hys,hlen,hNn⟩=>?_
    obtain⟨m',hm,hW⟩:=hN _ hNn
    have qa:=Hs (X:=X') _ s10 σ8 H10 (.ref p) [y] (.ref p) [u] (fun _ H'=>H'=upd H10 p (.lst (ys++[y]))) I10 rfl (.cons ry .nil) ⟨p,ys,y,rfl,rfl,hys,hlen,rfl⟩
    rw[hP,hw,hA,hxe] at qa
    refine Aq qa fun _ s11 ⟨_,H11,I11,_,e11⟩=>?_
    subst e11
    exact again I11 hm hW
 have st5:=loop _ rfl
 exact codeAny_compStart_list (loop _ rfl) (T.self X.A 0 _ _ _ st4 (loop _ rfl))
end
section
variable{X:Cx}{elt tg iter:Expr}{ifs:List Expr}{csc:Scope}{nc:List Str}{cap:List (Str×Nat)}{wi:TI}{g:TG}{tt:TT}{te:TE}{pos:Pos}
theorem LcOk.clos{pins:List (Addr×Obj)}{σ:St}{H:Hp}{s:Shared}(ok:LcOk X csc nc cap)(I:Inv X pins σ H s):
  ∃cl,closureFor csc X.env=pure cl∧(∀x c,cl.lookup x=some c→X.env.cells.lookup x=some c)∧∀y∈csc.names,y.2=.free→(cl.lookup y.1).isSome=true:=
 SO fun y hy hf=>I.ok.has y.1 (ok.free y hy hf)
theorem YI(hc:X.calm=true)(ok:LcOk X csc nc cap)(hi:PI X tg iter wi)(hg:∀X',LcCx X csc (Ak nc cap) X'→PG X' tg g)(ht:∀X',LcCx X csc (Ak nc cap) X'→Vn X' ifs tt)(he:∀X',LcCx X csc (Ak nc cap) X'→PE X' elt te)
  (hs:∀x,fP iter X.env x=pure x:=by intro _;rfl):PE X (.ListComp elt [⟨tg,iter,ifs,0⟩] csc pos) (Zt wi nc cap g tt te):=by
 intro pins s σ H Q I h
 obtain⟨cl,hcl,hc1,hc2⟩:=ok.clos I
 rw[eval_ListComp]
 refine wpAny_comprehension_free (use:=none) rfl hs hcl ok.kind ok.locals (Aq (hi pins s σ H _ I h) fun v s1 h1=>Aq h1 fun itv s2 h2=>?_)
 obtain⟨it,fp,tn,J,H2,e,I2,T,st2,f2,run⟩:=h2
 subst e
 refine Jo (RR:=fun acc C=>compPost (model X.prog X.w) X.A X.xe none (EP X pins σ Q) acc C) hc ok hg ht he hc1 hc2 I2 T st2 f2 (run _ (I2.hok.fresh (cW _))) ?_
 intro C H' s' I' hn h1 h2 h3 h4 h5 q
 obtain⟨m,hn⟩:=hn
 refine⟨m,hn,fun h' sb=> ⟨.ref s2.heap.objs.size,H',?_,rfl,q⟩⟩
 exact I'.turned (t':=s'.toks) (fun b o hb e=> (sb.2 b hb).trans e) h1 h2 (.inr h3) h4 h5
def Vo(i:Nat)(te:TE):TS:=fun D σ H=>te σ H fun v H1=>D.nx (σ.set i (some v)) H1
theorem Jp{i:Nat}{x:Str}{px spos:Pos}(hN:X.N.Nodup)(hx:X.N[i]?=some x)(hk:X.env.scope.names.lookup x=some .local)(hsw:ju (.ListComp elt [⟨tg,iter,ifs,0⟩] csc pos) (some (.Name x px)) spos.line X.env=pure true)
  (hc:X.calm=true) (ok:LcOk X csc nc cap) (hi:PI X tg iter wi) (hg:∀X',LcCx X csc (Ak nc cap) X'→PG X' tg g) (ht:∀X',LcCx X csc (Ak nc cap) X'→Vn X' ifs tt) (he:∀X',LcCx X csc (Ak nc cap) X'→PE X' elt te)
  (hs:∀x,fP iter X.env x=pure x:=by intro _;rfl):PS X (.Assign [.Name x px] (.ListComp elt [⟨tg,iter,ifs,0⟩] csc pos) spos) (Vo i (Zt wi nc cap g tt te)):=by
 intro pins s σ H D I h
 obtain⟨cl,hcl,hc1,hc2⟩:=ok.clos I
 rw[exec_Assign_Name_used _ _ _ _ hsw]
 refine a9 (ja (a9 ?_))
 show wpAny _ X.A (do let _←comprehension (.ListComp elt [⟨tg,iter,ifs,0⟩] csc pos) csc X.env _ (newList []) false (eval iter X.env) (some (assign (.Name x px) X.env))) _ _ s
 refine a9 (Aq (wpAny_comprehension_free (use:=some (assign (.Name x px) X.env)) (Q:=fun _ s'=>SP X pins D .next s') rfl hs hcl ok.kind ok.locals
  (Aq (hi pins s σ H _ I h) fun v s1 h1=>Aq h1 fun itv s2 h2=>?_)) fun _ s' hq=>b9 (b9 hq))
 obtain⟨it,fp,tn,J,H2,e,I2,T,st2,f2,run⟩:=h2
 subst e
 refine Jo (RR:=fun acc C=>compPost (model X.prog X.w) X.A X.xe (some (assign (.Name x px) X.env)) (fun _ s'=>SP X pins D .next s') acc C) hc ok hg ht he hc1 hc2 I2 T st2 f2 (run _ (I2.hok.fresh (cW _))) ?_
 intro C H' s' I' hn h1 h2 h3 h4 h5 q
 obtain⟨m,hn⟩:=hn
 show wpAny _ X.A (assign (.Name x px) X.env (.ref s2.heap.objs.size)) _ _ _
 refine wpAny_assign_Name (Hi I' hN hx (.inl hk) (v:=.ref s2.heap.objs.size) rfl (fun s'' I'' ha=>?_) (.inr hk))
 obtain⟨a,sb,ha⟩:=ha
 have hCa:C≠a:=by
  rcases ha with ha|ha
  ·rw[ha];exact h2
  ·exact fun z=>h4 x a ha z.symm
 refine⟨m,hn.sameBut sb hCa,fun h' sb'=> ⟨_,H',?_,q⟩⟩
 exact I''.turned (t':=s''.toks) (fun b o hb e=> (sb'.2 b hb).trans e) h1 h2 (.inr h3) h4 h5
end
section
variable{K:a8}{nc:List Str}{cap:List (Str×Nat)}{g:TG}{tt:TT}{te:TE}{σ:St}{p a:Addr}{H:Hp}{Q:Hp→Prop}
end
def DK(h h':Heap):Prop:=h.objs.size≤h'.objs.size∧∀e,e<h.objs.size→(h'.objs[e]?).map (·.dict)=(h.objs[e]?).map (·.dict)
theorem DK.refl(h:Heap):DK h h:=⟨cW _,fun _ _=>rfl⟩
theorem DK.trans{a b c:Heap}(x:DK a b)(y:DK b c):DK a c:=⟨dZ x.1 y.1,fun e he=> (y.2 e (dm he x.1)).trans (x.2 e he)⟩
theorem DK.push{h:Heap}{o:Obj}:DK h (h.push o):=by
 refine⟨by rw[fH];omega,fun e he=>?_⟩
 show((h.objs.push o)[e]?).map _=_
 rw[Array.getElem?_push,if_neg (by omega)]
theorem DK.upd{h:Heap}{a:Addr}{f:Obj→Obj}(hf:∀o,(f o).dict=o.dict):DK h (h.update a f):=by
 obtain⟨objs,l⟩:=h
 refine⟨by show objs.size≤(objs.modify a f).size;simp,fun e he=>?_⟩
 show((objs.modify a f)[e]?).map _=_
 rw[Array.getElem?_modify]
 split
 ·cases objs[e]? with
  |none=>rfl
  |some o=>exact congrArg some (hf o)
 ·rfl
theorem Ml{h:Heap}{e:Addr}{o:Obj}(q:h.get? e=some o):h.objs[e]?=some o:=by
 unfold Heap.get? at q
 split at q
 ·cases q
 ·exact q
theorem DK.at_{h h':Heap}{e:Addr}{o o':Obj}(x:DK h h')(q:h.get? e=some o)(q':h'.get? e=some o'):o'.dict=o.dict:=by
 have z:=x.2 e (dc q)
 rw[Ml q,Ml q'] at z
 exact dQ.inj z
inductive KD{α:Type}:Sem α→Prop
 |pure (a:α):KD (.pure a)
 |raise (e:Value):KD (.raise e)
 |unsup (x:String):KD (.unsupported x)
 |load {a:Addr} {p:Option Value} {k:Obj→Sem α}:(∀o,KD (k o))→KD (.load a p k)
 |upd {a:Addr} {p:Option Value} {f:Obj→Obj} {k:Unit→Sem α}:(∀o,(f o).dict=o.dict)→KD (k ())→KD (.update a p f k)
 |alloc {o:Obj} {k:Addr→Sem α}:(∀a,KD (k a))→KD (.alloc o k)
 |stack {k:List (Code×Pos)→Sem α}:(∀l,KD (k l))→KD (.stack k)
theorem KD.bind{α β:Type}{m:Sem α}{f:α→Sem β}(h:KD m)(hf:∀a,KD (f a)):KD (m>>=f):=by
 show KD (Sem.bind m f)
 induction h with
 |pure a=>exact hf a
 |raise e=>exact .raise e
 |unsup x=>exact .unsup x
 |load _ ih=>exact .load ih
 |upd q _ ih=>exact .upd q ih
 |alloc _ ih=>exact .alloc ih
 |stack _ ih=>exact .stack ih
theorem KD.wp{α:Type}{M:Model}{Γ:PySem.Ctx}{Q:α→Pos→Shared→Prop}{E:Value→Pos→Shared→Prop}{h0:Heap}{t:Sem α}(h:KD t):∀{p:Pos} {s:Shared},DK h0 s.heap→Sem.wp M Γ t Q E p s→Sem.wp M Γ t (fun a p' s'=>Q a p' s'∧DK h0 s'.heap) E p s:=by
 induction h with
 |pure a=>intro p s d q;exact⟨q,d⟩
 |raise e=>intro p s d q;exact q
 |unsup x=>intro p s d q;exact q
 |load _ ih=>intro p s d q;obtain⟨o,e,q⟩:=q;exact⟨o,e,ih o d q⟩
 |upd hf _ ih=>intro p s d q;exact⟨q.1,ih (d.trans (.upd hf)) q.2⟩
 |alloc _ ih=>intro p s d q;exact ih _ (d.trans .push) q
 |stack _ ih=>intro p s d q;exact ih _ d q
theorem KD.any{α:Type}{M:Model}{A:de}{Q:α→Shared→Prop}{E:Value→Shared→Prop}{s:Shared}{t:Sem α}(h:KD t)(q:wpAny M A t Q E s):wpAny M A t (fun a s'=>Q a s'∧DK s.heap s'.heap) E s:=
 fun Γ p g=>h.wp (.refl _) (q Γ p g)
theorem KD.ite{α:Type}{c:Prop} [Decidable c]{a b:Sem α}(ha:KD a)(hb:KD b):KD (if c then a else b):=by split<;>assumption
theorem Jq(v:Value):KD (fieldsOf v):=by
 unfold fieldsOf
 split
 ·refine KD.bind (.load fun o=> .pure o) fun o=>?_
  split
  ·exact .pure _
  ·exact .unsup _
 ·exact .unsup _
theorem EM(v:Value)(i:Nat):KD (field v i):=by
 unfold field
 refine(Jq v).bind fun vs=>?_
 split
 ·exact .pure _
 ·exact .unsup _
theorem GR(f:Array Value→Array Value)(o:Obj):(Obj.mapFields f o).dict=o.dict:=by
 unfold Obj.mapFields;split<;>rfl
theorem DN(v:Value)(i:Nat)(x:Value):KD (setField v i x):=by
 unfold setField
 split
 ·unfold updateField
  refine KD.bind (.load fun o=> .pure o) fun o=>?_
  split
  ·exact .ite (.upd (GR _) (.pure _)) (.unsup _)
  ·exact .unsup _
 ·exact .unsup _
theorem Co(e:Value)(f:Option Addr):KD (setFlight e f):=by
 unfold setFlight
 exact(EM e 1).bind fun tb=> .ite (DN _ _ _) (.pure _)
theorem Jr:∀(l:List Env),KD (readyFrames l)
 | []=> .pure _
 |env::outer=>by
  unfold readyFrames
  split
  ·refine KD.bind (.load fun o=> .pure o) fun o=>?_
   refine .ite (.pure _) ?_
   refine KD.bind ?_ fun im=>?_
   ·unfold behindIsImport
    exact .ite (.pure _) (.ite (.pure _) ((EM _ _).bind fun _=> .pure _))
   refine KD.bind ?_ fun bk=>?_
   ·unfold keptBack
    split
    ·refine .ite (.pure _) (KD.bind ?_ fun _=> .pure _)
     unfold underTheClaimsCaller
     exact KD.bind (.stack fun _=> .pure _) fun _=> .pure _
    ·exact .pure _
   exact KD.bind (.upd (fun _=>rfl) (.pure _)) fun _=>Jr outer
  ·exact .unsup _
theorem Ld(env:Env):KD (mV env):=by
 unfold mV
 refine KD.bind ?_ fun es=>?_
 ·unfold frameEnvs
  exact KD.bind (.stack fun _=> .pure _) fun _=> .pure _
 refine KD.bind ?_ fun r=>?_
 ·cases es.dropWhile (·.frame !=env.frame) with
  |nil=>exact .pure _
  |cons a b=>unfold frameObject;exact(Jr _).bind fun _=> .pure _
 split
 ·exact .pure _
 ·exact .unsup _
theorem PR(f:Addr)(b:Bool):KD (nv f b):=by
 unfold nv
 refine KD.bind (.stack fun _=> .pure _) fun _=>?_
 split<;>exact .pure _
theorem PU(h a l f i:Value)(pl:List Value):KD (kJ h a l f i pl):=by
 have z:∀d,KD (newObjAsIs (.type "traceback") d):=fun d=> .alloc fun a=> .pure _
 unfold kJ newFields newObj
 dsimp only
 exact .ite (KD.bind (.unsup _) fun _=>z _) (z _)
theorem Mm(e:Value)(env:Env):KD (nI e env):=by
 unfold nI
 split
 ·rename_i f hf
  refine(EM e 1).bind fun head=>?_
  have fin:KD (do setField e 1 (←kJ head (←mV env) .none (lT f) .none (←nv f (head !=.none)))):=
   (Ld env).bind fun a=> (PR _ _).bind fun pl=> (PU _ _ _ _ _ _).bind fun b=>DN _ _ _
  refine .ite ?_ fin
  exact(EM _ _).bind fun x=> .ite (.pure _) ((DN _ _ _).bind fun _=>fin)
 ·exact .unsup _
theorem GS(env:Env)(e:Value):KD (leaving env e):=(Mm e env).bind fun _=>Co e none
theorem ObjOk.obj{P:Program}{w:World}{H:Hp}{h:Heap}{a:Addr}{o:HO}(x:ObjOk P w H h a o):∃ob,h.get? a=some ob:=by
 cases o with
 |lst xs=>obtain⟨_,_,_,_,e⟩:=x;exact⟨_,e⟩
 |tup xs=>obtain⟨_,_,_,o,e,_⟩:=x;exact⟨_,e⟩
 |dK kvs=>obtain⟨_,_,_,_,o,_,_,e,_⟩:=x;exact⟨_,e⟩
 |dT kvs=>obtain⟨_,_,_,_,o,_,_,e,_⟩:=x;exact⟨_,e⟩
 |set S n=>obtain⟨o,_,_,_,e,_⟩:=x;exact⟨_,e⟩
 |ins C dx fs=>obtain⟨_,_,_,e,_⟩:=x;exact⟨_,e⟩
 |own y=>obtain⟨_,e⟩:=x;exact⟨_,e⟩
 |xd fs=>obtain⟨_,⟨_,_,_,e,_⟩,_⟩:=x;exact⟨_,e⟩
 |rng lo hi=>obtain⟨_,_,_,e⟩:=x;exact⟨_,e⟩
 |frz ob u=>obtain⟨e,_⟩:=x;exact⟨_,e⟩
 |tbl ps=>exact⟨_,(show h.get? a=some _ from x)⟩
 |met f y=>exact⟨_,(show h.get? a=some _ from x)⟩
 |ext φ=>obtain⟨_,⟨_,e⟩,_⟩:=x;exact⟨_,e⟩
theorem HOk.none_of{P:Program}{w:World}{H:Hp}{h:Heap}{a:Addr}(x:HOk P w H h)(e:h.get? a=none):H a=none:=by
 cases q:H a with
 |none=>rfl
 |some u=>
  obtain⟨ob,e'⟩:=(x a u q).obj
  rw[e] at e';cases e'
def UN(i:Int):Nat:=if 0≤i then 2*i.toNat else 2*(-i).toNat+1
def UO(n:Nat):Int:=if n%2=0 then((n/2:Nat):Int) else-((n/2:Nat):Int)
theorem Mn(i:Int):UO (UN i)=i:=by unfold UO UN;split<;>split<;>omega
def bb:List Nat→List (Str×V)
 |0::n::_=> [("number",.int (UO n))]
 |1::n::_=> [("row",.int (UO n))]
 |2::n::m::_=> [("many",.int (UO n)),("most",.int (UO m))]
 |_=> []
def UP(x:Str):List (Str×V):=bb x.cps.toList
def Hu:Value→Value
 | .str _ C=> .ref C
 |v=>v
def SW(dx:Addr)(fs:List (Str×V))(h:Heap):Prop:=∃mA,h.Ns1 dx mA∧(∀f,On (fs.lookup f) (mA f))∧lZ mA (fs.map (·.1))
def FW(dx:Addr)(fs:List (Str×V)):HO:=.ext (SW dx fs)
theorem PV{P:Program}{w:World}{H:Hp}{h:Heap}{dx:Addr}{fs:List (Str×V)}(q:SW dx fs h):ObjOk P w H h dx (FW dx fs):=by
 refine⟨q,?_,fun h1 h2 r k=>?_⟩
 ·obtain⟨_,⟨o,_,_,e,_⟩,_⟩:=q
  exact⟨o,e⟩
 ·obtain⟨mA,⟨o,es,ep,e,c⟩,z⟩:=r
  exact⟨mA,⟨o,es,ep,k o e,c⟩,z⟩
def DicX(cls:Value)(x:Addr)(H:Hp)(h:Heap):Prop:=∀fs C,cls=.str fs C→∃ox dx,h.get? x=some ox∧ox.dict=some dx∧H dx=some (FW dx (UP fs))
theorem DicX.ref{C x:Addr}{H:Hp}{h:Heap}:DicX (.ref C) x H h:=fun _ _ e=>nomatch e
theorem DicX.dk{cls:Value}{x:Addr}{H:Hp}{h h':Heap}(q:DicX cls x H h)(d:DK h h')(e:∃o',h'.get? x=some o'):DicX cls x H h':=fun fs C z=>by
 obtain⟨ox,dx,e1,e2,e3⟩:=q fs C z
 obtain⟨o',e'⟩:=e
 exact⟨o',dx,e',(d.at_ e1 e').trans e2,e3⟩
structure Fly(P:Program)(w:World)(outer:List Env)(H:Hp)(s:Shared)(H':Hp)(x:Addr)(cls:Value)(s':Shared):Prop where
 os:s'.os=s.os
 bare:kN s'.gens
 un:Un (En outer) [] H H' s.heap s'.heap
 hok:HOk P w H' s'.heap
 fr:H' x=none
 fly:∃B t,(∀b,H' b≠none→∃o,B.get? b=some o)∧(∀b o,s.heap.get? b=some o→b∉En outer→∃o',B.get? b=some o')∧iJ B outer x (Hu cls) (.ref t) s'.heap
 dic:DicX cls x H' s'.heap
def CXe(P:Program)(w:World):PF:=fun outer H s E e s'=>∃x cls H',e=.ref x∧Fly P w outer H s H' x cls s'∧E cls none H'
theorem CXe.never{P:Program}{w:World}{outer:List Env}{H:Hp}{s s':Shared}{e:Value}(h:CXe P w outer H s E0 e s'):False:=by
 obtain⟨_,_,_,_,_,q⟩:=h
 exact q
structure XFly(X:Cx)(W:St→XK):Prop where
 fly:∀(pins:List (Addr×Obj)) (σ:St) (H:Hp) (s:Shared) (e:Value) (s':Shared),Inv X pins σ H s→CXe X.prog X.w X.stack H s (W σ) e s'→X.xe e s'
structure XOk(X:Cx)(W:St→XK):Prop where
 made:∀(pins:List (Addr×Obj)) (σ:St) (H:Hp) (s:Shared) (h':Heap) (x C:Addr),Inv X pins σ H s→Heap.MadeExcOf s.heap h' x (.ref C) []→W σ (.ref C) none H→X.xe (.ref x) {s with heap:=h'}
 fly:∀(pins:List (Addr×Obj)) (σ:St) (H:Hp) (s:Shared) (e:Value) (s':Shared),Inv X pins σ H s→CXe X.prog X.w X.stack H s (W σ) e s'→X.xe e s'
 own:kP (model X.prog X.w) X.A X.env X.xe
 madeF:∀(pins:List (Addr×Obj)) (σ:St) (H:Hp) (s:Shared) (x C t dx:Addr) (fs:Str),Inv X pins σ H s→H x=none→X.s₀.heap.get? x=none→s.heap.get? x=some ⟨.ref C,some dx,.fields #[.ref t,.none,.none,.none,.bool false,.none],#[]⟩→H dx=some (FW dx (UP fs))→W σ (.str fs C) none H→X.xe (.ref x) s
theorem HOk.by_keep{P:Program}{w:World}{H:Hp}{h h':Heap}(x:HOk P w H h)(k:∀b o,H b≠none→h.get? b=some o→h'.get? b=some o):HOk P w H h':=fun a o e=>
 (x a o e).stay (fun b u hb q=>k b u (by
  rcases hb with rfl|hb
  ·rw[e];exact fun z=>nomatch z
  ·rw[hb];exact fun z=>nomatch z) q) (fun _ q=>q) fun _ _ q=>q
section
variable{P:Program}{w:World}{K:a8}{mg:Str→Option Value}{base:Heap}{N:List Str}{qual:Str}{scope:Scope}{f:Addr}{cd:Value}{A:de}{outer:List Env}{s:Shared}{H:Hp}{E:XK}
theorem Ik{X:Cx}{pins:List (Addr×Obj)}{σ:St}{H1:Hp}{s2:Shared}{h':Heap}{x:Addr}{cls:Value}{B:Heap}{t:Addr}(hst:X.stack=X.env::X.outer)(hex:X.ex=[])(hfr:X.env.frame=some X.env.locals)(I:Inv X pins σ H1 s2)
  (hB1:∀b,H1 b≠none→∃o,B.get? b=some o) (hB2:∀b o,X.s₀.heap.get? b=some o→b∉En X.outer→∃o',B.get? b=some o') (hx:H1 x=none) (hs2:B.StaysIn s2.heap) (fl:iJ B X.outer x (Hu cls) (.ref t) h') (up:s2.heap.UpToSlots h') (dq:DicX cls x H1 h'):
  Fly X.prog X.w X.outer X.H₀ X.s₀ H1 x cls {s2 with heap:=h'}:=by
 have fsm:∀b o,b∈X.fs→s2.heap.get? b=some o→∃sl,h'.get? b=some {o with slots:=sl}:=fun b o hb e=>by
  obtain⟨_,o',e',hd⟩:=I.funs.mem hb
  rw[e] at e';cases e'
  exact up b o e hd
 have same:∀b o o',B.get? b=some o'→s2.heap.get? b=some o→h'.get? b=some o:=fun b o o' e1 e2=>by
  have q:=hs2 b o' e1
  rw[e2] at q;cases q
  exact fl.1 b o e1
 refine⟨I.os,I.bare,⟨fun b o e n hb _=>?_,fun b o e n hb _=>?_,fun b o e n _=>?_,fun b o e _=>?_,I.base.tups,I.base.frzs,I.base.tbls⟩,I.hok.by_keep fun b o hb e=>?_,hx,⟨B,t,hB1,hB2,fl⟩,dq⟩
 ·obtain⟨o',e'⟩:=hB2 b o e hb
  exact same b o o' e' (I.base.keep b o e n hb (by rw[hex];simp))
 ·obtain⟨sl,e1⟩:=I.base.slot b o e n hb (by rw[hex];simp)
  obtain⟨sl',e2⟩:=fsm b _ hb e1
  exact⟨sl',e2⟩
 ·exact I.base.free b o e n (by rw[hex];simp)
 ·obtain⟨o1,e1⟩:=I.base.there b o e (by rw[hex];simp)
  by_cases hb:b∈X.fs
  ·obtain⟨sl,e2⟩:=fsm b o1 hb e1
   exact⟨_,e2⟩
  ·obtain⟨o',e'⟩:=hB2 b o e hb
   exact⟨o',fl.1 b o' e'⟩
 ·obtain⟨o',e'⟩:=hB1 b hb
  exact same b o o' e' e
theorem Ae:XOk (Bq (CXe P w) P w K mg base N qual scope f cd A outer s H E) (fun _=>E) where
 made:=by
  intro pins σ H1 s1 h' x C I hx q
  have hin:∀env∈(Bq (CXe P w) P w K mg base N qual scope f cd A outer s H E).stack,∀b,env.frame=some b→b∈En (Bq (CXe P w) P w K mg base N qual scope f cd A outer s H E).stack:=fun env he b hb=>gN.mpr ⟨env,he,hb⟩
  have hxn:H1 x=none:=I.hok.none_of hx.new
  have I':Inv (Bq (CXe P w) P w K mg base N qual scope f cd A outer s H E) pins σ H1 {s1 with heap:=h'}:=I.kept (t':=s1.toks) hx.keeps
  refine wpAny_leaves_madeW (base:=jE s1.heap (En (Bq (CXe P w) P w K mg base N qual scope f cd A outer s H E).stack)) (h:=s1.heap) I.ok.frames rfl (fun b o q=>jH _ q) (PySem.W.funFrames_hide I.stack hin) hx fun h2 t x1 x2 x3 x4=>?_
  refine⟨x,.ref C,H1,rfl,?_,q⟩
  refine Ik (X:=Bq (CXe P w) P w K mg base N qual scope f cd A outer s H E) rfl rfl rfl I' (fun b hb=>?_) (fun b o e hb=>?_) hxn (fun b o e=>hx.keeps b o (jH _ e)) x1 x4 .ref
  ·cases e:H1 b with
   |none=>exact absurd e hb
   |some u=>
    obtain⟨o,eo⟩:=(I.hok b u e).obj
    exact⟨o,iP _ eo fun z=>hb (I.stkFree b z)⟩
  ·obtain⟨o1,e1⟩:=I.base.there b o e (fun z=>nomatch z)
   refine⟨o1,iP _ e1 fun z=>?_⟩
   rcases da.mp (I.stkSub b z) with z|z
   ·exact absurd z (dF (dm (dc e) I.ok.above))
   ·exact hb z
 fly:=by
  rintro pins σ H1 s1 e s2 I ⟨x,cls,H2,rfl,F,q⟩
  obtain⟨B,t,b1,b2,fl⟩:=F.fly
  have I2:Inv (Bq (CXe P w) P w K mg base N qual scope f cd A outer s H E) pins σ H2 s2:=I.call' (ch:=[]) F.os F.un F.hok F.bare (fun b z=>absurd z (by simp))
  refine gD (KD.any (GS _ _) (wpAny_leaves_onW (E:=fun _ _=>False) (Q:=fun _ s3=>iJ B outer x (Hu cls) (.ref t) s3.heap∧s2.heap.UpToSlots s3.heap∧s3={s2 with heap:=s3.heap}) I.ok.frames rfl fl fun h' x1 x2=> ⟨x1,x2,rfl⟩)) ?_ fun _ _ z=>fh z
  rintro _ s3 ⟨⟨x1,x2,e3⟩,dk⟩
  refine⟨x,cls,H2,rfl,?_,q⟩
  rw[e3]
  refine Ik (X:=Bq (CXe P w) P w K mg base N qual scope f cd A outer s H E) rfl rfl rfl I2 b1 (fun b o e hb=>?_) F.fr fl.1 x1 x2 (F.dic.dk dk (let⟨o,e,_⟩:=x1.there;⟨o,e⟩))
  obtain⟨o1,e1⟩:=I.base.there b o e (fun z=>nomatch z)
  refine b2 b o1 e1 fun z=>?_
  rcases da.mp (I.stkSub b z) with z|z
  ·exact absurd z (dF (dm (dc e) I.ok.above))
  ·exact hb z
 own:=kP.leaving
 madeF:=by
  intro pins σ H1 s1 x C t dx fs I hxn hs0 ex hdx q
  have hin:∀env∈(Bq (CXe P w) P w K mg base N qual scope f cd A outer s H E).stack,∀b,env.frame=some b→b∈x::En (Bq (CXe P w) P w K mg base N qual scope f cd A outer s H E).stack:=fun env he b hb=>cX _ (gN.mpr ⟨env,he,hb⟩)
  have hkb:Heap.StaysIn (jE s1.heap (x::En (Bq (CXe P w) P w K mg base N qual scope f cd A outer s H E).stack)) s1.heap:=fun b o q=>jH _ q
  have hen:(jE s1.heap (x::En (Bq (CXe P w) P w K mg base N qual scope f cd A outer s H E).stack)).get? x=none:=by
   exact PySem.W.hideAll_none _ (dw ..)
  refine gD (KD.any (GS _ _) (wpAny_leaving_firstW (E:=fun _ _=>False) (Q:=fun _ s3=>Heap.LeftW (jE s1.heap (x::En (Bq (CXe P w) P w K mg base N qual scope f cd A outer s H E).stack)) _ x (.ref C) (.ref t) s1.heap s3.heap∧s3={s1 with heap:=s3.heap}) I.ok.frames (PySem.W.funFrames_hide I.stack hin) rfl ex hkb hen rfl rfl rfl fun h' hL=> ⟨hL,rfl⟩)) ?_ fun _ _ z=>fh z
  rintro _ s3 ⟨⟨⟨x1,⟨_,_,x2⟩,x3,x4⟩,e3⟩,dk⟩
  refine⟨x,.str fs C,H1,rfl,?_,q⟩
  rw[e3]
  have hth:∃o,s3.heap.get? x=some o:=by
   obtain⟨oe,_,_,_,_,he,_⟩:=x3
   exact⟨oe,he⟩
  refine Ik (X:=Bq (CXe P w) P w K mg base N qual scope f cd A outer s H E) rfl rfl rfl I (fun b hb=>?_) (fun b o e hb=>?_) hxn hkb ⟨x1,hen,x2,x3⟩ x4 ?_
  ·cases e:H1 b with
   |none=>exact absurd e hb
   |some u=>
    obtain⟨o,eo⟩:=(I.hok b u e).obj
    refine⟨o,iP _ eo fun z=>?_⟩
    rcases da.mp z with z|z
    ·rw[z] at e;rw[hxn] at e;cases e
    ·exact hb (I.stkFree b z)
  ·obtain⟨o1,e1⟩:=I.base.there b o e (fun z=>nomatch z)
   refine⟨o1,iP _ e1 fun z=>?_⟩
   rcases da.mp z with z|z
   ·rw[z] at e;rw[hs0] at e;cases e
   rcases da.mp (I.stkSub b z) with z|z
   ·exact absurd z (dF (dm (dc e) I.ok.above))
   ·exact hb z
  ·exact DicX.dk (h:=s1.heap) (fun fs' C' z=>by cases z;exact⟨_,dx,ex,rfl,hdx⟩) dk hth
end
section
variable{X:Cx}{W:St→XK}
def PX(sp:Sp)(W:St→XK)(t:TA):TE:=fun σ H Q=>t σ H fun vs H1=>sp vs H1 Q (W σ)
theorem XOk.f(x:XOk X W):XFly X W:=⟨x.fly⟩
theorem GT{k:Nat}{f:Addr}{fd:dA}{ps:List Str}{sp:Sp}{x:Str}{p pos:Pos}{e:Expr}{es:List Expr}{t:TA}(xo:XFly X W)(F:FnOk X.prog X.w X.K X.mg X.base (CXe X.prog X.w) k f fd ps sp)(hr:Room k X.A)(hg:Gl X x)(hm:X.mg x=some (.ref f))(hk:eM X.K (.ref f)=true)(hb:Binds X.K fd ps [])
  (ha:PA X (e::es) t) (hdb:(x==("__debug__" :Str))=false:=by decide) (he:cb (e::es) X.env=(false,eval e X.env)::cb es X.env:=by rfl) (hpl:(fY pos (cb es X.env)).any (·.1)=false:=by rfl):
  PE X (.Call (.Name x p) (e::es) [] pos) (PX sp W t):=by
 intro pins s σ H Q I h
 refine iw (EH I hg hm ?_ hdb)
 refine kZ (h₀:=X.base) I.ok.mod.kin hk (Aq (ha pos pins s σ H _ I h) fun us s1 ⟨vs,H1,I1,r,q⟩=> ⟨I1.kIn,?_⟩) he hpl
 have r2:Vals vs (us++[]):=by rw[eZ];exact r
 have hl:(us++[]).length=ps.length:=by rw[←r2.length];exact F.len _ _ _ _ q
 refine jl (iY (F.run X.A X.stack s1 H1 ⟨us,[]⟩ (us++[]) vs Q (W σ) hr I1.env0 (hb s1 us I1.kIn hl) r2 q) fun r s' hq=>?_)
 cases r with
 |error e=>exact xo.fly pins σ H1 s1 e s' I1 hq
 |ok fl=>
  cases fl with
  |ret u=>exact I1.after hq
  |next=>exact fh hq
  |brk=>exact fh hq
  |cont=>exact fh hq
end
open PySem.Calls
section
variable{prog:Program}{w:World}{A:de}{E:Value→Shared→Prop}{s:Shared}{K:a8}{x D:Addr}{ox:Obj}{od:Option Obj}{name:Str}
structure ExcCls(K:a8)(D:Addr):Prop where
 ga:dJ K (.ref D) "__getattribute__" =some (some (.builtin "BaseException.__getattribute__"))
 gn:dJ K (.ref D) "__getattr__" =some none
 be:fU K D (.type "BaseException")=some true
 ob:fU K D (.type "object")=some true
 cl:dJ K (.ref D) "__class__" =some (some (.builtin "object.__class__"))
 gt:lB K (.builtin "object.__class__") "__get__" =some (some (.builtin "getset_descriptor.__get__"))
 tk:l9 K (.builtin "object.__class__")=some true
def TyAt(D x:Addr)(h:Heap):Prop:=∃ox,h.get? x=some ox∧ox.cls=.ref D
theorem TyAt.looks{M:Model}{h:Heap}(p:TyAt D x h):gC M h (nQ (.ref x)) (.ref D):=by
 obtain⟨o,h1,h2⟩:=p
 exact h2▸(gC.ld h1).andThen .now
open PySem.W Builtin Builtin.ObjectAttr Builtin.Getset_descriptor in
theorem Le {R:ni→Shared→Prop} {tp:Value} (X:K.In s.heap) (I:TyAt D x s.heap) (hm:fU K D (.type "object")=some true) (h:R (.ok (.ret (.ref D))) s):
  iD (model prog w) A (.call (.builtin "getset_descriptor.__get__") ⟨[.builtin "object.__class__",.ref x,tp],[]⟩) R s:=by
 obtain⟨hh,gg,dd,tt,oo⟩:=s
 have L0:=I.looks (M:=model prog w)
 have L1:=iO (M:=model prog w) X hm
 refine gS
  KF.slot_gs.plain KF.entry_gs (KF.slot_gs.check _ _ _ _ _ _ _ _
   KF.type_class (KF.args_gs _ _ _) ?_)
 unfold Builtin.«getset_descriptor.__get__»
  descrGet
 rw[dga_obj]
 refine a9 (b9 ?_)
 unfold descrGetter descrCheckInstance
  descrNameAndClass j8
 simp only[KF.owner_class]
 repeat lk
 refine⟨jK _
  (by decide+kernel),ic KF.entry_class ?_⟩
 unfold Builtin.«object.__class__» shownTypeOf
 repeat lk
 exact h
theorem ExcCls.find{M:Model}{h:Heap}(c:ExcCls K D)(X:K.In h):gC M h (Builtin.ObjectAttr.find (.ref x) (.ref D) "__class__") (.bind (.builtin "getset_descriptor.__get__") (.builtin "object.__class__")):=by
 have L1:=gT (M:=M) X c.cl
 have L2:gC M h (Builtin.ObjectAttr.getOf (some (.builtin "object.__class__"))) (some (.builtin "getset_descriptor.__get__")):=PySem.W.looks_specialIn X c.gt
 have L3:=PySem.W.looks_takesIn (M:=M) X c.tk
 refine L1.andThen (L2.andThen ?_)
 exact(show gC M h (Builtin.ObjectAttr.dataDescriptor? (some (.builtin "object.__class__")) (some (.builtin "getset_descriptor.__get__"))) (some (.builtin "getset_descriptor.__get__",.builtin "object.__class__"))
  from L3.andThen .now).andThen (gC.tag .now)
theorem Nz{Q:Option Value→Shared→Prop}(c:ExcCls K D)(X:K.In s.heap)(I:TyAt D x s.heap)(h:Q (some (.ref D)) {s with toks:=s.toks+1}):wpAny (model prog w) A (getAttr? (.ref x) "__class__") Q E s:=by
 obtain⟨hh,g,d,t,os⟩:=s
 have L0:=I.looks (M:=model prog w)
 have L1:=gT (M:=model prog w) X c.ga
 have L2:=gT (M:=model prog w) X c.gn
 have L3:=iO (M:=model prog w) X c.be
 have L4:=c.find (x:=x) (M:=model prog w) X
 have hb:bindSpecial (.builtin "BaseException.__getattribute__") (.ref x)=pure (.builtin "BaseException.__getattribute__",[.ref x]):=iy.ga.bind _
 have hk:builtinKind "BaseException.__getattribute__" =some .slot:=by decide+kernel
 have hsplit:splitId "BaseException.__getattribute__" =some ("BaseException","__getattribute__"):=by decide+kernel
 have hx2:(lK "BaseException.__getattribute__" ==lK "object.__getattribute__")=false:=by decide+kernel
 unfold getAttr? getAttrBy? getAttrBy
 refine a9 (wpAny_mkText (a9 (jb (eC (a9 (L0.at (a9 (L1.at ?_))))))))
 dsimp only
 rw[hx2,jZ,if_neg cf]
 unfold getAttrByItsOwn hookBefore
 refine a9 (L2.at ?_)
 refine a9 (jb (eC ?_))
 unfold callGetattribute boundAndCalled
 rw[hb]
 show wpAny _ _ (call (.builtin "BaseException.__getattribute__") [.ref x,.str "__class__" t]) _ _ _
 refine jl (gS iy.ga.plain PySem.F.entry_bexc_ga ?_)
 have ha:=PySem.F.args_bexc_ga (.ref x) (.str "__class__" t)
 simp only[jv,hk,hsplit]
 refine a9 ?_
 unfold j8
 refine a9 (L0.at (L3.at ?_))
 rw[if_neg (by decide)]
 refine kj ha ?_
 show wpAny _ _ (nQ (.ref x)>>=fun tp=>Builtin.ObjectAttr.find (.ref x) tp "__class__" >>=_) _ _ _
 refine a9 (L0.at (a9 (L4.at ?_)))
 show wpAny _ _ ((holding [.builtin "object.__class__"] (call (.builtin "getset_descriptor.__get__") [.builtin "object.__class__",.ref x,.ref D]))>>=ret) _ _ _
 refine a9 (eC (jl (Le (s:=⟨hh,g,d,t+1,os⟩) X I c.ob ?_)))
 exact b9 (b9 (b9 h))
theorem ExcCls.isTy{M:Model}{h:Heap}(c:ExcCls K D)(X:K.In h):gC M h (isType (.ref D)) true:=by
 obtain⟨cd,hc,_⟩:=Option.bind_eq_some_iff.mp (show(je K D).bind _=some true from c.be)
 unfold je at hc
 split at hc
 ·rename_i c' d' cd' sl' ho
  intro A' Q' E' s' k q
  unfold isType loadHead
  exact a9 (mj (k _ _ (X _ _ ho)) (b9 q))
 ·cases hc
theorem PY(c:ExcCls K D):PySem.W.KitX K (.ref x) (.ref D) (TyAt D x) where
 ty:=fun _ _ _ I=>I.looks
 it:=fun _ _ X _=>c.isTy X
 ne:=fun h tp dd its n sl X htp=>by
  refine Bool.eq_false_iff.mpr fun q=>?_
  have e:D=tp:=Value.ref.inj (beq_iff_eq.mp q)
  subst e
  obtain⟨cd,hc,_⟩:=Option.bind_eq_some_iff.mp (show(je K D).bind _=some true from c.be)
  unfold je at hc
  split at hc
  ·rename_i c' d' cd' sl' ho
   have z:=(X _ _ ho).symm.trans htp
   cases z
  ·cases hc
 ca:=fun X I k=>Nz c X I k
end
def Dp(D x:Addr):HO:=.ext (TyAt D x)
theorem Mo{P:Program}{w:World}{H:Hp}{h:Heap}{D x:Addr}(p:TyAt D x h):ObjOk P w H h x (Dp D x):=by
 refine⟨p,?_,fun h1 h2 q k=>?_⟩
 ·obtain⟨o,e,_⟩:=p
  exact⟨o,e⟩
 ·obtain⟨o,e,c⟩:=q
  exact⟨o,k o e,c⟩
theorem Lf{X:Cx}{pins:List (Addr×Obj)}{σ:St}{H:Hp}{s:Shared}{A:de}{E:Value→Shared→Prop}{Q:Value→Shared→Prop}{c:Value}{b:Bool}{D x:Addr}(I:Inv X pins σ H s)(hx:Rd H x (Dp D x))(k:ExcCls X.K D)
  (e:du X.K (.ref D) c=some b) (h:∀tk,Q (.bool b) {s with toks:=tk}):wpAny (model X.prog X.w) A (call (.builtin "isinstance") [.ref x,c]) Q E s:=by
 obtain⟨p,_,_⟩:=(show ObjOk X.prog X.w H s.heap x (Dp D x) from hx.ok I.hok)
 exact fF (PY k) I.kIn p e (fun z=>nomatch z) h
abbrev Fl:List Value:=[.type "ValueError",.type "Exception",.type "BaseException",.type "object"]
theorem SX{K:a8}{h:Heap}{C:Addr}{bmB:List Value}{newId:String}(X:K.In h)(q:lL K C bmB newId=true):
  ∃bm N nm qn bs hdct sn sub ab col dd k0 k1 k2 k3 k5 mN,h.get? C=some (mz nm qn C N bs bm hdct sn sub ab col dd k0 k1 k2 k3 k5 newId)∧h.Ns N mN∧mN "__init__" =none∧OwnTail h bmB bm:=by
 unfold lL at q
 split at q
 ·rename_i dd cd sl ho
  split at q
  ·rename_i C' bm k0 k1 k2 k3 n k5 hm hs
   simp only[eX,beq_iff_eq,
    fQ] at q
   obtain⟨⟨⟨⟨⟨e1,e2⟩,hdel⟩,ht⟩,hok⟩,hni⟩:=q
   subst e1 e2
   obtain⟨nm,bs,mro,ns,qn,hd,sn,sub,ab,col,del⟩:=cd
   dsimp only at hm hdel hok hni
   subst hm hdel
   have hsl:sl= #[k0,k1,k2,k3,some (.builtin n),k5]:=by
    obtain⟨l⟩:=sl
    simp only at hs
    rw[hs]
   subst hsl
   exact⟨bm,ns,nm,qn,bs,hd,sn,sub,ab,col,dd,k0,k1,k2,k3,k5,_,X _ _ ho,
    .of_isNs (PySem.W.isNs_of_in X hok),PySem.W.nsMap_none_of_in X hok hni,PySem.W.tail_of_in X ht⟩
  ·cases q
 ·cases q
theorem Js{M:Model}{A:de}{E:Value→Shared→Prop}{s:Shared}{K:a8}{C B x:Addr}{b:Bool}{Q:Bool→Shared→Prop}(X:K.In s.heap)(p:TyAt C x s.heap)(k:fE K (.ref C) (.ref B)=some b)
  (hb:fU K B (.type "BaseException")=some true) (h:Q b s):wpAny M A (excMatches (.ref x) (.ref B)) Q E s:=by
 obtain⟨L1,L2,L3⟩:=PySem.W.kit_cls (M:=M) X k
 have L4:=iO (M:=M) X hb
 have L0:=p.looks (M:=M)
 have f:=tc_notTuple
 obtain⟨hh,g,d,t,os⟩:=s
 unfold excMatches j8 isExcClass
 refine a9 (a9 (L1.at ?_))
 rw[f]
 refine b9 ?_
 rw[if_neg cf]
 refine a9 (b9 ?_)
 simp only[mh,List.forIn_nil]
 refine a9 (a9 (a9 (a9 (L2.at ?_))))
 rw[if_pos rfl]
 refine L4.at ?_
 rw[if_neg (by decide)]
 refine b9 (b9 (a9 (L0.at (a9 (a9 (a9 (L3.at ?_)))))))
 cases b with
 |true=>
  rw[if_pos rfl]
  exact b9 (b9 (b9 h))
 |false=>
  rw[if_neg cf]
  exact b9 (b9 (b9 h))
section
variable{X:Cx}{pins:List (Addr×Obj)}{σ:St}{H:Hp}{s:Shared}
theorem Inv.track{x:Addr}{o:HO}{vs:Array Value}(I:Inv X pins σ H s)(hx:H x=none)(hf:∃ob,s.heap.get? x=some ob∧ob.data=.fields vs)(hs0:X.s₀.heap.get? x=none)(hp:∀p∈X.pn++pins,p.1≠x)
  (ok:ObjOk X.prog X.w (upd H x o) s.heap x o):Inv X pins σ (upd H x o) s:=by
 obtain⟨ob,eob,dob⟩:=hf
 have ne:∀b u,H b=some u→b≠x:=fun b u e z=>by rw[z,hx] at e;cases e
 have hL:X.env.locals≠x:=fun z=>by
  obtain⟨m,⟨o',es,ep,ho',hd',_⟩,_⟩:=I.loc
  rw[z,eob] at ho';cases ho';rw[dob] at hd';cases hd'
 have hC:∀y c,X.env.cells.lookup y=some c→c≠x:=fun y c e z=>by
  obtain⟨v,o',ho',hd'⟩:=I.cell y c e
  rw[z,eob] at ho';cases ho';rw[dob] at hd';cases hd'
 refine⟨I.ok,I.os,I.bare,⟨I.base.keep,I.base.slot,fun b o e n hb=>?_,I.base.there,fun b xs e=>?_,fun b o u e=>?_,fun b ps e=>?_⟩,I.loc,I.cell,?_,fun y c e=>?_,fun p hp'=>?_,fun b u e=>?_,I.len⟩
 ·have nb:b≠x:=fun z=>by rw[z,hs0] at e;cases e
  rw[AH nb]
  exact I.base.free b o e n hb
 ·have q:=I.base.tups b xs e
  rw[AH (ne b _ q)]
  exact q
 ·have q:=I.base.frzs b o u e
  rw[AH (ne b _ q)]
  exact q
 ·obtain⟨more,q⟩:=I.base.tbls b ps e
  exact⟨more,by rw[AH (ne b _ q)];exact q⟩
 ·rw[AH hL];exact I.free
 ·rw[AH (hC y c e)];exact I.freeC y c e
 ·obtain⟨e,n,r⟩:=I.pin p hp'
  exact⟨e,by rw[AH (hp p hp')];exact n,r⟩
 ·by_cases hb:b=x
  ·subst hb
   rw[AI] at e;cases e
   exact ok
  ·rw[AH hb] at e
   exact(I.hok b u e).stay (fun _ _ _ q=>q) (fun c q=>by rw[AH (ne c _ q)];exact q) fun c xs q=>by rw[AH (ne c _ q)];exact q
theorem Inv.gone{i:Nat}{n:Str}{pos:Pos}{M:Model}{A:de}{E:Value→Shared→Prop}{Q:Unit→Shared→Prop}(I:Inv X pins σ H s)(hN:X.N.Nodup)(hi:X.N[i]?=some n)(hk:X.env.scope.names.lookup n=some .local)
  (h:∀s',Inv X pins (σ.set i none) H s'→Q () s'):wpAny M A (do bindName X.env n .none;unbindBehindTheSuite X.env n pos) Q E s:=by
 obtain⟨m,hn,hl⟩:=id I.loc
 have hcls:(X.env.scope.kind==.class|| (X.env.scope.kind==.module&&X.env.locals !=X.env.globals))=false:=by rw[I.ok.kind];rfl
 have cne:=I.cne
 refine wpAny_nameGoes_keeps hk hn hcls fun h' v hn' hs=>?_
 obtain⟨oL,_,_,hoL,_⟩:=id hn
 have old:∀b o,X.s₀.heap.get? b=some o→b≠X.env.locals:=fun b o e=>dF (dm (dc e) I.ok.above)
 refine h _ ⟨I.ok,I.os,I.bare,⟨fun b o e n hb hx=>?_,fun b o e n hb hx=>?_,I.base.free,fun b o e hx=>?_,I.base.tups,I.base.frzs,I.base.tbls⟩,⟨_,hn',fun j y v' e1 e2 e3=>?_⟩,fun y c e=>?_,I.free,I.freeC,fun p hp=>?_,fun b u e=>?_,by simpa using I.len⟩
 ·exact(hs.2 b (old b o e)).trans (I.base.keep b o e n hb hx)
 ·obtain⟨sl,e1⟩:=I.base.slot b o e n hb hx
  exact⟨sl,(hs.2 b (old b o e)).trans e1⟩
 ·obtain⟨o',e1⟩:=I.base.there b o e hx
  exact⟨o',(hs.2 b (old b o e)).trans e1⟩
 ·by_cases hj:j=i
  ·subst hj
   have hiσ:j<σ.length:=by rw[I.len];exact(cw.mp hi).1
   rw[dr hiσ] at e2
   cases e2
  ·rw[dz (Ne.symm hj)] at e2
   obtain⟨u',r',q⟩:=hl j y v' e1 e2 e3
   refine⟨u',r',?_⟩
   rcases q with⟨k,e⟩| ⟨k,c,e,z⟩
   ·refine .inl ⟨k,?_⟩
    have:y≠n:=fun e=>hj (GK hN e1 (e▸hi))
    simp[this,e]
   ·exact .inr ⟨k,c,e,z.sameBut hs (cne y c e)⟩
 ·obtain⟨w',z⟩:=I.cell y c e
  exact⟨w',z.sameBut hs (cne y c e)⟩
 ·obtain⟨e,n,ne,nf,d⟩:=I.pin p hp
  exact⟨(hs.2 p.1 ne).trans e,n,ne,nf,d⟩
 ·refine(I.hok b u e).stay (fun c w' hc q=> (hs.2 c ?_).trans q) (fun _ q=>q) fun _ _ q=>q
  rintro rfl
  rcases hc with rfl|hc
  ·rw[I.free] at e;cases e
  ·rw[I.free] at hc;cases hc
end
theorem Fly.un'{P:Program}{w:World}{outer:List Env}{H H':Hp}{s s':Shared}{x t:Addr}{cls:Value}{B h':Heap}(F:Fly P w outer H s H' x cls s')(b1:∀b,H' b≠none→∃o,B.get? b=some o)(b2:∀b o,s.heap.get? b=some o→b∉En outer→∃o',B.get? b=some o')
  (fl:iJ B outer x (Hu cls) (.ref t) s'.heap) (st:B.StaysIn h') (up:s'.heap.UpToSlots h'):Un (En outer) [] H H' s.heap h'∧HOk P w H' h':=by
 have same:∀b o o',B.get? b=some o'→s'.heap.get? b=some o→h'.get? b=some o:=fun b o o' e1 e2=>by
  have q:=fl.1 b o' e1
  rw[e2] at q;cases q
  exact st b o e1
 have fsm:∀b o,b∈En outer→s'.heap.get? b=some o→∃sl,h'.get? b=some {o with slots:=sl}:=fun b o hb e=>by
  obtain⟨_,o',e',hd⟩:=fl.2.2.1.mem hb
  rw[e] at e';cases e'
  exact up b o e hd
 refine⟨⟨fun b o e n hb hx=>?_,fun b o e n hb hx=>?_,F.un.free,fun b o e hx=>?_,F.un.tups,F.un.frzs,F.un.tbls⟩,F.hok.by_keep fun b o hb e=>?_⟩
 ·obtain⟨o',e'⟩:=b2 b o e hb
  exact same b o o' e' (F.un.keep b o e n hb hx)
 ·obtain⟨sl,e1⟩:=F.un.slot b o e n hb hx
  obtain⟨sl',e2⟩:=fsm b _ hb e1
  exact⟨sl',e2⟩
 ·obtain⟨o1,e1⟩:=F.un.there b o e hx
  by_cases hb:b∈En outer
  ·obtain⟨sl,e2⟩:=fsm b o1 hb e1
   exact⟨_,e2⟩
  ·obtain⟨o',e'⟩:=b2 b o e hb
   exact⟨o',st b o' e'⟩
 ·obtain⟨o',e'⟩:=b1 b hb
  exact same b o o' e' e
def CD(X:Cx)(pins:List (Addr×Obj))(E':Value→Shared→Prop):Cx:={X with pn:=X.pn++pins,xe:=E'}
structure TryIs(X X':Cx):Prop where
 is:∃pins E',X'=CD X pins E'
def UQ(X:Cx)(x:Addr):Cx:={X with A:=X.A.mark (some (.ref x)),calm:=false,xe:=fun _ _=>False}
section
variable{X:Cx}{pins pins':List (Addr×Obj)}{σ:St}{H:Hp}{s:Shared}{E':Value→Shared→Prop}{x:Addr}
theorem Cx.Ok.toTry(ok:X.Ok):(CD X pins E').Ok:=
 ⟨ok.mod,ok.kind,ok.glob,ok.blt,ok.above,ok.inj,ok.has,ok.cab,ok.hd,ok.frames,ok.stk,ok.exf,ok.bs,ok.bsz,ok.noex,ok.exfs,ok.funs,ok.frf⟩
theorem Cx.Ok.ofTry(ok:(CD X pins E').Ok):X.Ok:=
 ⟨ok.mod,ok.kind,ok.glob,ok.blt,ok.above,ok.inj,ok.has,ok.cab,ok.hd,ok.frames,ok.stk,ok.exf,ok.bs,ok.bsz,ok.noex,ok.exfs,ok.funs,ok.frf⟩
theorem Cx.Ok.toH(ok:X.Ok):(UQ X x).Ok:=
 ⟨ok.mod,ok.kind,ok.glob,ok.blt,ok.above,ok.inj,ok.has,ok.cab,fun(e:false=true)=> (cf e).elim,ok.frames,ok.stk,ok.exf,ok.bs,ok.bsz,ok.noex,ok.exfs,ok.funs,ok.frf⟩
theorem Inv.toTry(I:Inv X pins σ H s):Inv (CD X pins E') [] σ H s:=
 ⟨I.ok.toTry,I.os,I.bare,I.base,I.loc,I.cell,I.free,I.freeC,fun p hp=>I.pin p (by rw[eZ] at hp;exact hp),I.hok,I.len⟩
theorem Inv.ofTry(I:Inv (CD X pins E') pins' σ H s):Inv X pins σ H s:=
 ⟨I.ok.ofTry,I.os,I.bare,I.base,I.loc,I.cell,I.free,I.freeC,fun p hp=>I.pin p (eU _ hp),I.hok,I.len⟩
theorem Inv.toH(I:Inv X pins σ H s):Inv (UQ X x) pins σ H s:=⟨I.ok.toH,I.os,I.bare,I.base,I.loc,I.cell,I.free,I.freeC,I.pin,I.hok,I.len⟩
theorem Inv.ofH(ok:X.Ok)(I:Inv (UQ X x) pins σ H s):Inv X pins σ H s:=⟨ok,I.os,I.bare,I.base,I.loc,I.cell,I.free,I.freeC,I.pin,I.hok,I.len⟩
theorem SP.ofTry{D:Ends}{f:Flow}{s':Shared}(h:SP (CD X pins E') [] D f s'):SP X pins D f s':=by
 cases f with
 |next=>obtain⟨σ',H',I,q⟩:=h;exact⟨σ',H',I.ofTry,q⟩
 |brk=>obtain⟨σ',H',I,q⟩:=h;exact⟨σ',H',I.ofTry,q⟩
 |cont=>obtain⟨σ',H',I,q⟩:=h;exact⟨σ',H',I.ofTry,q⟩
 |ret u=>obtain⟨v,σ',H',I,r,q⟩:=h;exact⟨v,σ',H',I.ofTry,r,q⟩
end
def UR(i:Nat)(D:Ends):Ends:={nx:=fun σ H=>D.nx (σ.set i none) H,rt:=D.rt,bk:=fun σ H=>D.bk (σ.set i none) H,ct:=fun σ H=>D.ct (σ.set i none) H}
theorem KD.heap{M:Model}{A:de}{Q:Unit→Shared→Prop}{E:Value→Shared→Prop}{s:Shared}{t:Sem Unit}{R:Heap→Prop}(h:KD t)(q:wpAny M A t (fun _ s'=>R s'.heap∧s'={s with heap:=s'.heap}) E s)(k:∀h',R h'→DK s.heap h'→Q () {s with heap:=h'}):wpAny M A t Q E s:=
 gD (h.any q) (fun _ s' ⟨⟨r,e⟩,d⟩=>by rw[e];exact k _ r d) fun _ _ z=>z
def HK(cls:Value)(C x:Addr)(H:Hp)(o:HO):Prop:=(cls=.ref C∧o=Dp C x)∨∃fs ox dx vs,cls=.str fs C∧o=.frz ox (Dp C x)∧ox=⟨.ref C,some dx,.fields vs,ox.slots⟩∧H dx=some (FW dx (UP fs))
def WT(K:a8)(B:Addr)(i:Nat)(th:TS)(D:Ends):St→XK:=fun σ cls _ H=>∃C,(cls=.ref C∨∃fs,cls=.str fs C)∧fE K (.ref C) (.ref B)=some true∧∀x o,H x=none→HK cls C x H o→th (UR i D) (σ.set i (some (.ref x))) (upd H x o)
def aX(tb:(St→XK)→TS)(K:a8)(B:Addr)(i:Nat)(th:TS):TS:=fun D σ H=>tb (WT K B i th D) D σ H
theorem PZ{X:Cx}{body suite:List Stmt}{b₀:Stmt}{n x:Str}{i:Nat}{B:Addr}{np hpos pos:Pos}{tb:(St→XK)→TS}{th:TS}(hst:X.stack=X.env::X.outer)(hex:X.ex=[])(hfr:X.env.frame=some X.env.locals)(hN:X.N.Nodup)(hi:X.N[i]?=some n)
  (hk:X.env.scope.names.lookup n=some .local) (hg:Gl X x) (hm:X.mg x=some (.ref B)) (hbe:fU X.K B (.type "BaseException")=some true)
  (hb:∀(W:St→XK) (X':Cx),TryIs X X'→XFly X' W→PSs X' body (tb W)) (hh:∀y,PSs (UQ X y) (b₀::suite) th) (hd:(x==("__debug__" :Str))=false:=by decide):
  PS X (.Try body [.ExceptHandler (some (.Name x np)) (some n) (b₀::suite) hpos] [] [] pos) (aX tb X.K B i th):=by
 intro pins s σ H D I h
 refine wpAny_Try_except ?_
 generalize hXE:(fun(e:Value) (s₁:Shared)=>wpAny (model X.prog X.w) X.A (nI e X.env) (fun _ s₂=>wpAny (model X.prog X.w) X.A (setFlight e none) (fun _ s₃=>wpAny (model X.prog X.w) X.A (handleBy e X.env [.ExceptHandler (some (.Name x np)) (some n) (b₀::suite) hpos]) (SP X pins D) X.xe s₃) X.xe s₂) X.xe s₁)=XE
 have xf:XFly (CD X pins XE) (WT X.K B i th D):=by
  refine⟨fun pins' σ1 H1 s1 e s2 I1 c=>?_⟩
  obtain⟨y,cls,H2,rfl,F,C,hcls,kc,hq⟩:=c
  have hco:Hu cls=.ref C:=by rcases hcls with rfl| ⟨fs,rfl⟩<;>rfl
  obtain⟨B',t,b1,b2,fl⟩:=F.fly
  rw[hco] at fl
  have flx:iJ B' (CD X pins XE).stack y (Hu cls) (.ref t) s2.heap:=by rw[hco];exact fl
  have fl':iJ B' (X.env::X.outer) y (.ref C) (.ref t) s2.heap:=hst▸(show iJ B' X.stack y (.ref C) (.ref t) s2.heap from fl)
  have frA:X.A.frames=some (X.env::X.outer):=hst▸I.ok.frames
  have inv_at:∀hp:Heap,B'.StaysIn hp→s2.heap.UpToSlots hp→Inv X pins σ1 H2 {s2 with heap:=hp}:=fun hp st up=>by
   obtain⟨u,ho⟩:=F.un' b1 b2 flx st up
   exact Inv.ofTry (I1.call' (s':={s2 with heap:=hp}) (ch:=[]) F.os u ho F.bare fun b z=>absurd z (by simp))
  show XE (.ref y) s2
  rw[←hXE]
  refine KD.heap (Mm _ _) (R:=fun h4=>Heap.HeldW B' (X.env::X.outer) y (.ref C) (.ref t) X.env.locals h4∧s2.heap.UpToSlots h4) (wpAny_looks_onW frA hfr fl' fun h4 a b=> ⟨⟨a,b⟩,rfl⟩) fun h4 ⟨held4,up4⟩ dk4=>?_
  refine KD.heap (Co _ _) (R:=fun h5=>iJ B' (X.env::X.outer) y (.ref C) (.ref t) h5∧h4.UpToSlots h5) (wpAny_landsW held4 fun h5 a b=> ⟨⟨a,b⟩,rfl⟩) fun h5 ⟨fl5,up5⟩ dk5=>?_
  have up5':=up4.trans up5
  have I5:=inv_at h5 fl5.1 up5'
  refine wpAny_handleBy_cons (codeAny_handlers_test ?_) (by intro q;cases q)
  refine EH (X:=UQ X y) I5.toH hg hm ?_ hd
  refine Js (K:=X.K) I5.kIn fl5.there kc hbe ?_
  refine codeAny_handlers_suite_as ?_
  refine KD.heap (Co _ _) (R:=fun h6=>iJ B' (X.env::X.outer) y (.ref C) (.ref t) h6∧h5.UpToSlots h6) (lands_againW fl5 fun h6 a b=> ⟨⟨a,b⟩,rfl⟩) fun h6 ⟨fl6,up6⟩ dk6=>?_
  have I6:=inv_at h6 fl6.1 (up5'.trans up6)
  have hyB:B'.get? y=none:=fl.2.1
  have nofr:∀b o,s1.heap.get? b=some o→b∉En X.stack→b≠y:=fun b o e hb z=>by
   obtain⟨o',e'⟩:=b2 b o e hb
   rw[z,hyB] at e';cases e'
  obtain⟨oe,vs,eoe,_,doe,_⟩:=fl.first
  have yfr:y∉En X.stack:=fun z=>by
   obtain⟨_,o',e',hd'⟩:=fl.2.2.1.mem (show y∈(CD X pins XE).stack.filterMap (·.frame) from z)
   rw[eoe] at e';cases e'
   exact hd' vs doe
  have hs0:X.s₀.heap.get? y=none:=by
   cases e:X.s₀.heap.get? y with
   |none=>rfl
   |some o=>
    have exf:y∉X.ex:=by rw[hex];simp
    obtain⟨o1,e1⟩:=I1.base.there y o e exf
    exact absurd rfl (nofr y o1 e1 yfr)
  obtain⟨oe6,vs6,eoe6,coe6,doe6,_⟩:=fl6.first
  have hk:∃o,HK cls C y H2 o∧ObjOk X.prog X.w (upd H2 y o) h6 y o:=by
   rcases hcls with rfl| ⟨fs,rfl⟩
   ·exact⟨_,.inl ⟨rfl,rfl⟩,Mo fl6.there⟩
   ·obtain⟨ox,dx,e1,e2,e3⟩:=F.dic fs C rfl
    have z:=(DK.trans dk4 (DK.trans dk5 dk6)).at_ e1 eoe6
    refine⟨.frz oe6 (Dp C y),.inr ⟨fs,oe6,dx,vs6,rfl,rfl,?_,e3⟩,eoe6,Mo fl6.there⟩
    obtain⟨c6,d6,da6,sl6⟩:=oe6
    rw[show d6=some dx from z.trans e2,show c6=.ref C from coe6,show da6=.fields vs6 from doe6]
  obtain⟨o,hk1,hk2⟩:=hk
  have I7:Inv X pins σ1 (upd H2 y o) {s2 with heap:=h6}:=I6.track F.fr ⟨oe6,eoe6,doe6⟩ hs0 (fun p hp=>by
   obtain⟨e,_,nl,nf,_⟩:=I1.pin p (eU _ hp)
   exact nofr p.1 p.2 e fun z=> (da.mp (I1.stkSub p.1 z)).elim nl nf) hk2
  refine EG (X:=UQ X y) I7.toH hN hi (.inl hk) (v:=.ref y) rfl (fun s8 I8=>?_) (.inr hk)
  refine gD (hh y _ s8 _ _ (UR i D) I8 (hq y o F.fr hk1)) (fun f s9 hf=>?_) fun _ _ z=>fh z
  cases f with
  |next=>obtain⟨σ9,H9,I9,q9⟩:=hf;exact(I9.ofH I.ok).gone hN hi hk fun s10 I10=> ⟨_,_,I10,q9⟩
  |brk=>obtain⟨σ9,H9,I9,q9⟩:=hf;exact(I9.ofH I.ok).gone hN hi hk fun s10 I10=> ⟨_,_,I10,q9⟩
  |cont=>obtain⟨σ9,H9,I9,q9⟩:=hf;exact(I9.ofH I.ok).gone hN hi hk fun s10 I10=> ⟨_,_,I10,q9⟩
  |ret u=>obtain⟨v,σ9,H9,I9,r,q9⟩:=hf;exact(I9.ofH I.ok).gone hN hi hk fun s10 I10=> ⟨v,_,_,I10,r,q9⟩
 have q:=hb _ (CD X pins XE) ⟨_,_,rfl⟩ xf [] s σ H D I.toTry h
 refine gD q (fun f s1 hf=>?_) fun e s1 he=>he
 cases f with
 |next=>exact jD (SP.ofTry (f:=.next) hf)
 |brk=>exact SP.ofTry (f:=.brk) hf
 |cont=>exact SP.ofTry (f:=.cont) hf
 |ret u=>exact SP.ofTry (f:=.ret u) hf
structure RoomH(k:Nat)(A:de):Prop where
 dp:A.depth+3*k+5<mq
 un:A.units+16*k+200<cLine
theorem Room.toH{k:Nat}{A:de}{x:Value}(r:Room k A):RoomH k (A.mark (some x)):=⟨r.dp,r.un⟩
structure FnH(P:Program)(w:World)(K:a8)(mg:Str→Option Value)(base:Heap)(k:Nat)(f:Addr)(fd:dA)(ps:List Str)(sp:Sp):Prop where
 len:∀vs H Q E,sp vs H Q E→vs.length=ps.length
 run:∀(A:de) (outer:List Env) (s:Shared) (H:Hp) (args:Args) (us:List Value) (vs:List V) (Q:VK),RoomH k A→Env0 P w K mg base A outer s H→mP s fd args (ps.zip us)→Vals vs us→sp vs H Q E0→
  iD (model P w) A (.call (.ref f) args) (CR aW outer P w H s Q E0) s
def SY(P:Program)(w:World)(K:a8)(mg:Str→Option Value)(base:Heap)(N:List Str)(qual:Str)(scope:Scope)(f:Addr)(cd:Value)(A:de)(outer:List Env)(s:Shared)(H:Hp):Cx:=
 {Bq aW P w K mg base N qual scope f cd A outer s H E0 with calm:=false,xe:=fun _ _=>False}
theorem Fun.okH{P:Program}{w:World}{K:a8}{mg:Str→Option Value}{base:Heap}{x qual:Str}{st:Stmt}{f:Addr}{fd:dA}{N ps:List Str}{k:Nat}{sp:Sp}(F:Fun K x qual st f fd)(S:FnScope N ps (AA st))
  (len:∀vs H Q E,sp vs H Q E→vs.length=ps.length)
  (hbody:∀(cdv:Value) (A:de) (outer:List Env) (s:Shared) (H:Hp) (vs:List V) (Q:VK),RoomH k (A.deeper (hZ qual (AA st) s.heap.objs.size f cdv))→sp vs H Q E0→
   ∃t,PSs (SY P w K mg base N qual (AA st) f cdv A outer s H) (AY st) t∧t {nx:=fun _ H'=>Q .non H',rt:=Q} (start N vs) H):FnH P w K mg base (k+1) f fd ps sp:=by
 obtain⟨oc,od,kV,doc,pm,an,cdv,ct,osl,rfl,lk,hcd⟩:=F.ex
 refine⟨len,fun A outer s H args us vs Q hr e0 hb r hsp=>?_⟩
 have hl:=len _ _ _ _ hsp
 have KX:K.In s.heap:=e0.mod.kin.keeps fun b o e=> (e0.bs b o e).1
 have lim:s.heap.NoLimit:=e0.mod.nolimit.keeps fun b o e=> (e0.bs b o e).1
 have hkind:∀y∈ps.zip us,(AA st).names.lookup y.1=some .local∨((AA st).names.lookup y.1=some .cell∧((fV (s.heap.objs.size+1) (AA st).names []).lookup y.1).isSome=true):=fun⟨n,v⟩ hy=>by
  rcases S.par n (kv hy).1 with q|q
  ·exact .inl q
  ·exact .inr ⟨q,jR _ _ _ (.inl q)⟩
 refine codeAny_call_function (by have:=hr.dp;omega) (KX _ _ lk) rfl S.co S.gen rfl (PySem.W.codeRec_of KX hcd) (hb _ _ _ _ ?_)
 refine wpAny_newFunctionEnv_cells S.kind hkind fun env he s1 x=>?_
 subst he
 refine⟨lim.keeps x.toInCall.keep,codeAny_func ?_⟩
 obtain⟨t,ht,hq⟩:=hbody cdv A outer s H vs Q ⟨by have:=hr.dp;show A.depth+1+3*k+5<_;omega,by have:=hr.un;show A.units+3+16*k+200<_;omega⟩ hsp
 have I0:Inv (Bq aW P w K mg base N qual (AA st) f cdv {A with handled:=none} outer s H E0) [] (start N vs) H s1:=
  Hq S rfl (⟨e0.frames,e0.mod,e0.bs,e0.bsz,e0.funs,e0.frf,e0.hok,e0.bare⟩:Env0 P w K mg base {A with handled:=none} outer s H) hl r x
 have I:Inv (SY P w K mg base N qual (AA st) f cdv A outer s H) [] (start N vs) H s1:=by
  have ok:=I0.ok
  exact⟨⟨ok.mod,ok.kind,ok.glob,ok.blt,ok.above,ok.inj,ok.has,ok.cab,fun(e:false=true)=> (cf e).elim,ok.frames,ok.stk,ok.exf,ok.bs,ok.bsz,ok.noex,ok.exfs,ok.funs,ok.frf⟩,I0.os,I0.bare,I0.base,I0.loc,I0.cell,I0.free,I0.freeC,I0.pin,I0.hok,I0.len⟩
 refine gD (ht [] s1 (start N vs) H _ I hq) (fun fl s' hs=>?_) fun e s' hs=>fh hs
 have fin:∀{σ':St} {H':Hp} {v:V} {u:Value},Inv (SY P w K mg base N qual (AA st) f cdv A outer s H) [] σ' H' s'→RelV v u→Q v H'→CE outer P w H s Q u s':=
  fun{σ' H' v u} J rv q=> ⟨v,H',J.os,J.bare,J.base,J.hok,rv,q⟩
 cases fl with
 |ret u=>
  obtain⟨v,σ',H',J,rv,q⟩:=hs
  exact fin J rv q
 |next=>
  obtain⟨σ',H',J,q⟩:=hs
  exact fin (v:=V.non) (u:=jn) J rfl q
 |brk=>
  obtain⟨_,_,_,q⟩:=hs
  exact fh q
 |cont=>
  obtain⟨_,_,_,q⟩:=hs
  exact fh q
theorem Pa{X:Cx}{k:Nat}{f:Addr}{fd:dA}{ps:List Str}{sp:Sp}{x:Str}{p pos:Pos}{e:Expr}{es:List Expr}{t:TA}(F:FnH X.prog X.w X.K X.mg X.base k f fd ps sp)(hr:RoomH k X.A)(hg:Gl X x)(hm:X.mg x=some (.ref f))(hk:eM X.K (.ref f)=true)(hb:Binds X.K fd ps [])
  (ha:PA X (e::es) t) (hdb:(x==("__debug__" :Str))=false:=by decide) (he:cb (e::es) X.env=(false,eval e X.env)::cb es X.env:=by rfl) (hpl:(fY pos (cb es X.env)).any (·.1)=false:=by rfl):
  PE X (.Call (.Name x p) (e::es) [] pos) (PX sp (fun _=>E0) t):=by
 intro pins s σ H Q I h
 refine iw (EH I hg hm ?_ hdb)
 refine kZ (h₀:=X.base) I.ok.mod.kin hk (Aq (ha pos pins s σ H _ I h) fun us s1 ⟨vs,H1,I1,r,q⟩=> ⟨I1.kIn,?_⟩) he hpl
 have r2:Vals vs (us++[]):=by rw[eZ];exact r
 have hl:(us++[]).length=ps.length:=by rw[←r2.length];exact F.len _ _ _ _ q
 refine jl (iY (F.run X.A X.stack s1 H1 ⟨us,[]⟩ (us++[]) vs Q hr I1.env0 (hb s1 us I1.kIn hl) r2 q) fun r s' hq=>?_)
 cases r with
 |error e=>exact fh hq
 |ok fl=>
  cases fl with
  |ret u=>exact I1.after hq
  |next=>exact fh hq
  |brk=>exact fh hq
  |cont=>exact fh hq
theorem Fun.okX{P:Program}{w:World}{K:a8}{mg:Str→Option Value}{base:Heap}{x qual:Str}{st:Stmt}{f:Addr}{fd:dA}{N ps:List Str}{k:Nat}{sp:Sp}(F:Fun K x qual st f fd)(S:FnScope N ps (AA st))(len:∀vs H Q E,sp vs H Q E→vs.length=ps.length)
  (hbody:∀(cdv:Value) (A:de) (outer:List Env) (s:Shared) (H:Hp) (vs:List V) (Q:VK) (E:XK),Room k (A.deeper (hZ qual (AA st) s.heap.objs.size f cdv))→sp vs H Q E→
   ∃t,PSs (Bq (CXe P w) P w K mg base N qual (AA st) f cdv A outer s H E) (AY st) t∧t {nx:=fun _ H'=>Q .non H',rt:=Q} (start N vs) H):FnOk P w K mg base (CXe P w) (k+1) f fd ps sp:=by
 obtain⟨oc,od,kV,doc,pm,an,cdv,ct,osl,rfl,lk,hcd⟩:=F.ex
 exact YA lk hcd S len fun A outer s H vs Q E hr hsp=>hbody cdv A outer s H vs Q E hr hsp
section
variable{X:Cx}
def bf(K:a8)(H:Hp)(x:V)(t:Value):Prop:=TyOf K H x t∨∃a D,x=.ref a∧t=.ref D∧Rd H a (Dp D a)∧ExcCls K D
def YJ(K:a8):List V→Hp→VK→Prop:=fun vs H Q=>∃x c t cv b,vs=[x,c]∧RelV c cv∧bf K H x t∧du K t cv=some b∧Q (.bl b) H
theorem BH:BA X (.builtin "isinstance") (YJ X.K):=by
 intro pins s σ H xs us Q I r h
 obtain⟨x,c,t,cv,b,rfl,rc,ty,e,q⟩:=h
 obtain⟨u,w',rfl,rx,rw'⟩:=PD r
 have e2:w'=cv:=by
  cases c with
  |ty n=>exact(show w'=iZ n from rw').trans (show cv=iZ n from rc).symm
  |ref a=>exact(show w'=Value.ref a from rw').trans (show cv=Value.ref a from rc).symm
  |non=>exact(show w'=jn from rw').trans (show cv=jn from rc).symm
  |bl b=>exact(show w'=lW b from rw').trans (show cv=lW b from rc).symm
  |int i=>exact absurd e (by obtain⟨k,rfl⟩:=rc;unfold du;rcases ty with ty| ⟨_,_,_,rfl,_⟩<;>first| (cases ty<;> (intro z;simp[fE] at z))| (intro z;simp[fE] at z))
  |str i=>exact absurd e (by obtain⟨k,rfl⟩:=rc;unfold du;rcases ty with ty| ⟨_,_,_,rfl,_⟩<;>first| (cases ty<;> (intro z;simp[fE] at z))| (intro z;simp[fE] at z))
  |byt i=>exact absurd e (by obtain⟨k,rfl⟩:=rc;unfold du;rcases ty with ty| ⟨_,_,_,rfl,_⟩<;>first| (cases ty<;> (intro z;simp[fE] at z))| (intro z;simp[fE] at z))
  |flt i=>exact absurd e (by obtain⟨k,rfl⟩:=rc;unfold du;rcases ty with ty| ⟨_,_,_,rfl,_⟩<;>first| (cases ty<;> (intro z;simp[fE] at z))| (intro z;simp[fE] at z))
 subst e2
 rcases ty with ty| ⟨a,D,rfl,rfl,hx,k⟩
 ·exact Nu I rx ty e fun tk=> ⟨.bl b,H,I.tok tk,rfl,q⟩
 ·cases(show u=Value.ref a from rx)
  exact Lf I hx k e fun tk=> ⟨.bl b,H,I.tok tk,rfl,q⟩
theorem HZ:BA X (.builtin "repr") (fun xs H Q=>∃i,xs=[.int i]∧i.natAbs.log2<1920∧Q (.str (toString i)) H):=by
 intro pins s σ H xs us Q I r h
 obtain⟨i,rfl,hz,q⟩:=h
 obtain⟨u,rfl,t,rfl⟩:=Di r
 exact PySem.P.repr_of_int hz ⟨.str _,H,I.tok _,⟨_,rfl⟩,q⟩
def Vp(K:a8):V→List V→Hp→VK→Prop:=fun x vs H Q=>∃l xs y,x=.ref l∧vs=[y]∧SqL K H l xs∧Dj y=true∧xs.all Dj=true∧Q (.int (xs.countP fun z=>LL z y)) H
theorem GU{x:V}:∀{xs:List V} {us:List Value},Vals xs us→xs.all Dj=true→us.countP (XT x)=xs.countP fun y=>LL y x
 |_,_,.nil,_=>rfl
 |y::xs,u::us,.cons r t,f=>by
  rw[List.all_cons,eX] at f
  rw[List.countP_cons,List.countP_cons,LY r f.1,GU t f.2]
theorem Pb:Zs X "list.count" (Vp X.K):=by
 intro pins s σ H x vs v us Q I rx rv h
 obtain⟨l,xs,y,rfl,rfl,hl,fy,fx,q⟩:=h
 cases rx
 obtain⟨u,rfl,ru⟩:=rv.one
 obtain⟨its,r,p,hz⟩:=I.list hl
 obtain⟨⟨cls,dd,data,sl⟩,n,ho,hc,hdd,hd⟩:=id p
 simp only at hc hd
 subst hc hd
 refine kU F.slot_list_count ⟨_,ho,rfl⟩ F.entry_list_count (F.args_list_count_2 _ _) (SeqAt.list_countAt l its.toArray n dd sl u (XT y)) ⟨ho,fun z hz=>GQ ru fy r fx z (by simpa using hz),?_⟩
 rw[show its.toArray.toList=its from rfl,GU r fx]
 exact⟨.int _,H,I.tok _,⟨_,rfl⟩,q⟩
def Vq(K:a8):V→List V→Hp→VK→Prop:=fun x vs H Q=>∃l xs y j,x=.ref l∧vs=[y]∧SqL K H l xs∧Dj y=true∧xs.all Dj=true∧(∃z,xs[j]?=some z∧LL z y=true)∧(∀m z,m<j→xs[m]?=some z→LL z y=false)∧Q (.int (j:Nat)) H
theorem Pc:Zs X "list.index" (Vq X.K):=by
 intro pins s σ H x vs v us Q I rx rv h
 obtain⟨l,xs,y,j,rfl,rfl,hl,fy,fx,⟨z,ez,hit⟩,hno,q⟩:=h
 cases rx
 obtain⟨u,rfl,ru⟩:=rv.one
 obtain⟨its,r,p,hz⟩:=I.list hl
 obtain⟨⟨cls,dd,data,sl⟩,n,ho,hc,hdd,hd⟩:=id p
 simp only at hc hd
 subst hc hd
 have hlen:=r.length
 have hj:j<xs.length:=(cw.mp ez).1
 have at_:∀m (hm:m<its.toArray.size) z,xs[m]?=some z→XT y its.toArray[m]=LL z y:=fun m hm z e=>by
  obtain⟨w',e',rw'⟩:=r.get e
  have:its.toArray[m]=w':=by
   have:its[m]'(by simpa using hm)=w':=dQ.inj (by rw[←e'];simp)
   simpa using this
  rw[this]
  exact LY rw' (kh.mp fx z (cU e))
 refine kU F.slot_list_index ⟨_,ho,rfl⟩ F.entry_list_index (F.args_list_index_2 _ _)
  (SeqAt.list_indexAt l its.toArray n dd sl u (XT y) j (by simpa[←hlen] using hj) (by have:=Er;omega) ?_ ?_) ⟨ho,fun z hz=>GQ ru fy r fx z (by simpa using hz),⟨.int _,H,I.tok _,⟨_,rfl⟩,q⟩⟩
 ·rw[at_ j _ z ez];exact hit
 ·intro m hm hlt
  have hmx:m<xs.length:=by omega
  rw[at_ m hm xs[m] (by simp[hmx])]
  exact hno m _ hlt (by simp[hmx])
end
end L2
namespace StT
local macro_rules | `(tactic| omega) => `(tactic| first | lia | omega)
open PySem PySem.SetTable
theorem Lg:∀(m:Nat) (l:List Nat),(∀e,e<m→e∈l)→m≤l.length
 |0,_,_=>eS _
 |m+1,l,h=>by
  have hm:m∈l:=h m (iU m)
  have ih:=Lg m (l.erase m) fun e he=>by
   rw[List.mem_erase_of_ne (dF he)]
   exact h e (gY he)
  rw[List.length_erase_of_mem hm] at ih
  have:0<l.length:=List.length_pos_of_mem hm
  omega
theorem Bn:∀(n:Nat) (l:List Nat),l.Nodup→(∀x∈l,x<n)→l.length≤n
 |0,[],_,_=>cW _
 |0,x::_,_,h=>absurd (h x dw) (jF _)
 |n+1,l,nd,h=>by
  have ih:=Bn n (l.erase n) (nd.erase n) fun x hx=>by
   have h1:=h x (List.mem_of_mem_erase hx)
   have h2:x≠n:=fun e=>by
    subst e
    exact absurd hx (List.Nodup.not_mem_erase nd)
   omega
  by_cases hn:n∈l
  ·rw[List.length_erase_of_mem hn] at ih
   omega
  ·rw[List.erase_of_not_mem hn] at ih
   omega
def Pd(xs:Array Nat):Prop:=xs.toList.Pairwise (· < ·)
theorem GV{xs:Array Nat}(r:Pd xs){i j:Nat}{x y:Nat}(hi:xs[i]?=some x)(hj:xs[j]?=some y)(h:i<j):x<y:=by
 obtain⟨h1,rfl⟩:=eO.mp hi
 obtain⟨h2,rfl⟩:=eO.mp hj
 have:=dU.mp r i j (by simpa using h1) (by simpa using h2) h
 simpa using this
theorem Il{xs:Array Nat}{j:Nat}:∀(fuel lo hi:Nat),hi-lo≤fuel→lo≤hi→hi≤xs.size→(∀i x,i<lo→xs[i]?=some x→x<j)→(∀i x,hi≤i→xs[i]?=some x→j≤x)→Pd xs→
  (nW xs j fuel lo hi≤xs.size)∧(∀i x,i<nW xs j fuel lo hi→xs[i]?=some x→x<j)∧∀i x,nW xs j fuel lo hi≤i→xs[i]?=some x→j≤x
 |0,lo,hi,hf,hlo,hhi,h1,h2,r=>by
  have:lo=hi:=by omega
  subst this
  exact⟨hhi,h1,h2⟩
 |fuel+1,lo,hi,hf,hlo,hhi,h1,h2,r=>by
  unfold nW
  by_cases hl:lo<hi
  ·rw[if_pos hl]
   have hm:(lo+hi)/2<xs.size:=by omega
   have em:xs[(lo+hi)/2]?=some xs[(lo+hi)/2]:=by simp[hm]
   have eg:xs.getD ((lo+hi)/2) j=xs[(lo+hi)/2]:=by simp[lj,hm]
   dsimp only
   rw[eg]
   by_cases hc:xs[(lo+hi)/2]<j
   ·rw[if_pos hc]
    refine Il fuel _ _ (by omega) (by omega) hhi (fun i x hi' e=>?_) h2 r
    by_cases hx:i=(lo+hi)/2
    ·subst hx
     rw[em] at e;cases e
     exact hc
    ·exact nC (GV r e em (by omega)) hc
   ·rw[if_neg hc]
    refine Il fuel _ _ (by omega) (by omega) (by omega) h1 (fun i x hi' e=>?_) r
    by_cases hx:i=(lo+hi)/2
    ·subst hx
     rw[em] at e;cases e
     omega
    ·have:=GV r em e (by omega)
     omega
  ·rw[if_neg hl]
   have:lo=hi:=by omega
   subst this
   exact⟨hhi,h1,h2⟩
theorem Cp{xs:Array Nat}{j:Nat}(r:Pd xs):(below xs j≤xs.size)∧(∀i x,i<below xs j→xs[i]?=some x→x<j)∧∀i x,below xs j≤i→xs[i]?=some x→j≤x:=
 Il _ _ _ (by omega) (by omega) (cW _) (fun i x h=>absurd h (jF _)) (fun i x h e=>by
  have:=(eO.mp e).1
  omega) r
theorem Br{xs:Array Nat}{i j:Nat}(r:Pd xs)(h:xs[i]?=some j):below xs j=i:=by
 obtain⟨b1,b2,b3⟩:=Cp (j:=j) r
 have hi:i<xs.size:=(eO.mp h).1
 apply Nat.le_antisymm
 ·apply j9
  intro hc
  exact absurd (b2 i j hc h) (fb _)
 ·apply j9
  intro hc
  have e:xs[below xs j]?=some xs[below xs j]:=by simp[nC hc hi]
  have h1:=b3 _ _ (cW _) e
  have h2:=GV r e h hc
  omega
theorem BK{α:Type}(xs:Array α)(p:Nat)(x:α):(gK xs p x).toList=xs.toList.take p++x::xs.toList.drop p:=by
 unfold gK
 simp
 rw[List.take_of_length_le (by simp)]
theorem getElem?_insertAt{α:Type}(xs:Array α)(p:Nat)(x:α)(hp:p≤xs.size)(i:Nat):(gK xs p x)[i]?=if i<p then xs[i]? else if i=p then some x else xs[i-1]?:=by
 have e:(gK xs p x)[i]?=(gK xs p x).toList[i]?:=by simp
 rw[e,BK]
 have hl:(xs.toList.take p).length=p:=by simp[hp]
 by_cases h1:i<p
 ·rw[if_pos h1,dM (by omega),iM h1]
  simp
 ·rw[if_neg h1,dB (by omega),hl]
  by_cases h2:i=p
  ·subst h2
   simp
  ·rw[if_neg h2]
   have:i-p=(i-p-1)+1:=by omega
   rw[this,gz,fD]
   have:p+(i-p-1)=i-1:=by omega
   rw[this]
   simp
theorem Dk{α:Type}(xs:Array α)(p:Nat)(x:α)(hp:p≤xs.size):(gK xs p x).size=xs.size+1:=by
 rw[←cZ,BK]
 simp
 omega
theorem Lh{xs:Array Nat}{j:Nat}(r:Pd xs)(hj:∀i:Nat,xs[i]?≠some j):Pd (gK xs (below xs j) j):=by
 obtain⟨b1,b2,b3⟩:=Cp (j:=j) r
 unfold Pd
 rw[BK]
 have lt:∀y∈xs.toList.take (below xs j),y<j:=fun y hy=>by
  obtain⟨i,hi⟩:=eF hy
  have hlt:i<below xs j:=by
   have:=(cw.mp hi).1
   simp at this;omega
  rw[iM hlt] at hi
  exact b2 i y hlt (by simpa using hi)
 have gt:∀y∈xs.toList.drop (below xs j),j<y:=fun y hy=>by
  obtain⟨i,hi⟩:=eF hy
  rw[fD] at hi
  have hi':xs[below xs j+i]?=some y:=by simpa using hi
  have h1:=b3 _ y (Nat.le_add_right _ _) hi'
  have h2:y≠j:=fun e=>hj _ (e▸hi')
  omega
 refine km.mpr ⟨dD.sublist (iH _ _) r,List.pairwise_cons.mpr ⟨gt,dD.sublist (lF _ _) r⟩,fun a ha b hb=>?_⟩
 rcases da.mp hb with rfl|hb
 ·exact lt a ha
 ·exact nC (lt a ha) (gt b hb)
def adv(m:Nat)(p:Probe):Probe:=(fc.mk m #[] #[] 0 false 0 false).advance p
theorem GW(t:fc)(p:Probe):t.advance p=adv t.mask p:=rfl
theorem GX{m:Nat}{p:Probe}(h:0<p.more):adv m p=⟨p.j+1,p.more-1,p.i,p.perturb,p.dummy⟩:=by
 unfold adv advance
 exact if_pos h
theorem GY{m:Nat}{p:Probe}(h:¬0<p.more):adv m p=⟨(leap m p.i p.perturb).1,jm m (leap m p.i p.perturb).1- (leap m p.i p.perturb).1,(leap m p.i p.perturb).1,(leap m p.i p.perturb).2,p.dummy⟩:=by
 unfold adv advance
 exact if_neg h
def advN(m:Nat):Nat→Probe→Probe
 |0,p=>p
 |n+1,p=>advN m n (adv m p)
theorem Bt(m:Nat):∀(a b:Nat) (p:Probe),advN m (a+b) p=advN m b (advN m a p)
 |0,b,p=>by rw[ip];rfl
 |a+1,b,p=>by
  rw[nB]
  exact Bt m a b (adv m p)
theorem Hv(m n:Nat)(p:Probe):advN m (n+1) p=adv m (advN m n p):=Bt m n 1 p
def st(m:Nat)(x:Nat×Nat)(d:Option Nat):Probe:={j:=x.1,more:=jm m x.1-x.1,i:=x.1,perturb:=x.2,dummy:=d}
theorem Pe(t:fc)(h:Int):t.probeStart h=st t.mask (bits h%(t.mask+1),bits h) none:=rfl
def Li(m:Nat):Nat→Nat×Nat→Nat×Nat
 |0,x=>x
 |n+1,x=>Li m n (leap m x.1 x.2)
theorem Eu(m i:Nat)(h:i≤m):i+(jm m i-i)≤m∧jm m i-i≤9:=by
 unfold jm
 split<;>omega
theorem Im(m:Nat):∀(k:Nat) (p:Probe),k≤p.more→advN m k p={p with j:=p.j+k,more:=p.more-k}
 |0,p,_=>rfl
 |k+1,p,h=>by
  show advN m k (adv m p)=_
  have e:adv m p={p with j:=p.j+1,more:=p.more-1}:=GX (by omega)
  rw[e,Im m k _ (by show k≤p.more-1;omega)]
  show({p with j:=p.j+1+k,more:=p.more-1-k}:Probe)={p with j:=p.j+(k+1),more:=p.more- (k+1)}
  rw[show p.j+1+k=p.j+(k+1) by omega,show p.more-1-k=p.more- (k+1) by omega]
theorem GZ(m:Nat)(p:Probe):advN m (p.more+1) p=st m (leap m p.i p.perturb) p.dummy:=by
 rw[Hv,Im m p.more p (cW _)]
 rw[GY (by show¬0<p.more-p.more;omega)]
 rfl
theorem Ga(m:Nat):∀(L:Nat) (x:Nat×Nat),x.1≤m→(Li m L x).1≤m
 |0,_,h=>h
 |L+1,x,_=>Ga m L _ (by show(x.1*5+1+x.2/32)%(m+1)≤m;have:=nj (x.1*5+1+x.2/32) (show 0<m+1 by omega);omega)
theorem Pf(m:Nat):∀(L:Nat) (x:Nat×Nat) (d:Option Nat),x.1≤m→∃n,n≤10*L∧advN m n (st m x d)=st m (Li m L x) d
 |0,x,d,_=> ⟨0,by omega,rfl⟩
 |L+1,x,d,h=>by
  have hl:(leap m x.1 x.2).1≤m:=Ga m 1 x h
  obtain⟨n,hn,e⟩:=Pf m L (leap m x.1 x.2) d hl
  have h9:=(Eu m x.1 h).2
  refine⟨(st m x d).more+1+n,?_,?_⟩
  ·show jm m x.1-x.1+1+n≤_;omega
  ·rw[Bt,GZ]
   exact e
theorem Mp(m:Nat):∀(a b:Nat) (x:Nat×Nat),Li m (a+b) x=Li m b (Li m a x)
 |0,b,x=>by rw[ip];rfl
 |a+1,b,x=>by rw[nB];exact Mp m a b _
theorem Mq(m:Nat):∀(L:Nat) (x:Nat×Nat),(Li m L x).2=x.2/32^L
 |0,x=>by simp[Li]
 |L+1,x=>by
  show(Li m L (leap m x.1 x.2)).2=_
  rw[Mq m L]
  show x.2/32/32^L=x.2/32^(L+1)
  rw[Nat.div_div_eq_div_mul,Nat.pow_succ,Nat.mul_comm]
def XU(m:Nat):Nat→Nat→List Nat
 |0,_=> []
 |n+1,i=>i::XU m n ((i*5+1)%(m+1))
def fN(m:Nat):Nat→Nat→Nat
 |0,i=>i
 |n+1,i=>fN m n ((i*5+1)%(m+1))
theorem YK(m:Nat):∀(L i:Nat),Li m L (i,0)=(fN m L i,0)
 |0,_=>rfl
 |L+1,i=>by
  show Li m L ((i*5+1+0/32)%(m+1),0/32)=_
  rw[Nat.zero_div,Nat.add_zero]
  exact YK m L _
theorem Io(m:Nat):∀(a b x:Nat),fN m (a+b) x=fN m b (fN m a x)
 |0,b,x=>by rw[ip];rfl
 |a+1,b,x=>by rw[nB];exact Io m a b _
theorem Ip(m:Nat):∀(n i e:Nat),e∈XU m n i→∃k,k<n∧fN m k i=e
 |0,_,_,h=>by simp[XU] at h
 |n+1,i,e,h=>by
  rcases da.mp h with rfl|h
  ·exact⟨0,kK _,rfl⟩
  ·obtain⟨k,hk,hf⟩:=Ip m n _ e h
   exact⟨k+1,by omega,hf⟩
def Bu(m:Nat):Prop:=m=7∨m=31∨m=127∨m=511
theorem aY{m:Nat}(h:Bu m):fN m (m+1) 0=0∧∀e,e≤m→e∈XU m (m+1) 0:=by
 have all:∀k,((dN (k+1)).all fun e=> (XU k (k+1) 0).contains e)=true→∀e,e≤k→e∈XU k (k+1) 0:=fun k hk e he=>by
  have:=kh.mp hk e (e8.mpr (Nat.lt_succ_of_le he))
  exact List.contains_iff_mem.mp this
 rcases h with rfl|rfl|rfl|rfl
 ·exact⟨by decide+kernel,all 7 (by decide+kernel)⟩
 ·exact⟨by decide+kernel,all 31 (by decide+kernel)⟩
 ·exact⟨by decide+kernel,all 127 (by decide+kernel)⟩
 ·exact⟨by decide+kernel,all 511 (by decide+kernel)⟩
theorem bg{m:Nat}(h:Bu m){i e:Nat}(hi:i≤m)(he:e≤m):∃k,k≤m∧fN m k i=e:=by
 obtain⟨c0,call⟩:=aY h
 obtain⟨a,ha,ea⟩:=Ip m _ _ _ (call i hi)
 obtain⟨b,hb,eb⟩:=Ip m _ _ _ (call e he)
 by_cases hab:a≤b
 ·refine⟨b-a,by omega,?_⟩
  rw[←ea,←Io,show a+(b-a)=b by omega]
  exact eb
 ·refine⟨m+1-a+b,by omega,?_⟩
  rw[←ea,←Io,show a+(m+1-a+b)=(m+1)+b by omega,Io,c0]
  exact eb
structure Pr(m:Nat)(p:Probe):Prop where
 ij:p.j+p.more≤m
 more:p.more≤9
 i:p.i≤m
 pert:p.perturb<2^64
theorem Pr.st{m:Nat}{x:Nat×Nat}{d:Option Nat}(h1:x.1≤m)(h2:x.2<2^64):Pr m (st m x d):=⟨(Eu m x.1 h1).1,(Eu m x.1 h1).2,h1,h2⟩
theorem Pr.adv{m:Nat}{p:Probe}(h:Pr m p):Pr m (adv m p):=by
 by_cases hm:0<p.more
 ·rw[GX hm]
  exact⟨by have:=h.ij;show p.j+1+(p.more-1)≤m;omega,by have:=h.more;show p.more-1≤9;omega,h.i,h.pert⟩
 ·rw[GY hm]
  have hl:(leap m p.i p.perturb).1≤m:=Ga m 1 (p.i,p.perturb) h.i
  exact⟨(Eu m _ hl).1,(Eu m _ hl).2,hl,jJ (Nat.div_le_self _ _) h.pert⟩
theorem Pr.advN{m:Nat}:∀{n:Nat} {p:Probe},Pr m p→Pr m (advN m n p)
 |0,_,h=>h
 |n+1,_,h=>Pr.advN (n:=n) h.adv
theorem Pr.j{m:Nat}{p:Probe}(h:Pr m p):p.j≤m:=by have:=h.ij;omega
theorem Mr(h:Int):bits h<2^64:=by
 unfold bits
 have h1:=iC h (show(2^64:Int)≠0 by decide)
 have h2:=gQ h (show(0:Int)<2^64 by decide)
 have h3:((2:Nat)^64:Nat)=18446744073709551616:=by decide
 omega
def start(m:Nat)(h:Int):Probe:=st m (bits h%(m+1),bits h) none
theorem Pr.start(m:Nat)(h:Int):Pr m (start m h):=Pr.st (by show bits h%(m+1)≤m;have:=nj (bits h) (show 0<m+1 by omega);omega) (Mr h)
theorem YL{q:Nat}(h:q<2^64):q/32^13=0:=Nat.div_eq_of_lt (dm h (by decide))
theorem US{m:Nat}(hm:Bu m){x:Nat×Nat}(h1:x.1≤m)(h2:x.2<2^64){e:Nat}(he:e≤m):∃L,L≤m+13∧(Li m L x).1=e:=by
 have e13:Li m 13 x=((Li m 13 x).1,0):=by
  have:=Mq m 13 x
  rw[YL h2] at this
  rw[←this]
 obtain⟨k,hk,ek⟩:=bg hm (Ga m 13 x h1) he
 refine⟨13+k,by omega,?_⟩
 rw[Mp,e13,YK]
 exact ek
theorem UT{m:Nat}(hm:Bu m){p:Probe}(h:Pr m p){e:Nat}(he:e≤m):∃n,n<10*(m+15)∧(advN m n p).j=e:=by
 have hl:(leap m p.i p.perturb).1≤m:=Ga m 1 (p.i,p.perturb) h.i
 obtain⟨L,hL,eL⟩:=US hm (x:=leap m p.i p.perturb) hl (jJ (Nat.div_le_self _ _) h.pert) he
 obtain⟨n,hn,en⟩:=Pf m L (leap m p.i p.perturb) p.dummy hl
 refine⟨p.more+1+n,by have:=h.more;omega,?_⟩
 rw[Bt,GZ,en]
 exact eL
theorem OA(m:Nat)(p:Probe):(adv m p).dummy=p.dummy:=by
 by_cases h:0<p.more
 ·rw[GX h]
 ·rw[GY h]
theorem Dq(m:Nat):∀(n:Nat) (p:Probe),(advN m n p).dummy=p.dummy
 |0,_=>rfl
 |n+1,p=> (Dq m n _).trans (OA m p)
end StT
namespace StT
local macro_rules | `(tactic| omega) => `(tactic| first | lia | omega)
open PySem PySem.SetTable
def Jt(t:fc)(j:Nat):Prop:=∃i:Nat,t.place[i]?=some j
structure Tb(t:fc)(hs:List Int):Prop where
 mask:Bu t.mask
 dum:t.dummies= #[]
 ris:Pd t.place
 le:∀i j:Nat,t.place[i]?=some j→j≤t.mask
 size:t.place.size=hs.length
 fnd:∀(i j:Nat) (h:Int),t.place[i]?=some j→hs[i]?=some h→∃n,(advN t.mask n (start t.mask h)).j=j∧∀k,k<n→Jt t (advN t.mask k (start t.mask h)).j
section
variable{t:fc}{hs:List Int}
theorem Tb.odd(T:Tb t hs):t.mask%2=1:=by rcases T.mask with h|h|h|h<;>rw[h]
theorem Tb.low(T:Tb t hs):7≤t.mask:=by rcases T.mask with h|h|h|h<;>omega
theorem Tb.live(T:Tb t hs){i j:Nat}(h:t.place[i]?=some j):t.slot j=.live i:=by
 unfold slot
 rw[Br T.ris h]
 simp only[h,beq_self_eq_true,if_true]
theorem Tb.empty(T:Tb t hs){j:Nat}(h:¬Jt t j):t.slot j=.empty:=by
 unfold slot
 have h1:(t.place[below t.place j]?==some j)=false:=by
  rw[beq_eq_false_iff_ne]
  exact fun e=>h ⟨_,e⟩
 have h2:has t.dummies j=false:=by
  unfold has
  rw[T.dum]
  rfl
 simp only[h1,h2,dC,if_false]
theorem Tb.room(T:Tb t hs)(h:hs.length≤t.mask):∃e,e≤t.mask∧¬Jt t e:=by
 apply fX
 intro hn
 have:=Lg (t.mask+1) t.place.toList fun e he=>by
  have:Jt t e:=fX fun hc=>hn ⟨e,by omega,hc⟩
  obtain⟨i,hi⟩:=this
  exact cU (i:=i) (by simpa using hi)
 rw[cZ,T.size] at this
 omega
theorem SZ(T:Tb t hs){hashAt:Nat→Int}{h:Int}{p:Probe}{i:Nat}(fuel:Nat)(h1:t.place[i]?=some p.j)(h2:hashAt i≠h):kl t hashAt h (fuel+1) p=kl t hashAt h fuel (adv t.mask p):=by
 rw[kl,T.live h1]
 simp only[beq_iff_eq,if_neg h2,GW]
theorem Ju(T:Tb t hs){hashAt:Nat→Int}{h:Int}:∀(n fuel:Nat) (p:Probe),(∀k,k<n→∃i,t.place[i]?=some (advN t.mask k p).j∧hashAt i≠h)→kl t hashAt h (fuel+n) p=kl t hashAt h fuel (advN t.mask n p)
 |0,_,_,_=>rfl
 |n+1,fuel,p,hk=>by
  obtain⟨i,h1,h2⟩:=hk 0 (kK _)
  have h1:t.place[i]?=some p.j:=h1
  rw[←mZ,SZ T _ h1 h2]
  exact Ju T n fuel _ fun k hk'=>hk (k+1) (Nat.succ_lt_succ hk')
theorem Pg(T:Tb t hs){hashAt:Nat→Int}{h:Int}{p:Probe}{fuel:Nat}(h1:¬Jt t p.j):kl t hashAt h (fuel+1) p=some (.empty p.j p.dummy):=by
 rw[kl,T.empty h1]
theorem Vr(T:Tb t hs){hashAt:Nat→Int}{h:Int}{p:Probe}{fuel i:Nat}(h1:t.place[i]?=some p.j)(h2:hashAt i=h):kl t hashAt h (fuel+1) p=some (.candidate p.j i (adv t.mask p)):=by
 rw[kl,T.live h1]
 simp only[beq_iff_eq,if_pos h2,GW]
theorem least{S:Nat→Prop}:∀(n:Nat),S n→∃m,m≤n∧S m∧∀k,k<m→¬S k:=by
 intro n
 induction n using mf with
 |ind n ih=>
  intro hn
  by_cases h:∃k,k<n∧S k
  ·obtain⟨k,hk,sk⟩:=h
   obtain⟨m,h1,h2,h3⟩:=ih k hk sk
   exact⟨m,by omega,h2,h3⟩
  ·exact⟨n,cW _,hn,fun k hk sk=>h ⟨k,hk,sk⟩⟩
theorem Jv(T:Tb t hs)(hl:hs.length≤t.mask){p:Probe}(pr:Pr t.mask p)(hashAt:Nat→Int)(h:Int):∃n,(∀k,k<n→∃i,t.place[i]?=some (advN t.mask k p).j∧hashAt i≠h)∧
  ((¬Jt t (advN t.mask n p).j∧t.probe hashAt h p=some (.empty (advN t.mask n p).j p.dummy))∨∃i,t.place[i]?=some (advN t.mask n p).j∧hashAt i=h∧t.probe hashAt h p=some (.candidate (advN t.mask n p).j i (advN t.mask (n+1) p))):=by
 obtain⟨e,he,hne⟩:=T.room hl
 obtain⟨n0,hn0,en0⟩:=UT T.mask pr he
 obtain⟨n,hn,sn,ln⟩:=least (S:=fun n=>¬Jt t (advN t.mask n p).j∨∃i,t.place[i]?=some (advN t.mask n p).j∧hashAt i=h) n0 (.inl (by rw[en0];exact hne))
 have pre:∀k,k<n→∃i,t.place[i]?=some (advN t.mask k p).j∧hashAt i≠h:=fun k hk=>by
  have:=ln k hk
  have ho:Jt t (advN t.mask k p).j:=fX fun hc=>this (.inl hc)
  obtain⟨i,hi⟩:=ho
  exact⟨i,hi,fun z=>this (.inr ⟨i,hi,z⟩)⟩
 have hfuel:10*turns t.mask=(10*(t.mask+15)-n-1+1)+n:=by unfold turns;omega
 refine⟨n,pre,?_⟩
 unfold probe
 rw[hfuel,Ju T n _ p pre]
 rcases sn with sn| ⟨i,h1,h2⟩
 ·exact .inl ⟨sn,by rw[Pg T sn,Dq]⟩
 ·exact .inr ⟨i,h1,h2,by rw[Vr T h1 h2,Hv]⟩
theorem Tb.put(T:Tb t hs){h:Int}{n:Nat}(hfree:¬Jt t (advN t.mask n (start t.mask h)).j)(hway:∀k,k<n→Jt t (advN t.mask k (start t.mask h)).j):
  Tb (t.put (advN t.mask n (start t.mask h)).j).1 (hs.take (t.put (advN t.mask n (start t.mask h)).j).2++h::hs.drop (t.put (advN t.mask n (start t.mask h)).j).2)∧(t.put (advN t.mask n (start t.mask h)).j).2≤hs.length∧
   (t.put (advN t.mask n (start t.mask h)).j).1.mask=t.mask∧(t.put (advN t.mask n (start t.mask h)).j).1.plain=t.plain∧(t.put (advN t.mask n (start t.mask h)).j).1.led=t.led∧(t.put (advN t.mask n (start t.mask h)).j).1.moves=t.moves:=by
 have hj:(advN t.mask n (start t.mask h)).j≤t.mask:=(Pr.start t.mask h).advN.j
 generalize hJ:(advN t.mask n (start t.mask h)).j=J at*
 have hd:has t.dummies J=false:=by
  unfold has
  rw[T.dum]
  rfl
 have hnot:∀i:Nat,t.place[i]?≠some J:=fun i e=>hfree ⟨i,e⟩
 have hb:=(Cp (j:=J) T.ris).1
 have e1:(t.put J).1={t with place:=gK t.place (below t.place J) J}:=by
  unfold fc.put
  simp only[hd,dC,if_false]
 have e2:(t.put J).2=below t.place J:=rfl
 rw[e1,e2]
 have ix:=getElem?_insertAt t.place (below t.place J) J hb
 have hl:(hs.take (below t.place J)).length=below t.place J:=by rw[dI,←T.size];omega
 have ih:∀i:Nat,(hs.take (below t.place J)++h::hs.drop (below t.place J))[i]?=if i<below t.place J then hs[i]? else if i=below t.place J then some h else hs[i-1]?:=fun i=>by
  by_cases h1:i<below t.place J
  ·rw[if_pos h1,dM (by omega),iM h1]
  ·rw[if_neg h1,dB (by omega),hl]
   by_cases h2:i=below t.place J
   ·subst h2;simp
   ·rw[if_neg h2,show i-below t.place J=(i-below t.place J-1)+1 by omega,gz,fD]
    rw[show below t.place J+(i-below t.place J-1)=i-1 by omega]
 have occ:∀x,Jt t x→Jt {t with place:=gK t.place (below t.place J) J} x:=fun x ⟨i,hi⟩=>by
  by_cases h1:i<below t.place J
  ·exact⟨i,by show(gK t.place (below t.place J) J)[i]?=some x;rw[ix,if_pos h1];exact hi⟩
  ·exact⟨i+1,by show(gK t.place (below t.place J) J)[i+1]?=some x;rw[ix,if_neg (by omega),if_neg (by omega)];exact hi⟩
 refine⟨⟨T.mask,T.dum,Lh T.ris hnot,fun i j e=>?_,?_,fun i j h' e eh=>?_⟩,by rw[←T.size];exact hb,rfl,rfl,rfl,rfl⟩
 ·have e:(gK t.place (below t.place J) J)[i]?=some j:=e
  rw[ix] at e
  by_cases h1:i<below t.place J
  ·rw[if_pos h1] at e;exact T.le i j e
  ·rw[if_neg h1] at e
   by_cases h2:i=below t.place J
   ·rw[if_pos h2] at e;cases e;exact hj
   ·rw[if_neg h2] at e;exact T.le _ j e
 ·show(gK t.place (below t.place J) J).size=_
  rw[Dk _ _ _ hb,T.size]
  have hb':below t.place J≤hs.length:=by rw[←T.size];exact hb
  rw[dh,hl,c9,gO]
  omega
 ·have e:(gK t.place (below t.place J) J)[i]?=some j:=e
  rw[ix] at e
  rw[ih] at eh
  by_cases h1:i<below t.place J
  ·rw[if_pos h1] at e eh
   obtain⟨k,ek,wk⟩:=T.fnd i j h' e eh
   exact⟨k,ek,fun k' hk=>occ _ (wk k' hk)⟩
  ·rw[if_neg h1] at e eh
   by_cases h2:i=below t.place J
   ·rw[if_pos h2] at e eh
    cases e;cases eh
    exact⟨n,hJ,fun k hk=>occ _ (hway k hk)⟩
   ·rw[if_neg h2] at e eh
    obtain⟨k,ek,wk⟩:=T.fnd _ j h' e eh
    exact⟨k,ek,fun k' hk=>occ _ (wk k' hk)⟩
theorem Tb.fresh(f mv:Nat)(led:Bool):Tb (fc.fresh f mv led) []:=by
 refine⟨.inl rfl,rfl,hV,fun i j e=>?_,rfl,fun i j h e=>?_⟩
 ·have e:(#[]:Array Nat)[i]?=some j:=e
  simp at e
 ·have e:(#[]:Array Nat)[i]?=some j:=e
  simp at e
end
end StT
namespace StT
local macro_rules | `(tactic| omega) => `(tactic| first | lia | omega)
open PySem PySem.SetTable
structure LC(m:Nat)(owner:Array (Option Nat))(hs:List Int):Prop where
 size:owner.size=m+1
 put:∀(r:Nat) (h:Int),hs[r]?=some h→∃j,j≤m∧owner[j]?=some (some r)∧∃n,(advN m n (start m h)).j=j∧∀k,k<n→∃r',owner[(advN m k (start m h)).j]?=some (some r')
 lt:∀j r:Nat,owner[j]?=some (some r)→r<hs.length
 inj:∀j j' r:Nat,owner[j]?=some (some r)→owner[j']?=some (some r)→j=j'
section
variable{m:Nat}{owner:Array (Option Nat)}{hs:List Int}
theorem Iq(hz:owner.size=m+1){x:Nat}(hx:x≤m):owner.getD x (some 0)=owner[x]'(by omega)∧owner[x]?=some (owner[x]'(by omega)):=by
 have hx':x<owner.size:=by omega
 exact⟨by simp[lj,hx'],by simp[hx']⟩
theorem UU(hz:owner.size=m+1){x:Nat}(hx:x≤m)(h:(owner.getD x (some 0)).isNone=false):∃r,owner[x]?=some (some r):=by
 obtain⟨h1,h2⟩:=Iq hz hx
 rw[h1] at h
 cases e:owner[x]'(by omega) with
 |none=>rw[e] at h;cases h
 |some r=>exact⟨r,by rw[h2,e]⟩
theorem Sa(hz:owner.size=m+1){x:Nat}(hx:x≤m)(h:(owner.getD x (some 0)).isNone=true):owner[x]?=some none:=by
 obtain⟨h1,h2⟩:=Iq hz hx
 rw[h1] at h
 cases e:owner[x]'(by omega) with
 |none=>rw[h2,e]
 |some r=>rw[e] at h;cases h
theorem Lj{i q k:Nat}(hk:k≤jm m i-i):(advN m k (st m (i,q) none)).j=i+k:=by
 rw[Im m k _ hk]
 rfl
theorem Hw(m i:Nat):i≤jm m i:=by
 unfold jm
 split<;>omega
theorem Hx(hz:owner.size=m+1){j:Nat}:∀(fuel i q:Nat),i≤m→layClean.free m owner fuel i q=some j→
  ∃n,(advN m n (st m (i,q) none)).j=j∧(∀k,k<n→∃r,owner[(advN m k (st m (i,q) none)).j]?=some (some r))∧owner[j]?=some none∧j≤m
 |0,i,q,_,e=>by simp[layClean.free] at e
 |fuel+1,i,q,hi,e=>by
  have hr:=Eu m i hi
  have hge:=Hw m i
  rw[layClean.free] at e
  cases hf:(dN (jm m i+1-i)).find? fun k=> (owner.getD (i+k) (some 0)).isNone with
  |some k=>
   rw[hf] at e
   cases e
   have hk1:(owner.getD (i+k) (some 0)).isNone=true:=by simpa using List.find?_some hf
   have hkm:k<jm m i+1-i:=e8.mp (List.mem_of_find?_eq_some hf)
   refine⟨k,Lj (by omega),fun k' hk'=>?_,Sa hz (by omega) hk1,by omega⟩
   rw[Lj (by omega)]
   refine UU hz (by omega) ?_
   have:=List.find?_range_eq_some.mp hf
   have h3:=this.2.2 k' hk'
   simpa using h3
  |none=>
   rw[hf] at e
   have hl:(leap m i q).1≤m:=Ga m 1 (i,q) hi
   obtain⟨n,h1,h2,h3⟩:=Hx hz fuel _ _ hl e
   have all:∀k,k≤jm m i-i→∃r,owner[(advN m k (st m (i,q) none)).j]?=some (some r):=fun k hk=>by
    rw[Lj hk]
    refine UU hz (by omega) ?_
    have:=List.find?_eq_none.mp hf k (e8.mpr (by omega))
    exact Bool.eq_false_iff.mpr this
   have hleap:advN m (jm m i-i+1) (st m (i,q) none)=st m (leap m i q) none:=GZ m (st m (i,q) none)
   refine⟨(jm m i-i+1)+n,?_,fun k hk=>?_,h3⟩
   ·rw[Bt,hleap]
    exact h1
   ·by_cases hk':k≤jm m i-i
    ·exact all k hk'
    ·have e2:k=(jm m i-i+1)+(k- (jm m i-i+1)):=by omega
     rw[e2,Bt,hleap]
     exact h2 _ (by omega)
theorem Hy(hz:owner.size=m+1){e:Nat}(he:owner[e]?=some none)(hem:e≤m):∀(fuel L i q:Nat),i≤m→L<fuel→(Li m L (i,q)).1=e→layClean.free m owner fuel i q≠none
 |0,L,_,_,_,h,_=>absurd h (jF _)
 |fuel+1,L,i,q,hi,hL,eL=>by
  rw[layClean.free]
  have hge:=Hw m i
  cases hf:(dN (jm m i+1-i)).find? fun k=> (owner.getD (i+k) (some 0)).isNone with
  |some k=>simp
  |none=>
   cases L with
   |zero=>
    have eL:i=e:=eL
    subst eL
    have:=List.find?_eq_none.mp hf 0 (e8.mpr (by omega))
    obtain⟨h1,h2⟩:=Iq hz hem
    rw[he] at h2
    have h2:=dQ.inj h2
    rw[Nat.add_zero,h1,←h2] at this
    exact absurd rfl this
   |succ L=>
    exact Hy hz he hem fuel L _ _ (Ga m 1 (i,q) hi) (by omega) eL
def EN(m:Nat)(acc:Option (Array (Option Nat)×Nat))(h:Int):Option (Array (Option Nat)×Nat):=do
 let(owner,k)←acc
 let j←layClean.free m owner (turns m) (bits h%(m+1)) (bits h)
 pure (owner.setIfInBounds j (some k),k+1)
theorem Jw(m:Nat)(hs:Array Int):layClean m hs=(hs.toList.foldl (EN m) (some (mi (m+1) none,0))).map (·.1):=by
 unfold layClean
 rw[Array.foldl_toList]
 rfl
theorem LC.room(c:LC m owner hs)(h:hs.length≤m):∃e,e≤m∧owner[e]?=some none:=by
 apply fX
 intro hn
 have all:∀e,e≤m→∃r,owner[e]?=some (some r):=fun e he=>by
  have hz:=c.size
  cases q:owner[e]'(by omega) with
  |none=>exact absurd ⟨e,he,by rw[←q];simp[show e<owner.size by omega]⟩ hn
  |some r=>exact⟨r,by rw[←q];simp[show e<owner.size by omega]⟩
 have hf:∀e,∃r,e≤m→owner[e]?=some (some r):=fun e=>by
  by_cases he:e≤m
  ·obtain⟨r,hr⟩:=all e he;exact⟨r,fun _=>hr⟩
  ·exact⟨0,fun z=>absurd z he⟩
 obtain⟨f,hf⟩:=Classical.axiomOfChoice hf
 have hl:=Bn hs.length ((dN (m+1)).map f) (by
  refine lG f (R:=fun a b=>a≠b∧a≤m∧b≤m) (fun a b hab e=>?_) ?_
  ·have h1:=hf a hab.2.1
   have h2:=hf b hab.2.2
   rw[e] at h1
   exact hab.1 (c.inj a b _ h1 h2)
  ·refine fI (fun{a b} ha hb h=> ⟨dF h,?_,?_⟩) (jX (n:=m+1))
   ·have:=e8.mp ha;omega
   ·have:=e8.mp hb;omega) (fun x hx=>by
  obtain⟨e,he,rfl⟩:=df.mp hx
  exact c.lt e _ (hf e (by have:=e8.mp he;omega)))
 rw[b8,iI] at hl
 omega
theorem LC.step(hm:Bu m)(c:LC m owner hs)(hl:hs.length≤m)(h:Int):∃o',EN m (some (owner,hs.length)) h=some (o',hs.length+1)∧LC m o' (hs++[h]):=by
 obtain⟨e,he,hne⟩:=c.room hl
 have hb:bits h%(m+1)≤m:=by have:=nj (bits h) (show 0<m+1 by omega);omega
 obtain⟨L,hL,eL⟩:=US hm (x:=(bits h%(m+1),bits h)) hb (Mr h) he
 have hs':=Hy c.size hne he (turns m) L _ _ hb (by unfold turns;omega) eL
 cases hf:layClean.free m owner (turns m) (bits h%(m+1)) (bits h) with
 |none=>exact absurd hf hs'
 |some j=>
  obtain⟨n,h1,h2,h3,h4⟩:=Hx c.size _ _ _ hb hf
  have hj:j<owner.size:=by rw[c.size];omega
  refine⟨owner.setIfInBounds j (some hs.length),?_,?_⟩
  ·unfold EN
   show(layClean.free m owner (turns m) (bits h%(m+1)) (bits h)>>=_)=_
   rw[hf]
   rfl
  ·have at_:∀x:Nat,(owner.setIfInBounds j (some hs.length))[x]?=if x=j then some (some hs.length) else owner[x]?:=fun x=>by
    rw[Array.getElem?_setIfInBounds]
    by_cases hx:x=j
    ·subst hx;simp[hj]
    ·rw[if_neg (Ne.symm hx),if_neg hx]
   have occ:∀x r:Nat,owner[x]?=some (some r)→∃r',(owner.setIfInBounds j (some hs.length))[x]?=some (some r'):=fun x r hr=>by
    rw[at_]
    by_cases hx:x=j
    ·exact⟨_,if_pos hx⟩
    ·exact⟨r,by rw[if_neg hx];exact hr⟩
   refine⟨by simpa using c.size,fun r h' e'=>?_,fun x r hr=>?_,fun x y r hx hy=>?_⟩
   ·by_cases hr:r<hs.length
    ·rw[dM hr] at e'
     obtain⟨x,q1,q2,n',q3,q4⟩:=c.put r h' e'
     refine⟨x,q1,?_,n',q3,fun k hk=>?_⟩
     ·rw[at_,if_neg];exact q2
      rintro rfl
      rw[h3] at q2;cases q2
     ·obtain⟨r',hr'⟩:=q4 k hk
      exact occ _ r' hr'
    ·rw[dB (by omega)] at e'
     have hr0:r-hs.length=0:=by
      have:=(cw.mp e').1
      simp at this;omega
     rw[hr0] at e'
     cases e'
     have:r=hs.length:=by omega
     subst this
     refine⟨j,h4,by rw[at_,if_pos rfl],n,h1,fun k hk=>?_⟩
     obtain⟨r',hr'⟩:=h2 k hk
     exact occ _ r' hr'
   ·rw[at_] at hr
    rw[dh]
    by_cases hx:x=j
    ·rw[if_pos hx] at hr;cases hr;simp
    ·rw[if_neg hx] at hr
     have:=c.lt x r hr
     omega
   ·rw[at_] at hx hy
    by_cases h1:x=j
    ·rw[if_pos h1] at hx
     cases hx
     by_cases h2:y=j
     ·rw[h1,h2]
     ·rw[if_neg h2] at hy
      exact absurd (c.lt y _ hy) (fb _)
    ·rw[if_neg h1] at hx
     by_cases h2:y=j
     ·rw[if_pos h2] at hy
      cases hy
      exact absurd (c.lt x _ hx) (fb _)
     ·rw[if_neg h2] at hy
      exact c.inj x y r hx hy
theorem LC.steps(hm:Bu m):∀(rest hs:List Int) (owner:Array (Option Nat)),LC m owner hs→hs.length+rest.length≤m+1→∃o',rest.foldl (EN m) (some (owner,hs.length))=some (o',hs.length+rest.length)∧LC m o' (hs++rest)
 | [],hs,owner,c,_=> ⟨owner,rfl,by rw[eZ];exact c⟩
 |h::rest,hs,owner,c,hl=>by
  simp only[c9] at hl
  obtain⟨o1,e1,c1⟩:=c.step hm (by omega) h
  obtain⟨o2,e2,c2⟩:=LC.steps hm rest (hs++[h]) o1 c1 (by rw[dh];simp;omega)
  refine⟨o2,?_,by rw[fe] at c2;exact c2⟩
  rw[List.foldl_cons,e1]
  have:(hs++[h]).length=hs.length+1:=by simp
  rw[this] at e2
  rw[e2]
  simp only[c9]
  congr 2
  omega
theorem Jx(hm:Bu m)(hs:Array Int)(hl:hs.size≤m+1):∃owner,layClean m hs=some owner∧LC m owner hs.toList:=by
 have c0:LC m (mi (m+1) none) []:=⟨by simp,fun r h e=>by simp at e,fun j r e=>by
  rw[Array.getElem?_replicate] at e;split at e<;>simp at e,fun j j' r e=>by
  rw[Array.getElem?_replicate] at e;split at e<;>simp at e⟩
 obtain⟨o,e,c⟩:=LC.steps hm hs.toList [] _ c0 (by simpa using hl)
 refine⟨o,?_,by simpa using c⟩
 rw[Jw]
 have e':hs.toList.foldl (EN m) (some (mi (m+1) none,0))=_:=e
 rw[e']
 rfl
end
end StT
namespace StT
open PySem PySem.SetTable
section
variable{m:Nat}
theorem Sb(hm:Bu m)(hs:Array Int)(hl:hs.size≤m+1)(f mv:Nat)(led plain:Bool):∃t' order,laid m f mv led plain hs=some (t',order)∧t'.mask=m∧t'.led=led∧t'.plain=plain∧t'.moves=mv∧order.size=hs.size∧
  (∀i r:Nat,order[i]?=some r→r<hs.size)∧(∀i i' r:Nat,order[i]?=some r→order[i']?=some r→i=i')∧(∀r,r<hs.size→∃i:Nat,order[i]?=some r)∧Tb t' (order.toList.map fun r=>hs.getD r 0):=by
 obtain⟨owner,e,c⟩:=Jx hm hs hl
 generalize hlive:(dN (m+1)).filterMap (fun j=> (owner.getD j none).map (j,·))=live
 have mem:∀j r,(j,r)∈live↔j≤m∧owner[j]?=some (some r):=fun j r=>by
  rw[←hlive,gN]
  constructor
  ·rintro⟨x,hx,ex⟩
   have hx:=e8.mp hx
   have hxo:x<owner.size:=by rw[c.size];exact hx
   have eg:owner.getD x none=owner[x]:=by simp[lj,hxo]
   rw[eg] at ex
   cases q:owner[x] with
   |none=>rw[q] at ex;cases ex
   |some r'=>
    rw[q] at ex
    cases ex
    exact⟨by omega,by rw[←q];simp[hxo]⟩
  ·rintro⟨h1,h2⟩
   obtain⟨hxo,q⟩:=eO.mp h2
   refine⟨j,e8.mpr (by omega),?_⟩
   have eg:owner.getD j none=owner[j]:=by simp[lj,hxo]
   rw[eg,q]
   rfl
 have pw:live.Pairwise fun a b=>a.1<b.1:=by
  rw[←hlive,List.pairwise_filterMap]
  refine dD.imp (fun{a b} h x hx y hy=>?_) (jX (n:=m+1))
  cases q1:owner.getD a none with
  |none=>rw[q1] at hx;cases hx
  |some r1=>
   cases q2:owner.getD b none with
   |none=>rw[q2] at hy;cases hy
   |some r2=>
    rw[q1] at hx;rw[q2] at hy
    cases hx;cases hy
    exact h
 have lt:∀j r,(j,r)∈live→r<hs.size:=fun j r h=>by have:=c.lt j r ((mem j r).mp h).2;simpa using this
 have pwr:live.Pairwise fun a b=>a.2≠b.2:=by
  refine fI (fun{a b} ha hb h e=>?_) pw
  obtain⟨a1,a2⟩:=a
  obtain⟨b1,b2⟩:=b
  have h1:=(mem _ _).mp ha
  have h2:=(mem _ _).mp hb
  have e:a2=b2:=e
  subst e
  have:=c.inj _ _ _ h1.2 h2.2
  have h:a1<b1:=h
  omega
 have nd:(live.map (·.2)).Nodup:=lG _ (fun _ _ h=>h) pwr
 have all:∀r,r<hs.size→∃j,(j,r)∈live:=fun r hr=>by
  obtain⟨j,h1,h2,_⟩:=c.put r (hs[r]) (by simp[hr])
  exact⟨j,(mem j r).mpr ⟨h1,h2⟩⟩
 have len:live.length=hs.size:=by
  apply Nat.le_antisymm
  ·have:=Bn hs.size (live.map (·.2)) nd fun x hx=>by
    obtain⟨⟨j,r⟩,h1,rfl⟩:=df.mp hx
    exact lt j r h1
   simpa using this
  ·have:=Lg hs.size (live.map (·.2)) fun r hr=>by
    obtain⟨j,hj⟩:=all r hr
    exact df.mpr ⟨_,hj,rfl⟩
   simpa using this
 refine⟨{mask:=m,place:=(live.map (·.1)).toArray,dummies:=#[],finger:=f,led:=led,moves:=mv,plain:=plain},(live.map (·.2)).toArray,?_,rfl,rfl,rfl,rfl,by simpa using len,fun i r h=>?_,fun i i' r h h'=>?_,fun r hr=>?_,?_⟩
 ·unfold laid
  rw[e]
  show some _=some _
  rw[hlive]
 ·have h:(live.map (·.2))[i]?=some r:=by simpa using h
  rw[cg] at h
  cases q:live[i]? with
  |none=>rw[q] at h;cases h
  |some x=>rw[q] at h;cases h;exact lt x.1 x.2 (cU q)
 ·have h:(live.map (·.2))[i]?=some r:=by simpa using h
  have h':(live.map (·.2))[i']?=some r:=by simpa using h'
  obtain⟨l1,e1⟩:=cw.mp h
  obtain⟨l2,e2⟩:=cw.mp h'
  rcases gc i i' with hlt|heq|hgt
  ·exact absurd (e1.trans e2.symm) (dU.mp nd i i' l1 l2 hlt)
  ·exact heq
  ·exact absurd (e2.trans e1.symm) (dU.mp nd i' i l2 l1 hgt)
 ·obtain⟨j,hj⟩:=all r hr
  obtain⟨i,hi⟩:=eF hj
  exact⟨i,by simp[hi]⟩
 ·have at_:∀i j:Nat,(live.map (·.1)).toArray[i]?=some j→∃r,live[i]?=some (j,r):=fun i j h=>by
   have h:(live.map (·.1))[i]?=some j:=by simpa using h
   rw[cg] at h
   cases q:live[i]? with
   |none=>rw[q] at h;cases h
   |some x=>
    rw[q] at h
    cases h
    exact⟨x.2,rfl⟩
  refine⟨hm,rfl,?_,fun i j h=>?_,by simp,fun i j h e1 e2=>?_⟩
  ·show(live.map (·.1)).toArray.toList.Pairwise (· < ·)
   exact lG _ (fun _ _ h=>h) pw
  ·obtain⟨r,hr⟩:=at_ i j h
   exact((mem j r).mp (cU hr)).1
  ·obtain⟨r,hr⟩:=at_ i j e1
   have hrlt:=lt j r (cU hr)
   have e2:((live.map (·.2)).map fun r=>hs.getD r 0)[i]?=some h:=by simpa using e2
   rw[cg,cg,hr] at e2
   have e2:hs.getD r 0=h:=dQ.inj e2
   have eh:hs.toList[r]?=some h:=by
    rw[←e2]
    simp[lj,hrlt]
   obtain⟨j2,q1,q2,n,q3,q4⟩:=c.put r h eh
   have ej:=c.inj j2 j r q2 ((mem j r).mp (cU hr)).2
   subst ej
   refine⟨n,q3,fun k hk=>?_⟩
   obtain⟨r',hr'⟩:=q4 k hk
   have hk':(advN m k (start m h)).j≤m:=(Pr.start m h).advN.j
   obtain⟨i',hi'⟩:=eF ((mem _ r').mpr ⟨hk',hr'⟩)
   refine⟨i',?_⟩
   show(live.map (·.1)).toArray[i']?=_
   simp[hi']
theorem OB{n:Nat}(h:Bu m)(h1:n*5<m*3)(h2:m*3≤(n+1)*5)(h3:n<300):Bu (mJ (grown (n+1))-1)∧n+1≤mJ (grown (n+1))-1∧(n+1)*5< (mJ (grown (n+1))-1)*3∧mJ (grown (n+1))≤512:=by
 rcases h with rfl|rfl|rfl|rfl
 ·have:n=4:=by omega
  subst this
  refine⟨.inr (.inl (by decide)),by decide,by decide,by decide⟩
 ·have:n=18:=by omega
  subst this
  refine⟨.inr (.inr (.inl (by decide))),by decide,by decide,by decide⟩
 ·have:n=76:=by omega
  subst this
  refine⟨.inr (.inr (.inr (by decide))),by decide,by decide,by decide⟩
 ·omega
theorem Cq{α:Type}(es:Array α):∀(l:List Nat),(∀r∈l,r<es.size)→∀i:Nat,(l.filterMap fun r=>es[r]?)[i]?=(l[i]?).bind fun r=>es[r]?
 | [],_,i=>by simp
 |r::l,h,i=>by
  have hr:=h r dw
  have e:es[r]?=some es[r]:=by simp[hr]
  rw[fL,e]
  cases i with
  |zero=>simp
  |succ i=>
   simp only[gz]
   exact Cq es l (fun x hx=>h x (cX _ hx)) i
theorem CS{α:Type}(es:Array α):∀(l:List Nat),(∀r∈l,r<es.size)→(l.filterMap fun r=>es[r]?).length=l.length
 | [],_=>rfl
 |r::l,h=>by
  have hr:=h r dw
  have e:es[r]?=some es[r]:=by simp[hr]
  rw[fL,e]
  simp[CS es l (fun x hx=>h x (cX _ hx))]
end
open PyProof.Rows
section
variable{prog:Program}{w:World}{A:de}{E:Value→Shared→Prop}{s:Shared}
abbrev IK(prog:Program)(w:World)(h:Heap)(k:List Int)(a:Addr):Prop:=IsTupleKey (intKind prog w) h k a
abbrev tk(prog:Program)(w:World):HeapKind prog w (List Int):=tupleKind (intKind prog w)
theorem Ew{n:Int}{v:Value}(h:(intKind prog w).is n v=true):∃t,v=.int n t:=by
 cases v with
 |int m t=>
  have h2:(intKind prog w).is m (.int m t)=true:=intKind_is _ _ _ _
  have e:=(intKind prog w).inj _ _ _ h h2
  subst e
  exact⟨t,rfl⟩
 |_=>exact absurd h (by simp[intKind,Value.isInt])
theorem Gc{ks:List Int}{vs:List Value}(h:ItemsAre (intKind prog w) ks vs):∀v∈vs,∃n t,v=.int n t:=by
 induction h with
 |nil=>intro v hv;simp at hv
 |cons h1 _ ih=>
  intro v hv
  rcases da.mp hv with rfl|hv
  ·obtain⟨t,e⟩:=Ew h1
   exact⟨_,t,e⟩
  ·exact ih v hv
theorem YM{k:List Int}{a:Addr}{Q:Bool→Shared→Prop}(hk:IK prog w s.heap k a)(h:Q true s):wpAny (model prog w) A (hashByValue 8 (.ref a)) Q E s:=by
 have hT:=hk.typeIs
 obtain⟨o,items,n,ho,_,hd,hi⟩:=hk
 have hints:=Gc hi
 unfold hashByValue
 refine a9 (wpAny_specialOf hT PySem.F.slot_tuple_hash.lookup ?_)
 dsimp only
 refine a9 (jP ho hd ?_)
 show wpAny _ _ ((forIn items _ _)>>=_) _ _ s
 rw[←Array.forIn_toList]
 refine a9 (lO _ (fun rest r s'=>r.1=none∧s'=s∧∀v∈rest,∃n t,v=jM n t) _ ?_ ?_ _ _ ⟨rfl,rfl,hints⟩)
 ·rintro v rest r s' ⟨hr,rfl,hall⟩
  obtain⟨n,t,rfl⟩:=hall v dw
  refine a9 (b9 ?_)
  simp only[jg,dC,if_false]
  exact b9 ⟨rfl,rfl,fun u hu'=>hall u (cX _ hu')⟩
 ·rintro⟨r1,r2⟩ s' ⟨hr,rfl,_⟩
  simp only at hr
  subst hr
  exact b9 h
theorem Ms{k:List Int}{a:Addr}{Q:Bool→Shared→Prop}(hk:IK prog w s.heap k a)(h:Q false s):wpAny (model prog w) A (lA 8 (.ref a)) Q E s:=by
 have hT:=hk.typeIs
 obtain⟨o,items,n,ho,hc,hd,hi⟩:=hk
 have hints:=Gc hi
 unfold lA
 refine a9 (wpAny_typeOf hT ?_)
 dsimp only
 rw[if_pos (by decide)]
 refine a9 (b9 ?_)
 simp only[jg,dC,if_false]
 refine a9 (jP ho hd ?_)
 show wpAny _ _ ((forIn items _ _)>>=_) _ _ s
 rw[←Array.forIn_toList]
 refine a9 (lO _ (fun rest r s'=>r.1=none∧s'=s∧∀v∈rest,∃n t,v=jM n t) _ ?_ ?_ _ _ ⟨rfl,rfl,hints⟩)
 ·rintro v rest r s' ⟨hr,rfl,hall⟩
  obtain⟨n,t,rfl⟩:=hall v dw
  unfold lA
  refine a9 (b9 ?_)
  simp only[dC,if_false]
  exact b9 ⟨rfl,rfl,fun u hu'=>hall u (cX _ hu')⟩
 ·rintro⟨r1,r2⟩ s' ⟨hr,rfl,_⟩
  simp only at hr
  subst hr
  exact b9 h
theorem Sd{k:List Int}{a:Addr}{Q:Bool→Shared→Prop}{l:List Value}(hk:IK prog w s.heap k a)(hl:∀v∈l,∃k' b,v=.ref b∧IK prog w s.heap k' b)(h:Q false s):wpAny (model prog w) A (searchCouldBeSeen (.ref a) l) Q E s:=by
 unfold searchCouldBeSeen
 refine a9 (lO _ (fun rest r s'=>r.1=none∧s'=s∧∀v∈rest,∃k' b,v=Value.ref b∧IK prog w s.heap k' b) _ ?_ ?_ _ _ ⟨rfl,rfl,hl⟩)
 ·rintro v rest r s' ⟨hr,rfl,hall⟩
  obtain⟨k',b,rfl,hb⟩:=hall v dw
  have go:∀u∈rest,∃k' b,u=Value.ref b∧IK prog w s'.heap k' b:=fun u hu'=>hall u (cX _ hu')
  dsimp only
  split
  ·exact b9 ⟨rfl,rfl,go⟩
  ·refine a9 (wpAny_eqIsQuiet_tuple hk ?_)
   simp only[jg,dC,if_false]
   refine a9 (wpAny_eqIsQuiet_tuple hb ?_)
   simp only[jg,dC,if_false]
   refine a9 (Ms hk ?_)
   simp only[dC,if_false]
   refine a9 (Ms hb ?_)
   simp only[dC,if_false]
   exact b9 ⟨rfl,rfl,go⟩
 ·rintro⟨r1,r2⟩ s' ⟨hr,rfl,_⟩
  simp only at hr
  subst hr
  exact b9 h
end
local macro_rules | `(tactic| omega) => `(tactic| first | lia | omega)
open PySem PySem.SetTable PyProof.Rows
section
variable{prog:Program}{w:World}{A:de}{E:Value→Shared→Prop}{s:Shared}
def OC(xs:List (List Int×Addr))(prog:Program)(w:World):List (Int×Value):=xs.map fun p=> ((tk prog w).hash p.1,Value.ref p.2)
structure SetD(prog:Program)(w:World)(h:Heap)(a:Addr)(xs:List (List Int×Addr))(o:Obj)(es:Array (Int×Value))(ep:Nat)(t:fc):Prop where
 get:h.get? a=some o
 ex:o.ExactSet
 dat:o.data=.set es ep t
 es:es.toList=OC xs prog w
 key:∀(i:Nat) (k:List Int) (x:Addr),xs[i]?=some (k,x)→IK prog w h k x
 nd:(xs.map (·.1)).Nodup
 tb:Tb t (xs.map fun p=> (tk prog w).hash p.1)
 pl:t.plain=true
 room:xs.length*5<t.mask*3
 led:t.led=!w.params.followText "set-order"
variable{a:Addr}{xs:List (List Int×Addr)}{o:Obj}{es:Array (Int×Value)}{ep:Nat}{t:fc}
theorem SetD.size(S:SetD prog w s.heap a xs o es ep t):es.size=xs.length:=by
 rw[←cZ,S.es];simp[OC]
theorem SetD.fits(S:SetD prog w s.heap a xs o es ep t):t.fits es.size=true:=by
 have h1:=S.tb.size
 have h2:=S.room
 have h3:t.fill=t.place.size:=by unfold mU;rw[S.tb.dum];rfl
 rw[b8] at h1
 unfold fc.fits
 rw[h3,S.size,h1]
 simp only[beq_self_eq_true,lN,decide_eq_true_eq]
 omega
theorem SetD.len(S:SetD prog w s.heap a xs o es ep t):(xs.map fun p=> (tk prog w).hash p.1).length≤t.mask:=by
 have:=S.room
 rw[b8];omega
theorem SetD.at(S:SetD prog w s.heap a xs o es ep t){i:Nat}{k:List Int}{x:Addr}(h:xs[i]?=some (k,x)):es[i]?=some ((tk prog w).hash k,.ref x):=by
 have:es[i]?=es.toList[i]?:=by simp
 rw[this,S.es,OC,cg,h]
 rfl
theorem SetD.of_at(S:SetD prog w s.heap a xs o es ep t){i:Nat}(h:i<xs.length):∃k x,xs[i]?=some (k,x):=⟨_,_,by simp[h];rfl⟩
abbrev Ft:Array (Int×Value)→Nat→Int:=PySem.W.hashAt
theorem SetD.hash(S:SetD prog w s.heap a xs o es ep t){i:Nat}{k:List Int}{x:Addr}(h:xs[i]?=some (k,x)):Ft es i=(tk prog w).hash k:=by
 show((es[i]?).map dX).getD 0=_
 rw[S.at h]
 rfl
theorem Jy(S:SetD prog w s.heap a xs o es ep t)(hu:A.units<cLine){k:List Int}{x:Addr}(hk:IK prog w s.heap k x){Q:SetFound→Shared→Prop}
  (hT:∀(i:Nat) (y:Addr),xs[i]?=some (k,y)→Q (.there none) s)
  (hF:(∀(i:Nat) (y:Addr),xs[i]?≠some (k,y))→∀n,¬Jt t (advN t.mask n (start t.mask ((tk prog w).hash k))).j→(∀c,c<n→Jt t (advN t.mask c (start t.mask ((tk prog w).hash k))).j)→Q (.free (advN t.mask n (start t.mask ((tk prog w).hash k))).j false) s):
  ∀(fuel c:Nat) (stand:Option Probe),stand.getD (t.probeStart ((tk prog w).hash k))=advN t.mask c (start t.mask ((tk prog w).hash k))→
   (∀c',c'<c→Jt t (advN t.mask c' (start t.mask ((tk prog w).hash k))).j∧∀(i:Nat) (y:Addr),t.place[i]?=some (advN t.mask c' (start t.mask ((tk prog w).hash k))).j→xs[i]?≠some (k,y))→
   (∃N,c≤N∧¬Jt t (advN t.mask N (start t.mask ((tk prog w).hash k))).j∧N-c<fuel)→
   wpAny (model prog w) A (setSearchFrom a (.ref x) ((tk prog w).hash k) true fuel stand) Q E s:=by
 intro fuel
 induction fuel with
 |zero=>rintro c stand _ _ ⟨N,_,_,h⟩;exact absurd h (jF _)
 |succ fuel ih=>
  rintro c stand hst hpre ⟨N,hcN,hN,hfu⟩
  have hsz:t.place.size=xs.length:=by have:=S.tb.size;rwa[b8] at this
  unfold setSearchFrom
  refine a9 (fO S.get S.dat S.fits ?_)
  dsimp only
  have hgw:t.gaveWay=false:=by unfold fc.gaveWay;rw[S.tb.odd];rfl
  rw[hgw]
  simp only[dC,if_false]
  obtain⟨n,hn,hstop⟩:=Jv S.tb S.len (p:=advN t.mask c (start t.mask ((tk prog w).hash k))) (Pr.start _ _).advN (Ft es) ((tk prog w).hash k)
  rw[hst]
  have hadd:∀m,advN t.mask m (advN t.mask c (start t.mask ((tk prog w).hash k)))=advN t.mask (c+m) (start t.mask ((tk prog w).hash k)):=fun m=> (Bt _ _ _ _).symm
  have pre2:∀c',c'<c+n→Jt t (advN t.mask c' (start t.mask ((tk prog w).hash k))).j∧∀(i:Nat) (y:Addr),t.place[i]?=some (advN t.mask c' (start t.mask ((tk prog w).hash k))).j→xs[i]?≠some (k,y):=fun c' hc'=>by
   by_cases hlt:c'<c
   ·exact hpre c' hlt
   ·obtain⟨i,h1,h2⟩:=hn (c'-c) (by omega)
    rw[hadd,show c+(c'-c)=c' by omega] at h1
    refine⟨⟨i,h1⟩,fun i' y h1' e=>?_⟩
    have:i'=i:=by
     rw[←Br S.tb.ris h1',←Br S.tb.ris h1]
    subst this
    exact h2 (S.hash e)
  obtain⟨met,hmet⟩:∃met,t.probe (Ft es) ((tk prog w).hash k) (advN t.mask c (start t.mask ((tk prog w).hash k)))=some met:=by
   rcases hstop with⟨_,hp⟩| ⟨_,_,_,hp⟩<;>exact⟨_,hp⟩
  split
  case h_2 heq=>exact absurd hmet (heq met)
  rename_i met' heq
  have heq:t.probe (Ft es) ((tk prog w).hash k) (advN t.mask c (start t.mask ((tk prog w).hash k)))=some met':=heq
  rcases hstop with⟨hf,hp⟩| ⟨i,h1,h2,hp⟩
  ·rw[hp] at heq
   cases heq
   dsimp only
   rw[Dq]
   show wpAny _ _ (pure _) _ _ s
   rw[hadd] at hf ⊢
   refine b9 (hF (fun i y e=>?_) (c+n) hf fun c' hc'=> (pre2 c' hc').1)
   have hi:i<xs.length:=(cw.mp e).1
   have hpl:t.place[i]?=some (t.place[i]'(by omega)):=by simp[show i<t.place.size by omega]
   obtain⟨n',e1,w1⟩:=S.tb.fnd i _ ((tk prog w).hash k) hpl (by rw[cg,e];rfl)
   by_cases hlt:n'<c+n
   ·exact(pre2 n' hlt).2 i y (by rw[e1];exact hpl) e
   ·by_cases heq:n'=c+n
    ·subst heq
     exact hf ⟨i,by rw[e1];exact hpl⟩
    ·exact hf (w1 (c+n) (by omega))
  ·rw[hp] at heq
   cases heq
   dsimp only
   rw[hadd] at h1
   have hi:i<xs.length:=by rw[←hsz];exact(eO.mp h1).1
   obtain⟨k',y,ek⟩:=S.of_at hi
   have hky:=S.key i k' y ek
   have seen:∀v,v∈(es.filter fun e=>e.1==(tk prog w).hash k).toList.map (·.2)→∃k' b,v=Value.ref b∧IK prog w s.heap k' b:=fun v hv=>by
    obtain⟨⟨h',v'⟩,hm,rfl⟩:=df.mp hv
    have hm:(h',v')∈es.toList:=by
     have:=hm
     simp only[Array.toList_filter] at this
     exact(eE.mp this).1
    rw[S.es,OC] at hm
    obtain⟨⟨k2,b⟩,hb,eb⟩:=df.mp hm
    cases eb
    obtain⟨j,hj⟩:=eF hb
    exact⟨k2,b,rfl,S.key j k2 b hj⟩
   cases hled:t.led with
   |true=>
    simp only[jg,dC,if_false]
    rw[S.at ek]
    dsimp only
    refine a9 (eC (wpAny_eqBool_tuple hu hky hk ?_))
    refine a9 (fO S.get S.dat S.fits ?_)
    dsimp only
    by_cases hkk:k'=k
    ·subst hkk
     rw[decide_eq_true rfl]
     exact b9 (hT i y ek)
    ·rw[decide_eq_false hkk]
     have hsm:t.sameMemory t.moves t.mask=some true:=by unfold fc.sameMemory;rw[if_pos (by simp)]
     rw[hsm]
     simp only[jZ,dC,if_false,if_true]
     rw[hadd,S.tb.live h1]
     dsimp only
     rw[S.at ek]
     dsimp only
     have hss:isSame (Value.ref y) (Value.ref y)=pure true:=by
      show(if(y==y)=true then _ else _)=_
      rw[if_pos (beq_self_eq_true y)]
     rw[hss]
     refine a9 (b9 ?_)
     simp only[if_true]
     refine a9 (b9 ?_)
     dsimp only
     rw[hadd]
     refine ih (c+n+1) _ rfl (fun c' hc'=>?_) ?_
     ·by_cases hlt:c'<c+n
      ·exact pre2 c' hlt
      ·have:c'=c+n:=by omega
       subst this
       refine⟨⟨i,h1⟩,fun i' y' h1' e=>?_⟩
       have:i'=i:=by
        rw[←Br S.tb.ris h1',←Br S.tb.ris h1]
       subst this
       rw[ek] at e
       exact hkk (congrArg dX (dQ.inj e))
     ·have hle:c+n<N:=by
       rcases gc (c+n) N with hlt|heq|hgt
       ·exact hlt
       ·exact absurd ⟨i,by rw[←heq];exact h1⟩ hN
       ·exact absurd (pre2 N hgt).1 hN
      exact⟨N,by omega,hN,by omega⟩
   |false=>
    simp only[mH,if_true]
    refine a9 (Sd hk seen ?_)
    simp only[dC,if_false]
    rw[S.at ek]
    dsimp only
    refine a9 (eC (wpAny_eqBool_tuple hu hky hk ?_))
    refine a9 (fO S.get S.dat S.fits ?_)
    dsimp only
    by_cases hkk:k'=k
    ·subst hkk
     rw[decide_eq_true rfl]
     exact b9 (hT i y ek)
    ·rw[decide_eq_false hkk]
     have hsm:t.sameMemory t.moves t.mask=some true:=by unfold fc.sameMemory;rw[if_pos (by simp)]
     rw[hsm]
     simp only[jZ,dC,if_false,if_true]
     rw[hadd,S.tb.live h1]
     dsimp only
     rw[S.at ek]
     dsimp only
     have hss:isSame (Value.ref y) (Value.ref y)=pure true:=by
      show(if(y==y)=true then _ else _)=_
      rw[if_pos (beq_self_eq_true y)]
     rw[hss]
     refine a9 (b9 ?_)
     simp only[if_true]
     refine a9 (b9 ?_)
     dsimp only
     rw[hadd]
     refine ih (c+n+1) _ rfl (fun c' hc'=>?_) ?_
     ·by_cases hlt:c'<c+n
      ·exact pre2 c' hlt
      ·have:c'=c+n:=by omega
       subst this
       refine⟨⟨i,h1⟩,fun i' y' h1' e=>?_⟩
       have:i'=i:=by
        rw[←Br S.tb.ris h1',←Br S.tb.ris h1]
       subst this
       rw[ek] at e
       exact hkk (congrArg dX (dQ.inj e))
     ·have hle:c+n<N:=by
       rcases gc (c+n) N with hlt|heq|hgt
       ·exact hlt
       ·exact absurd ⟨i,by rw[←heq];exact h1⟩ hN
       ·exact absurd (pre2 N hgt).1 hN
      exact⟨N,by omega,hN,by omega⟩
end
end StT
namespace StT
local macro_rules | `(tactic| omega) => `(tactic| first | lia | omega)
open PySem PySem.SetTable PyProof.Rows
section
variable{prog:Program}{w:World}{A:de}{E:Value→Shared→Prop}{s:Shared}
variable{a:Addr}{xs:List (List Int×Addr)}{o:Obj}{es:Array (Int×Value)}{ep:Nat}{t:fc}
def SetX(prog:Program)(w:World)(h:Heap)(a:Addr)(xs:List (List Int×Addr)):Prop:=∃o es ep t,SetD prog w h a xs o es ep t
theorem Ph{h:Heap}{k:List Int}{x:Addr}(hk:IK prog w h k x)(hg:h.get? a=some o)(he:o.ExactSet):x≠a:=by
 rintro rfl
 obtain⟨o',items,n,ho,hc,_⟩:=hk
 rw[hg] at ho
 cases ho
 rw[he.1] at hc
 exact absurd hc (by decide)
theorem Cr{h h':Heap}{k:List Int}{x:Addr}(hk:IK prog w h k x)(hs:∀u,h.get? x=some u→h'.get? x=some u):IK prog w h' k x:=by
 obtain⟨o',items,n,ho,hc,hd,hi⟩:=hk
 exact⟨o',items,n,hs _ ho,hc,hd,hi⟩
theorem Hz(hg:s.heap.get? a=some o)(hd:o.data=.set es ep t)(es':Array (Int×Value))(t':fc):(s.heap.update a (k9 es' t')).get? a=some {o with data:=.set es' (ep+1) t'}:=by
 have:=iz (k9 es' t') hg (by rw[putSet_of es' t' hd];rfl)
 rw[putSet_of es' t' hd] at this;exact this
theorem Lk:(OC xs prog w).length=xs.length:=by simp[OC]
theorem Pi{n:Nat}(hg:s.heap.get? a=some o)(he:o.ExactSet)(hd:o.data=.set es ep t)(hes:es.toList=OC xs prog w)(hkey:∀(i:Nat) (k:List Int) (x:Addr),xs[i]?=some (k,x)→IK prog w s.heap k x)
  (hnd:(xs.map (·.1)).Nodup) (htb:Tb t (xs.map fun p=> (tk prog w).hash p.1)) (hpl:t.plain=true) (hled:t.led=!w.params.followText "set-order") (hn:xs.length=n+1) (h1:n*5<t.mask*3) (h2:t.mask*3≤(n+1)*5) (h3:n<300) {Q:Unit→Shared→Prop}
  (h:∀h' xs',i8 a s.heap h'→SetX prog w h' a xs'→(∀p,p∈xs'↔p∈xs)→xs'.length=xs.length→Q () {s with heap:=h'}):wpAny (model prog w) A (setRelay a (grown (n+1))) Q E s:=by
 obtain⟨m1,m2,m3,m4⟩:=OB htb.mask h1 h2 h3
 have hsz:es.size=n+1:=by rw[←cZ,hes,Lk,hn]
 have hfill:t.fill=t.place.size:=by unfold mU;rw[htb.dum];rfl
 have hps:t.place.size=n+1:=by have:=htb.size;rw[b8,hn] at this;exact this
 have hlow:=htb.low
 have hfit:t.fits es.size=true:=by
  unfold fc.fits
  rw[hfill,hsz,hps]
  simp only[beq_self_eq_true,lN,decide_eq_true_eq]
  omega
 unfold setRelay
 refine a9 (fO hg hd hfit ?_)
 dsimp only
 rw[if_neg (by rw[eT];omega)]
 refine a9 ?_
 obtain⟨t',order,el,q1,q2,q3,q4,q5,q6,q7,q8,q9⟩:=Sb m1 (es.map (·.1)) (by rw[Array.size_map,hsz];omega) t.finger (t.movedTo (mJ (grown (n+1))-1)) t.led t.plain
 rw[Array.size_map] at q5 q6 q8
 have el':t.relaid (es.map (·.1)) (grown (n+1))=some (t',order):=el
 rw[el']
 have hfm:(order.filterMap (es[·]?)).toList=order.toList.filterMap fun r=>es[r]?:=by simp
 have hmem:∀r∈order.toList,r<es.size:=fun r hr=>by
  obtain⟨i,hi⟩:=eF hr
  exact q6 i r (by simpa using hi)
 have hes':(order.filterMap (es[·]?)).size=es.size:=by
  rw[←cZ,hfm,CS es _ hmem,cZ,q5]
 show wpAny _ _ (if((order.filterMap fun r=>es[r]?).size !=es.size)=true then _ else pure (order.filterMap fun r=>es[r]?,t')) _ _ s
 rw[if_neg (by rw[hes'];simp)]
 refine b9 ?_
 dsimp only
 refine wpAny_storeSet_of hg hd ?_ (by rw[hes',hsz,eT];omega)
 generalize hE:order.filterMap (es[·]?)=es' at*
 have hxs:∀r,r<es.size→∃p,xs[r]?=some p:=fun r hr=> ⟨_,by simp[show r<xs.length by rw[hn];omega];rfl⟩
 have hfx:(order.toList.filterMap fun r=>xs[r]?).length=es.size:=by
  have:=CS xs.toArray order.toList (fun r hr=>by rw[dj,hn];have:=hmem r hr;omega)
  simp only[List.getElem?_toArray] at this
  rw[this,cZ,q5]
 have at_:∀i:Nat,(order.toList.filterMap fun r=>xs[r]?)[i]?=(order.toList[i]?).bind fun r=>xs[r]?:=fun i=>by
  have:=Cq xs.toArray order.toList (fun r hr=>by rw[dj,hn];have:=hmem r hr;omega) i
  simpa only[List.getElem?_toArray] using this
 have mem:∀p,p∈(order.toList.filterMap fun r=>xs[r]?)↔p∈xs:=fun p=>by
  rw[gN]
  constructor
  ·rintro⟨r,_,e⟩;exact cU e
  ·intro hp
   obtain⟨r,hr⟩:=eF hp
   have hrl:r<es.size:=by rw[hsz,←hn];exact(cw.mp hr).1
   obtain⟨i,hi⟩:=q8 r hrl
   exact⟨r,cU (i:=i) (by simpa using hi),hr⟩
 have hesx:∀i:Nat,es[i]?=(xs[i]?).map fun p=> ((tk prog w).hash p.1,Value.ref p.2):=fun i=>by
  have:es[i]?=es.toList[i]?:=by simp
  rw[this,hes,OC,cg]
 refine h _ (order.toList.filterMap fun r=>xs[r]?) (kI ..) ⟨_,es',ep+1,t',⟨Hz hg hd es' t',he,rfl,?_,fun i k x e=>?_,?_,?_,?_,?_,?_⟩⟩ mem (by rw[hfx,hsz,hn])
 ·apply fv
  intro i
  rw[hfm,Cq es _ hmem,OC,cg,at_]
  cases order.toList[i]? with
  |none=>rfl
  |some r=>exact hesx r
 ·have hp:(k,x)∈xs:=(mem _).mp (cU e)
  obtain⟨r,hr⟩:=eF hp
  have ik:=hkey r k x hr
  exact Cr ik fun u hu=> ((kI s.heap a (k9 es' t')).2 x (Ph ik hg he)).trans hu
 ·rw[fT]
  refine dU.mpr fun i j hi hj hij e=>?_
  rw[b8] at hi hj
  have e1:=at_ i
  have e2:=at_ j
  rw[cc hi] at e1
  rw[cc hj] at e2
  rw[ke,ke] at e
  cases r1:order.toList[i]? with
  |none=>rw[r1] at e1;cases e1
  |some r=>
   cases r2:order.toList[j]? with
   |none=>rw[r2] at e2;cases e2
   |some r'=>
    rw[r1] at e1
    rw[r2] at e2
    have e1:xs[r]?=some _:=e1.symm
    have e2:xs[r']?=some _:=e2.symm
    obtain⟨l1,g1⟩:=cw.mp e1
    obtain⟨l2,g2⟩:=cw.mp e2
    have ee:(xs.map (·.1))[r]'(by simpa using l1)=(xs.map (·.1))[r']'(by simpa using l2):=by rw[ke,ke,g1,g2];exact e
    have nd:=fT.mp hnd
    have:r=r':=by
     rcases gc r r' with hlt|heq|hgt
     ·exact absurd ee (dU.mp nd r r' _ _ hlt)
     ·exact heq
     ·exact absurd ee.symm (dU.mp nd r' r _ _ hgt)
    subst this
    have:=q7 i j r (by simpa using r1) (by simpa using r2)
    omega
 ·have:(order.toList.filterMap fun r=>xs[r]?).map (fun p=> (tk prog w).hash p.1)=order.toList.map fun r=> (es.map (·.1)).getD r 0:=by
   apply fv
   intro i
   rw[cg,at_,cg]
   cases hr:order.toList[i]? with
   |none=>rfl
   |some r=>
    have hrl:=hmem r (cU hr)
    obtain⟨p,hp⟩:=hxs r hrl
    show(xs[r]?).map _=some ((es.map (·.1)).getD r 0)
    rw[hp]
    have e3:=hesx r
    rw[hp] at e3
    obtain⟨l,g⟩:=eO.mp e3
    simp[lj,hrl,g]
  rw[this]
  exact q9
 ·rw[q3];exact hpl
 ·rw[hfx,hsz,q1];exact m3
 ·rw[q2];exact hled
end
end StT
namespace StT
local macro_rules | `(tactic| omega) => `(tactic| first | lia | omega)
open PySem PySem.SetTable PyProof.Rows
section
variable{prog:Program}{w:World}{A:de}{E:Value→Shared→Prop}{s:Shared}
variable{a:Addr}{xs:List (List Int×Addr)}{o:Obj}{es:Array (Int×Value)}{ep:Nat}{t:fc}
theorem Vs(S:SetX prog w s.heap a xs)(hu:A.units<cLine){k:List Int}{x:Addr}(hk:IK prog w s.heap k x)(hl:xs.length<300){Q:Bool→Shared→Prop}
  (hT:∀y,(k,y)∈xs→Q false s)
  (hF:(∀y,(k,y)∉xs)→∀h' xs',i8 a s.heap h'→SetX prog w h' a xs'→(∀p,p∈xs'↔p∈xs∨p=(k,x))→xs'.length=xs.length+1→Q true {s with heap:=h'}):
  wpAny (model prog w) A (setAddHashed a (.ref x) ((tk prog w).hash k)) Q E s:=by
 obtain⟨o,es,ep,t,S⟩:=S
 unfold setAddHashed setAddHashedIn
 refine eC (a9 (fO S.get S.dat S.fits ?_))
 dsimp only
 have hbs:byScan (.ref x) es=false:=rfl
 rw[hbs]
 simp only[dC,if_false]
 obtain⟨e,he,hne⟩:=S.tb.room S.len
 obtain⟨N,hN,eN⟩:=UT S.tb.mask (Pr.start t.mask ((tk prog w).hash k)) he
 have hm511:t.mask≤511:=by rcases S.tb.mask with h|h|h|h<;>omega
 refine a9 (Jy S hu hk (fun i y e=>?_) (fun hno n hf hw=>?_) 100000 0 none (Pe t _) (fun c hc=>absurd hc (jF _)) ⟨N,eS _,by rw[eN];exact hne,by omega⟩)
 ·dsimp only
  exact b9 (hT y (cU e))
 ·dsimp only
  refine a9 (fO S.get S.dat S.fits ?_)
  dsimp only
  obtain⟨p1,p2,p3,p4,p5,p6⟩:=S.tb.put hf hw
  generalize hJ:(advN t.mask n (start t.mask ((tk prog w).hash k))).j=J at*
  generalize hput:t.put J=tp at*
  obtain⟨t1,q⟩:=tp
  dsimp only at p1 p2 p3 p4 p5 p6 ⊢
  rw[b8] at p2
  rw[p4,S.pl]
  simp only[if_true]
  refine a9 (YM hk ?_)
  simp only[if_true]
  refine a9 (wpAny_storeSet_of S.get S.dat ?_ (by
   rw[Dk _ _ _ (by rw[S.size];exact p2),S.size,eT];omega))
  have hes1:(gK es q ((tk prog w).hash k,.ref x)).toList=OC (xs.take q++(k,x)::xs.drop q) prog w:=by
   rw[BK,S.es]
   simp[OC]
  have hmem:∀p,p∈xs.take q++(k,x)::xs.drop q↔p∈xs∨p=(k,x):=fun p=>by
   rw[dt,da]
   constructor
   ·rintro(h|h|h)
    ·exact .inl (List.mem_of_mem_take h)
    ·exact .inr h
    ·exact .inl (List.mem_of_mem_drop h)
   ·rintro(h|h)
    ·rw[←fM q xs] at h
     rcases dt.mp h with h|h
     ·exact .inl h
     ·exact .inr (.inr h)
    ·exact .inr (.inl h)
  have hlen:(xs.take q++(k,x)::xs.drop q).length=xs.length+1:=by
   rw[dh,c9,dI,gO];omega
  have hnod:((xs.take q++(k,x)::xs.drop q).map (·.1)).Nodup:=by
   have hxs:(xs.take q).map (·.1)++(xs.drop q).map (·.1)=xs.map (·.1):=by rw[←dH,fM]
   have nd:=S.nd
   rw[←hxs] at nd
   rw[dH,dv]
   have hkn:k∉(xs.take q).map (·.1)++(xs.drop q).map (·.1):=by
    rw[hxs]
    intro hm
    obtain⟨⟨k',y⟩,hp,rfl⟩:=df.mp hm
    obtain⟨i,hi⟩:=eF hp
    exact hno i y hi
   rw[dt,not_or] at hkn
   obtain⟨n1,n2,n3⟩:=eY.mp nd
   refine eY.mpr ⟨n1,dO.mpr ⟨hkn.2,n2⟩,fun b hb c hc=>?_⟩
   rcases da.mp hc with rfl|hc
   ·rintro rfl;exact hkn.1 hb
   ·exact n3 b hb c hc
  have hsb:=kI s.heap a (k9 (gK es q ((tk prog w).hash k,.ref x)) t1)
  have hg1:=Hz (s:=s) S.get S.dat (gK es q ((tk prog w).hash k,.ref x)) t1
  have hkey1:∀(i:Nat) (k':List Int) (x':Addr),(xs.take q++(k,x)::xs.drop q)[i]?=some (k',x')→IK prog w (s.heap.update a (k9 (gK es q ((tk prog w).hash k,.ref x)) t1)) k' x':=fun i k' x' e=>by
   have ik:IK prog w s.heap k' x':=by
    rcases(hmem _).mp (cU e) with h|h
    ·obtain⟨j,hj⟩:=eF h
     exact S.key j k' x' hj
    ·cases h;exact hk
   exact Cr ik fun u hu=> (hsb.2 x' (Ph ik S.get S.ex)).trans hu
  have htb1:Tb t1 ((xs.take q++(k,x)::xs.drop q).map fun p=> (tk prog w).hash p.1):=by
   simpa using p1
  have hno':∀y,(k,y)∉xs:=fun y hy=>by
   obtain⟨i,hi⟩:=eF hy
   exact hno i y hi
  have hfill:t1.fill=xs.length+1:=by
   unfold mU
   rw[htb1.dum]
   have:=htb1.size
   rw[b8,hlen] at this
   rw[this];rfl
  have hroom:=S.room
  simp only[mH,lN]
  cases htf:t1.tooFull with
  |true=>
   simp only[if_true]
   have htf':t1.mask*3≤(xs.length+1)*5:=by
    unfold fc.tooFull at htf
    rw[hfill] at htf
    simpa using htf
   rw[S.size]
   refine a9 (Pi (s:={s with heap:=s.heap.update a (k9 (gK es q ((tk prog w).hash k,.ref x)) t1)}) hg1 S.ex rfl hes1 hkey1 hnod htb1 (by rw[p4];exact S.pl) (by rw[p5];exact S.led) hlen (by rw[p3];exact hroom) htf' hl fun h' xs' sb sx mm ll=>?_)
   refine b9 (hF hno' h' xs' (hsb.trans sb) sx (fun p=> (mm p).trans (hmem p)) (ll.trans hlen))
  |false=>
   simp only[dC,if_false]
   refine b9 (hF hno' _ _ hsb ⟨_,_,_,t1,hg1,S.ex,rfl,hes1,hkey1,hnod,htb1,by rw[p4];exact S.pl,?_,by rw[p5];exact S.led⟩ hmem hlen)
   unfold fc.tooFull at htf
   rw[hfill] at htf
   rw[hlen]
   simpa using htf
def Ir(ks:List (List Int×Addr))(xs:List (List Int×Addr)):Prop:=(∀p,p∈xs→p∈ks)∧(∀k y,(k,y)∈ks→∃y',(k,y')∈xs)∧xs.length≤ks.length
theorem SetX.keep'{h h':Heap}(S:SetX prog w h a xs)(ha:∀u,h.get? a=some u→h'.get? a=some u)(hk:∀k x,(k,x)∈xs→∀u,h.get? x=some u→h'.get? x=some u):SetX prog w h' a xs:=by
 obtain⟨o,es,ep,t,S⟩:=S
 exact⟨o,es,ep,t,ha _ S.get,S.ex,S.dat,S.es,fun i k x e=>Cr (S.key i k x e) (hk k x (cU e)),S.nd,S.tb,S.pl,S.room,S.led⟩
theorem Se{I l:Addr}{items:Array Value}{ps:List (List Int×Addr)}(hh:A.in1.handled=none)(hne:l≠I)(hI:a≠I)(hla:a≠l)(hps:items.toList=ps.map fun p=>Value.ref p.2)(hz:ps.length≤300)(hu:A.units+1<cLine)
  {R:ni→Shared→Prop}:∀(n i:Nat) (s:Shared) (xs:List (List Int×Addr)),n=ps.length-i→i≤ps.length→s.heap.IsListIter I l i→s.heap.IsList l items→(∀k x,(k,x)∈ps→IK prog w s.heap k x∧x≠I)→SetX prog w s.heap a xs→Ir (ps.take i) xs→
   (∀h' tk' xs',(∀b u,b≠a→b≠I→s.heap.get? b=some u→h'.get? b=some u)→SetX prog w h' a xs'→Ir ps xs'→R (.ok (.ret .none)) {s with heap:=h',toks:=tk'})→
   iD (model prog w) A (.builtin "set.update.loop" ⟨[.ref a,.ref I],[]⟩) R s:=by
 have W:=Walks.list (A:=A.in1) (prog:=prog) (w:=w) hh I l hne items
 have hsz:items.size=ps.length:=by rw[←cZ,hps,b8]
 intro n
 induction n with
 |zero=>
  intro i s xs hn hi hit hl hp hX hS hR
  have:i=ps.length:=by omega
  subst this
  rw[fj] at hS
  refine ic PyProof.Rows.F.entry_set_update_loop ?_
  rw[gX fZ _]
  show wpAny _ A.in1 (kT (.ref I)>>=_) _ _ s
  refine a9 (wpAny_pyNext_list_end hh hit hl (by simp[hsz]) fun h' hk=>?_)
  show wpAny _ A.in1 (ret jn) _ _ _
  refine b9 (hR h' s.toks xs (fun b u _ hb e=>hk b u hb e) (hX.keep' (fun u e=>hk a u hI e) fun k x hx u e=>hk x u (hp k x (hS.1 _ hx)).2 e) hS)
 |succ n ih=>
  intro i s xs hn hi hit hl hp hX hS hR
  have hlt:i<ps.length:=by omega
  obtain⟨⟨k,x⟩,hkx⟩:∃p,ps[i]?=some p:=⟨_,by simp[hlt];rfl⟩
  have hitem:items[i]?=some (.ref x):=by
   have:items[i]?=items.toList[i]?:=by simp
   rw[this,hps,cg,hkx];rfl
  refine ic PyProof.Rows.F.entry_set_update_loop ?_
  rw[gX fZ _]
  show wpAny _ A.in1 (kT (.ref I)>>=_) _ _ s
  refine a9 (wpAny_pyNext_list_item hit hl hitem fun h1 hit1 sb1=>?_)
  have hk1:∀b u,b≠I→s.heap.get? b=some u→h1.get? b=some u:=fun b u hb e=> (sb1.2 b hb).trans e
  have kx:=hp k x (cU hkx)
  have hX1:SetX prog w h1 a xs:=hX.keep' (fun u e=>hk1 a u hI e) fun k x hx u e=>hk1 x u (hp k x (List.mem_of_mem_take (hS.1 _ hx))).2 e
  have ik1:∀k x,(k,x)∈ps→IK prog w h1 k x∧x≠I:=fun k x hx=> ⟨Cr (hp k x hx).1 fun u e=>hk1 x u (hp k x hx).2 e,(hp k x hx).2⟩
  have hl1:h1.IsList l items:=hl.at fun o e=>hk1 l o hne e
  show wpAny _ A.in1 (holding [Value.ref x] (setAdd a (.ref x))>>=_) _ _ _
  refine a9 (eC ?_)
  unfold setAdd
  refine eC ?_
  refine a9 ((tk prog w).pyHash (s:={s with heap:=h1}) hu (ik1 k x (cU hkx)).1 ?_)
  have htake:ps.take (i+1)=ps.take i++[(k,x)]:=by rw[fu,hkx];rfl
  have hlen:xs.length≤i:=by have:=hS.2.2;rw[dI] at this;omega
  refine Vs (s:={s with heap:=h1,toks:=s.toks+(tk prog w).draws k}) hX1 hu (ik1 k x (cU hkx)).1 (by omega) (fun y hy=>?_) (fun hno h2 xs' sb sx mm ll=>?_)
  ·refine b9 ⟨jc fZ _,ih (i+1) _ xs (by omega) (by omega) hit1 hl1 ik1 hX1 ⟨fun p hp'=>by rw[htake];exact eU _ (hS.1 p hp'),fun k' y' hm=>?_,by rw[htake,dh];have:=hS.2.2;omega⟩ fun h' tk' xs' kp sx so=>hR h' tk' xs' (fun b u h1' h2' e=>kp b u h1' h2' (hk1 b u h2' e)) sx so⟩
   rw[htake] at hm
   rcases dt.mp hm with hm|hm
   ·exact hS.2.1 k' y' hm
   ·cases cq.mp hm
    exact⟨y,hy⟩
  ·have keep2:∀b u,b≠a→h1.get? b=some u→h2.get? b=some u:=fun b u hb e=> (sb.2 b hb).trans e
   have nea:∀k x,(k,x)∈ps→x≠a:=fun k x hx=>by
    obtain⟨o,es,ep,t,S⟩:=hX1
    exact Ph (ik1 k x hx).1 S.get S.ex
   refine b9 ⟨jc fZ _,ih (i+1) {s with heap:=h2,toks:=s.toks+(tk prog w).draws k} xs' (by omega) (by omega) (hit1.at fun o e=>keep2 I o (Ne.symm hI) e) (hl1.at fun o e=>keep2 l o (Ne.symm hla) e)
    (fun k x hx=> ⟨Cr (ik1 k x hx).1 fun u e=>keep2 x u (nea k x hx) e,(hp k x hx).2⟩) sx ⟨fun p hp'=>?_,fun k' y' hm=>?_,by rw[htake,dh,ll];have:=hS.2.2;simp;omega⟩ fun h' tk' xs2 kp sx so=>hR h' tk' xs2 (fun b u h1' h2' e=>kp b u h1' h2' (keep2 b u h1' (hk1 b u h2' e))) sx so⟩
   ·rw[htake]
    rcases(mm p).mp hp' with h|h
    ·exact eU _ (hS.1 p h)
    ·exact eG _ (cq.mpr h)
   ·rw[htake] at hm
    rcases dt.mp hm with hm|hm
    ·obtain⟨y2,hy2⟩:=hS.2.1 k' y' hm
     exact⟨y2,(mm _).mpr (.inl hy2)⟩
    ·cases cq.mp hm
     exact⟨x,(mm _).mpr (.inr rfl)⟩
end
end StT
namespace StT
open PySem PySem.SetTable PyProof.Rows
theorem Al:Slot "set_iterator" "__next__" "set_iterator.__next__" :=
 .of (owner:="set_iterator") (n:="__next__") (by rw[typeLookup_type,builtinLookup_eq_fast];kernel_rfl) (by decide+kernel) (by decide+kernel) (by decide+kernel)
  (by first|exact .inl (by decide+kernel)|exact .inr (by decide+kernel)) (by rw[my];kernel_rfl)
theorem DH:Slot "set_iterator" "__iter__" "set_iterator.__iter__" :=
 .of (owner:="set_iterator") (n:="__iter__") (by rw[typeLookup_type,builtinLookup_eq_fast];kernel_rfl) (by decide+kernel) (by decide+kernel) (by decide+kernel)
  (by first|exact .inl (by decide+kernel)|exact .inr (by decide+kernel)) (by rw[my];kernel_rfl)
theorem Ce:entryFor table "set_iterator.__next__" =some Builtin.«set_iterator.__next__»:=entryFor_of_tree (by kernel_rfl)
theorem Ex:entryFor table "set_iterator.__iter__" =some Builtin.«dict_keyiterator.__iter__»:=
 entryFor_alias (id':="dict_keyiterator.__iter__") (by kernel_rfl) (by first|rfl|decide+kernel| (unfold String.splitOn;simp+decide [String.splitOnAux])) (by decide+kernel) (by kernel_rfl)
theorem Ge:entryFor table "set.__iter__" =some Builtin.«frozenset.__iter__»:=
 entryFor_alias (id':="frozenset.__iter__") (by kernel_rfl) (by first|rfl|decide+kernel| (unfold String.splitOn;simp+decide [String.splitOnAux])) (by decide+kernel) (by kernel_rfl)
theorem FX:Manifest.owners.lookup (String.ofList ['r','o','t','a','r','e','t','i','_','t','e','s'].reverse)=some Manifest.sig_set_iterator:=by kernel_rfl
theorem DI(a:Value):argsOk "set_iterator.__next__" ⟨[a],[]⟩:=by
 unfold argsOk;rw[signature?_of (id:="set_iterator.__next__") (n:=['_','_','t','x','e','n','_','_']) (o:=['r','o','t','a','r','e','t','i','_','t','e','s']) (by kernel_rfl) FX];kernel_rfl
theorem Fm(a:Value):argsOk "set_iterator.__iter__" ⟨[a],[]⟩:=by
 unfold argsOk;rw[signature?_of (id:="set_iterator.__iter__") (n:=['_','_','r','e','t','i','_','_']) (o:=['r','o','t','a','r','e','t','i','_','t','e','s']) (by kernel_rfl) FX];kernel_rfl
theorem Mt{α:Type}:∀(l:List α) (i:Nat) (h:i<l.length),(l[i]::l.eraseIdx i).Perm l
 |x::l,0,_=>gZ.refl _
 |x::l,i+1,h=>by
  have ih:=Mt l i (by simpa using h)
  simp only[List.getElem_cons_succ,List.eraseIdx_cons_succ]
  exact(gZ.swap _ _ _).trans (ih.cons x)
theorem Mu{α:Type}(next:Nat→Nat):∀(n k:Nat) (left:List α) (out:Array α),left.length=n→(nu next n k left out).toList.Perm (out.toList++left)
 |0,k,left,out,h=>by
  have:left=[]:=iV.mp h
  subst this
  simp[nu]
 |n+1,k,left,out,h=>by
  have hlt:next k%left.length<left.length:=nj _ (by omega)
  have e:left[next k%left.length]?=some left[next k%left.length]:=by simp[hlt]
  rw[nu,e]
  have ih:=Mu next n (k+1) (left.eraseIdx (next k%left.length)) (out.push left[next k%left.length]) (by rw[List.length_eraseIdx_of_lt hlt];omega)
  refine ih.trans ?_
  rw[iK,fe]
  exact gZ.append_left _ (Mt left _ hlt)
theorem OD{α:Type}(next:Nat→Nat)(xs:Array α):(kO next xs).toList.Perm xs.toList:=by
 have:=Mu next xs.size 0 xs.toList #[] (by simp)
 simp only[List.nil_append] at this
 exact this
def Dr(w:World)(a:Addr)(ep:Nat)(es:Array (Int×Value)):Array (Int×Value):=if w.params.followText "set-order" =true then kO (w.params.setOrder a ep) es else es
theorem IA(w:World)(a:Addr)(ep:Nat)(es:Array (Int×Value)):(Dr w a ep es).toList.Perm es.toList:=by
 unfold Dr
 split
 ·exact OD _ _
 ·exact gZ.refl _
theorem Ey(w:World)(a:Addr)(ep:Nat)(es:Array (Int×Value)):(Dr w a ep es).size=es.size:=by
 rw[←cZ,←cZ];exact(IA w a ep es).length_eq
theorem Ll{xs:Array Nat}(r:Pd xs){i:Nat}(hi:i≤xs.size){slot:Nat}(hs:(i=0∧slot=0)∨(0<i∧∃j,xs[i-1]?=some j∧slot=j+1)):below xs slot=i:=by
 obtain⟨b1,b2,b3⟩:=Cp (j:=slot) r
 rcases hs with⟨rfl,rfl⟩| ⟨h0,j,hj,rfl⟩
 ·apply fX
  intro hne
  have h0:0<xs.size:=by omega
  have:=b2 0 xs[0] (by omega) (by simp[h0])
  omega
 ·have hlt:i-1<xs.size:=(eO.mp hj).1
  rcases gc (below xs (j+1)) i with hl|he|hg
  ·have hx:xs[below xs (j+1)]?=some xs[below xs (j+1)]:=by simp[show below xs (j+1)<xs.size by omega]
   have h1:=b3 _ _ (cW _) hx
   by_cases hq:below xs (j+1)=i-1
   ·have hx2:xs[below xs (j+1)]?=some j:=by rw[hq];exact hj
    have:=dQ.inj (hx.symm.trans hx2)
    omega
   ·have:=GV r hx hj (by omega)
    omega
  ·exact he
  ·have hx:xs[i]?=some xs[i]:=by simp[show i<xs.size by omega]
   have h1:=b2 i _ hg hx
   have:=GV r hj hx (by omega)
   omega
section
variable{prog:Program}{w:World}{A:de}{E:Value→Shared→Prop}{s:Shared}
variable{a:Addr}{xs:List (List Int×Addr)}{o:Obj}{es:Array (Int×Value)}{ep:Nat}{t:fc}
def Cf(w:World)(h:Heap)(I a:Addr)(t:fc)(ep n i:Nat):Prop:=∃slot:Nat,h.get? I=some {cls:=.type "set_iterator",dict:=none,data:=.fields #[lT slot,lT i,.ref a,lT n,lT ep],slots:=#[]}∧
 (w.params.followText "set-order" =false→(i=0∧slot=0)∨(0<i∧∃j,t.place[i-1]?=some j∧slot=j+1))
theorem Gf(hg:s.heap.get? a=some o)(hd:o.data=.set es ep t)(hf:t.fits es.size=true)(hr:Pd t.place)(hpl:t.plain=true)(hled:t.led=!w.params.followText "set-order"){i slot:Nat}(hi:i≤es.size)
  (hs:w.params.followText "set-order" =false→(i=0∧slot=0)∨(0<i∧∃j,t.place[i-1]?=some j∧slot=j+1)) {Q:Option (Value×Nat)→Shared→Prop}
  (hsome:∀e slot',(Dr w a ep es)[i]?=some e→(w.params.followText "set-order" =false→∃j,t.place[i]?=some j∧slot'=j+1)→Q (some (e.2,slot')) s) (hnone:i=es.size→Q none s):wpAny (model prog w) A (setNext a slot i ep) Q E s:=by
 have hps:t.place.size=es.size:=by
  simp only[fc.fits,eX,beq_iff_eq] at hf
  exact hf.1
 have ask:∀{R:Bool→Shared→Prop},R (w.params.followText "set-order") s→wpAny (model prog w) A setsByText R E s:=fun h=>a9 (j7 (b9 h))
 unfold setNext
 refine a9 (fO hg hd hf ?_)
 dsimp only
 refine a9 (ask ?_)
 cases hb:w.params.followText "set-order" with
 |true=>
  simp only[if_true]
  rw[if_neg (by simp)]
  refine a9 ?_
  unfold setWalk
  refine a9 (fO hg hd hf ?_)
  dsimp only
  refine a9 (ask ?_)
  rw[hb]
  simp only[if_true]
  refine a9 (j7 (b9 ?_))
  refine b9 ?_
  have ho:Dr w a ep es=kO (w.params.setOrder a ep) es:=by unfold Dr;rw[if_pos hb]
  show Q (((kO (w.params.setOrder a ep) es)[i]?).map fun e=> (e.2,slot)) s
  rw[←ho]
  cases he:(Dr w a ep es)[i]? with
  |some e=>exact hsome e slot he fun z=>by rw[hb] at z;cases z
  |none=>
   refine hnone ?_
   have:=Array.getElem?_eq_none_iff.mp he
   rw[Ey] at this
   omega
 |false=>
  rw[hb] at hled
  simp only[dC,if_false]
  have hdr:(!t.plain&&decide (es.size>1))=false:=by rw[hpl];rfl
  show wpAny _ _ (if(!t.plain&&decide (es.size>1))=true then _ else _) _ _ s
  rw[hdr]
  simp only[dC,if_false]
  refine a9 ?_
  show wpAny _ _ (if(!t.led&&!es.isEmpty)=true then _ else pure ()) _ _ s
  rw[hled]
  simp only[mH,jg,Bool.false_and,dC,if_false]
  refine b9 ?_
  rw[Ll hr (by omega) (hs hb)]
  have ho:Dr w a ep es=es:=by unfold Dr;rw[if_neg (by rw[hb];decide)]
  by_cases hlt:i<es.size
  ·have e1:es[i]?=some es[i]:=by simp[hlt]
   have e2:t.place[i]?=some (t.place[i]'(by omega)):=by simp[show i<t.place.size by omega]
   rw[e1,e2]
   exact b9 (hsome es[i] _ (by rw[ho];exact e1) fun _=> ⟨_,e2,rfl⟩)
  ·have e1:es[i]?=none:=by simp;omega
   rw[e1]
   exact b9 (hnone (by omega))
end
section
variable{prog:Program}{w:World}{A:de}{E:Value→Shared→Prop}{s:Shared}
variable{a I:Addr}{xs:List (List Int×Addr)}{o:Obj}{es:Array (Int×Value)}{ep:Nat}{t:fc}
structure Wk(w:World)(o:Obj)(es:Array (Int×Value))(ep:Nat)(t:fc):Prop where
 cls:o.cls=.type "set"
 dat:o.data=.set es ep t
 fits:t.fits es.size=true
 ris:Pd t.place
 pl:t.plain=true
 led:t.led=!w.params.followText "set-order"
theorem SetD.wk(S:SetD prog w s.heap a xs o es ep t):Wk w o es ep t:=⟨S.ex.1,S.dat,S.fits,S.tb.ris,S.pl,S.led⟩
theorem CU(K:Wk w o es ep t)(hg:s.heap.get? a=some o){Q:Array (Int×Value)→Shared→Prop}(h:Q es s):wpAny (model prog w) A (m9 a) Q E s:=by
 unfold m9
 exact a9 (fO hg K.dat K.fits (b9 h))
theorem OE(K:Wk w o es ep t)(hg:s.heap.get? a=some o)(hne:a≠I){i:Nat}(hi:i<es.size)(it:Cf w s.heap I a t ep es.size i){Q:Option Value→Shared→Prop}
  (hQ:∀e h',(Dr w a ep es)[i]?=some e→Cf w h' I a t ep es.size (i+1)→i8 I s.heap h'→Q (some e.2) {s with heap:=h'}):wpAny (model prog w) A (kT (.ref I)) Q E s:=by
 obtain⟨slot,ho,hsl⟩:=it
 have hT:s.TypeIs (.ref I) "set_iterator":=⟨_,ho,rfl⟩
 unfold kT
 refine a9 (jb (wpAny_callSpecial?_slot (name:=Str.ofString "__next__") hT Al (iQ Al hT Ce ?_ (DI _))))
 refine a9 (b9 ?_)
 refine a9 (wpAny_fieldsOf ho rfl ?_)
 show wpAny _ _ (m9 a>>=_) _ _ s
 refine a9 (CU K hg ?_)
 rw[if_neg (by simp)]
 show wpAny _ _ (setNext a ((slot:Int).toNat) ((i:Int).toNat) ((ep:Int).toNat)>>=_) _ _ s
 simp only[dS]
 refine a9 (Gf hg K.dat K.fits K.ris K.pl K.led (iG hi) hsl (fun e slot' he hs'=>?_) fun z=>by omega)
 dsimp only
 refine a9 (kQ ho (by simp) fun h1 ho1 hs1=>?_)
 refine a9 (kQ (s:={s with heap:=h1}) ho1 (by simp) fun h2 ho2 hs2=>?_)
 refine b9 ⟨_,rfl,b9 (hQ e h2 he ⟨slot',?_,fun hb=> .inr ⟨kK _,?_⟩⟩ (hs1.trans hs2))⟩
 ·simpa using ho2
 ·simpa using hs' hb
theorem Pj(K:Wk w o es ep t)(hh:A.handled=none)(hg:s.heap.get? a=some o)(hne:a≠I)(it:Cf w s.heap I a t ep es.size es.size){Q:Option Value→Shared→Prop}
  (hQ:∀h',Heap.ExtBut I s.heap h'→Q none {s with heap:=h'}):wpAny (model prog w) A (kT (.ref I)) Q E s:=by
 obtain⟨slot,ho,hsl⟩:=it
 have hT:s.TypeIs (.ref I) "set_iterator":=⟨_,ho,rfl⟩
 unfold kT
 refine a9 (jb (wpAny_callSpecial?_slot (name:=Str.ofString "__next__") hT Al (iQ Al hT Ce ?_ (DI _))))
 refine a9 (b9 ?_)
 refine a9 (wpAny_fieldsOf ho rfl ?_)
 show wpAny _ _ (m9 a>>=_) _ _ s
 refine a9 (CU K hg ?_)
 rw[if_neg (by simp)]
 show wpAny _ _ (setNext a ((slot:Int).toNat) ((es.size:Int).toNat) ((ep:Int).toNat)>>=_) _ _ s
 simp only[dS]
 refine a9 (Gf hg K.dat K.fits K.ris K.pl K.led (cW _) hsl (fun e slot' he hs'=>?_) fun z=>?_)
 ·have:=(eO.mp he).1
  rw[Ey] at this
  omega
 dsimp only
 refine a9 (kQ ho (by simp) fun h1 ho1 hs1=>?_)
 show wpAny _ _ (newExc (.type "StopIteration") []>>=_) _ _ _
 refine a9 ?_
 simp only[newExc,newTuple]
 refine a9 (jj ?_ (by size_fits))
 refine a9 (m:=firstArgMember _ _) (kj (a:=jn) (by first|rfl| (simp only[firstArgMember];rfl)) ?_)
 refine jj ?_ (by size_fits)
 simp only[raiseNew]
 refine a9 (wpAny_handled ?_)
 rw[show A.in1.handled=none from hh]
 refine a9 (b9 (wpAny_throw ?_))
 refine a9 (wpAny_isInstance (T:="StopIteration") (b:=true) ⟨_,dy _ rfl,rfl⟩ isSubtype_stop ?_)
 exact b9 (hQ _ ((hs1.extBut.push _).push _))
theorem OF{n i:Nat}(it:Cf w s.heap I a t ep n i){Q:Value→Shared→Prop}(h:Q (.ref I) s):wpAny (model prog w) A (ng (.ref I)) Q E s:=by
 obtain⟨slot,ho,_⟩:=it
 have hT:s.TypeIs (.ref I) "set_iterator":=⟨_,ho,rfl⟩
 refine wpAny_pyIter_slot hT DH (iQ DH hT Ex ?_ (Fm _))
 show wpAny _ _ (ret (.ref I)) _ _ s
 exact b9 ⟨_,rfl,"set_iterator",_,hT,Al.lookup,h⟩
theorem Pk(K:Wk w o es ep t)(hg:s.heap.get? a=some o){Q:Value→Shared→Prop}
  (h:Q (.ref s.heap.objs.size) {s with heap:=s.heap.push {cls:=.type "set_iterator",data:=.fields #[lT 0,lT 0,.ref a,lT es.size,lT ep]}}):wpAny (model prog w) A (ng (.ref a)) Q E s:=by
 have hT:s.TypeIs (.ref a) "set":=⟨_,hg,K.cls⟩
 have ask:∀{A:de} {E:Value→Shared→Prop} {R:Bool→Shared→Prop},R (w.params.followText "set-order") s→wpAny (model prog w) A setsByText R E s:=fun h=>a9 (j7 (b9 h))
 refine wpAny_pyIter_slot hT PySem.F.slot_set_iter (iQ PySem.F.slot_set_iter hT Ge ?_ (PySem.F.args_set_iter_1 _))
 unfold Builtin.«frozenset.__iter__»
 refine a9 (a9 (b9 (b9 ?_)))
 refine a9 (a9 (CU K hg (b9 ?_)))
 refine a9 ?_
 unfold setDrawn
 refine a9 (fO hg K.dat K.fits ?_)
 dsimp only
 refine a9 (ask (b9 ?_))
 have hdr:(!w.params.followText "set-order" &&(!t.plain&&decide (es.size>1)))=false:=by rw[K.pl];simp
 show wpAny _ _ (if(!w.params.followText "set-order" &&(!t.plain&&decide (es.size>1)))=true then _ else _) _ _ s
 rw[hdr]
 simp only[dC,if_false]
 refine a9 (b9 ?_)
 refine a9 (wpAny_setEpoch_of hg K.dat K.fits ?_)
 refine a9 ?_
 unfold newFields
 refine jj ?_
 refine b9 ⟨_,rfl,"set_iterator",_,⟨_,dy _ rfl,rfl⟩,Al.lookup,h⟩
theorem OG(K:Wk w o es ep t)(hh:A.handled=none)(hne:a≠I):Walks prog w A I [I,a] [I] es.size (fun i v=>∃h,(Dr w a ep es)[i]?=some (h,v)) (fun i h=>Cf w h I a t ep es.size i∧h.get? a=some o) where
 sub:=fun b hb=>by simp at hb;simp[hb]
 frame:=fun i h h' st hk=>by
  obtain⟨⟨slot,h1,h2⟩,h3⟩:=st
  exact⟨⟨slot,hk I (by simp) _ h1,h2⟩,hk a (by simp) _ h3⟩
 item:=fun i s Q E hi st hQ=>OE K st.2 hne hi st.1 fun e h' he it' sb=>hQ e.2 h' s.toks ⟨e.1,he⟩ ⟨it',(sb.2 a hne).trans st.2⟩ fun b o hb e=> (sb.2 b (fun z=>hb (by simp[z]))).trans e
 done:=fun s Q E st hQ=>Pj K hh st.2 hne st.1 fun h' he=>hQ h' s.toks fun b o hb e=>he b o (fun z=>hb (by simp[z])) e
 self:=fun i s Q E st hQ=>OF st.1 hQ
theorem Pl{r:Addr}{Q:Bool→Shared→Prop}(hT:s.TypeIs (.ref r) "set")(h:Q false s):wpAny (model prog w) A (Builtin.List.listLengthHint (.ref r)) Q E s:=by
 unfold Builtin.List.listLengthHint
 refine a9 (wpAny_specialOf hT PySem.F.slot_set_len.lookup ?_)
 generalize hid:("set.__len__" :String)=id0
 wp_delta
 rw[show splitId id0=some ("set","__len__") from by subst hid;decide+kernel]
 subst hid
 refine a9 (wpAny_isInstance (T:="set") (b:=true) hT (by rw[my];kernel_rfl) ?_)
 refine wpAny_ite_split (fun hab=>absurd hab (by decide)) (fun _=>?_)
 refine wpAny_ite_split (fun _=>?_) (fun hab=>absurd (by decide+kernel) hab)
 refine a9 (wpAny_typeOf hT ?_)
 exact b9 h
theorem Sf(K:Wk w o es ep t):PySem.W.KdlSrc prog w "set" a a es.size (fun i v=>∃h,(Dr w a ep es)[i]?=some (h,v)) (fun h=>h.get? a=some o) where
 type:=fun _ hm=> ⟨_,hm,K.cls⟩
 there:=fun _ hm=> ⟨dc hm,dc hm⟩
 keep:=fun _ _ hm hk=>hk a (.inl rfl) _ hm
 notList:=by decide
 notTuple:=by decide
 hint:=fun _ _ _ _ hm hq=>Pl ⟨_,hm,K.cls⟩ hq
 iter:=fun A s hh hm=> ⟨_,_,(fun _ _ hq=>Pk K hm hq),OG K hh (dF (dc hm)),⟨⟨0,dy _ rfl,fun _=> .inl ⟨rfl,rfl⟩⟩,cj _ hm⟩⟩
end
end StT
namespace SrtG
open PySem PyProof.Rows
def Mv:Bool→Keyed→Array Keyed→Nat→Nat→Nat→StateT SortSt Sem (Option Nat):=sortPriv%PySem.Builtin.gallop
def Ah(left:Bool)(key:Keyed)(arr:Array Keyed)(base i:Nat):StateT eB Sem (Option Bool):=do
 let x←elem' arr (base+i)
 if left then lt' x key else return(←lt' key x).map (!·)
section
variable{prog:Program}{w:World}{A:de}{E:Value→Shared→Prop}{s:Shared}
def Om(prog:Program)(w:World)(A:de)(E:Value→Shared→Prop)(s:Shared)(kd:jo)(U:Keyed→Prop)(rk:Keyed→Int):Prop:=
 ∀(st:eB) (x y:Keyed) (Q:Option Bool→eB→Prop),kindOf st=kd→U x→U y→Q (some (decide (rk x<rk y))) st→wpS (model prog w) A E s (lt' x y) Q st
variable{kd:jo}{U:Keyed→Prop}{rk:Keyed→Int}
def RK(rk:Keyed→Int)(xs:Array Keyed)(i:Nat):Int:=match xs[i]? with
 |some p=>rk p
 |none=>0
def AllU(U:Keyed→Prop)(xs:Array Keyed):Prop:=∀(i:Nat) (p:Keyed),xs[i]?=some p→U p
def bt(left:Bool)(rk:Keyed→Int)(key:Keyed)(arr:Array Keyed)(base i:Nat):Bool:=if left then decide (RK rk arr (base+i)<rk key) else !decide (rk key<RK rk arr (base+i))
theorem Sg{left:Bool}{key:Keyed}{arr:Array Keyed}{base i:Nat}{st:eB}{Q:Option Bool→eB→Prop}(C:Om prog w A E s kd U rk)(hk:kindOf st=kd)(hK:U key)(hU:AllU U arr)(hi:base+i<arr.size)
  (h:Q (some (bt left rk key arr base i)) st):wpS (model prog w) A E s (Ah left key arr base i) Q st:=by
 unfold Ah
 have e:arr[base+i]?=some arr[base+i]:=getElem?_pos arr (base+i) hi
 rw[elem'_eq,e]
 refine cu (cV ?_)
 have eR:RK rk arr (base+i)=rk arr[base+i]:=by unfold RK;rw[e]
 unfold bt at h
 rw[eR] at h
 cases left with
 |true=>
  rw[if_pos rfl] at h ⊢
  exact C st _ _ _ hk (hU _ _ e) hK h
 |false=>
  rw[if_neg cf] at h ⊢
  exact cu (C st _ _ _ hk hK (hU _ _ e) (cV h))
def UV(P:Nat→Bool)(n r:Nat):Prop:=r≤n∧(∀i,i<r→P i=true)∧∀i,r≤i→i<n→P i=false
theorem Pm{α:Type}{P:Nat→Bool}{b:Nat→StateT eB Sem (Option Bool)}{n l h:Nat}{st:eB}(hb:∀i (Q:Option Bool→eB→Prop),i<n→Q (some (P i)) st→wpS (model prog w) A E s (b i) Q st)
  (mono:∀i j,i≤j→j<n→P j=true→P i=true) (hl:l≤h) (hn:h≤n) (h1:∀i,i<l→P i=true) (h2:∀i,h≤i→i<n→P i=false):
  wpS (model prog w) A E s (forIn [:n] ((none:Option (Option Nat)),l,h) fun x __s=>
   if __s.snd.fst≥__s.snd.snd then pure (ForInStep.done (none,__s.snd.fst,__s.snd.snd))
   else do
    let __x←b (__s.snd.fst+(__s.snd.snd-__s.snd.fst)/2)
    match __x with
     |some mr=>
      if mr=true then pure (gI (none,__s.snd.fst+(__s.snd.snd-__s.snd.fst)/2+1,__s.snd.snd))
      else pure (gI (none,__s.snd.fst,__s.snd.fst+(__s.snd.snd-__s.snd.fst)/2))
     |x=>pure (ForInStep.done (some none,__s.snd.fst,__s.snd.snd))) (fun c st'=>st'=st∧c.1=none∧UV P n c.2.2) st:=by
 refine eK (I:=fun x c st'=>st'=st∧∃l h,c=(none,l,h)∧l≤h∧h≤n∧(∀i,i<l→P i=true)∧(∀i,h≤i→i<n→P i=false)∧h-l≤n-x) ?_ ?_ ⟨rfl,l,h,rfl,hl,hn,h1,h2,by omega⟩
 ·rintro x c st' _ hx ⟨rfl,l,h,rfl,hl,hn,h1,h2,hm⟩
  dsimp only
  by_cases hlh:l≥h
  ·rw[if_pos hlh]
   have e:l=h:=by omega
   subst e
   exact cV ⟨rfl,rfl,hn,h1,h2⟩
  ·rw[if_neg hlh]
   refine cu (hb _ _ (by omega) ?_)
   dsimp only
   cases hP:P (l+(h-l)/2) with
   |true=>
    rw[if_pos rfl]
    exact cV ⟨rfl,_,_,rfl,by omega,hn,fun i hi=>mono i _ (by omega) (by omega) hP,h2,by omega⟩
   |false=>
    rw[if_neg cf]
    refine cV ⟨rfl,_,_,rfl,by omega,by omega,h1,fun i hi hin=>?_,by omega⟩
    cases q:P i with
    |false=>rfl
    |true=>rw[mono _ i hi hin q] at hP;cases hP
 ·rintro c st' ⟨rfl,l,h,rfl,hl,hn,h1,h2,hm⟩
  have e:l=h:=by
   have:max 0 n=n:=by omega
   rw[this] at hm
   omega
  subst e
  exact⟨rfl,rfl,hn,h1,h2⟩
theorem BE {left : Bool} {key : Keyed} {arr : Array Keyed} {base n hint : Nat} {st : eB} {Q : Option Nat → eB → Prop} (C : Om prog w A E s kd U rk) (hk : kindOf st = kd) (hK : U key) (hU : AllU U arr) (hb : base + n ≤ arr.size) (hh : hint < n)
    (mono : ∀ i j, i ≤ j → j < n → bt left rk key arr base j = true → bt left rk key arr base i = true)
    (h : ∀ r, UV (bt left rk key arr base) n r → Q (some r) st) : wpS (model prog w) A E s (Mv left key arr base n hint) Q st := by
  delta Mv
  have hbey : ∀ i (Q : Option Bool → eB → Prop), i < n → Q (some (bt left rk key arr base i)) st → wpS (model prog w) A E s (Ah left key arr base i) Q st := fun i Q hi q => Sg C hk hK hU (by omega) q
  have fals : ∀ i j, i ≤ j → j < n → bt left rk key arr base i = false → bt left rk key arr base j = false := fun i j hij hj e => by
    cases q : bt left rk key arr base j with
    | false => rfl
    | true => rw [mono i j hij hj q] at e; cases e
  refine cu (hbey _ _ hh ?_)
  dsimp only
  cases hP : bt left rk key arr base hint with
  | true =>
    rw [if_pos rfl]
    refine cu (fW (eK (I := fun x c st' => st' = st ∧ ∃ la o, c = (none, la, o) ∧ la < o ∧ x + 1 ≤ o ∧ hint + la < n ∧ bt left rk key arr base (hint + la) = true)
      (Q := fun c st' => st' = st ∧ ∃ la o, c = (none, la, o) ∧ la < o ∧ hint + la < n ∧ bt left rk key arr base (hint + la) = true ∧ (n - hint ≤ o ∨ bt left rk key arr base (hint + o) = false)) ?_ ?_ ⟨rfl, 0, 1, rfl, by omega, by omega, hh, hP⟩) ?_)
    · rintro x c st' _ hx ⟨rfl, la, o, rfl, h1, h2, h3, h4⟩
      dsimp only
      by_cases ho : o ≥ n - hint
      · rw [if_pos ho]
        exact cV ⟨rfl, la, o, rfl, h1, h3, h4, .inl ho⟩
      · rw [if_neg ho]
        refine cu (hbey _ _ (by omega) ?_)
        dsimp only
        cases hq : bt left rk key arr base (hint + o) with
        | false =>
          rw [if_pos (by decide)]
          exact cV ⟨rfl, la, o, rfl, h1, h3, h4, .inr hq⟩
        | true =>
          rw [if_neg (by decide)]
          exact cV ⟨rfl, o, _, rfl, by omega, by omega, by omega, hq⟩
    · rintro c st' ⟨rfl, la, o, rfl, h1, h2, h3, h4⟩
      exact ⟨rfl, la, o, rfl, h1, h3, h4, .inl (by have : max 0 n = n := by omega
                                                   omega)⟩
    · rintro c st' ⟨rfl, la, o, rfl, h1, h3, h4, h5⟩
      dsimp only
      refine cu (fW (Pm (α := Unit) hbey mono (by omega) (by omega) (fun i hi => mono i (hint + la) (by omega) h3 h4) (fun i hi hin => ?_)) ?_)
      · rcases h5 with h5 | h5
        · omega
        · exact fals (hint + o) i (by omega) hin h5
      · rintro ⟨c1, c2, c3⟩ st'' ⟨rfl, e, pt⟩
        cases e
        exact cV (h _ pt)
  | false =>
    rw [if_neg cf]
    refine cu (fW (eK (I := fun x c st' => st' = st ∧ ∃ la o, c = (none, la, o) ∧ la < o ∧ x + 1 ≤ o ∧ la ≤ hint ∧ bt left rk key arr base (hint - la) = false)
      (Q := fun c st' => st' = st ∧ ∃ la o, c = (none, la, o) ∧ la < o ∧ la ≤ hint ∧ bt left rk key arr base (hint - la) = false ∧ (hint + 1 ≤ o ∨ bt left rk key arr base (hint - o) = true)) ?_ ?_ ⟨rfl, 0, 1, rfl, by omega, by omega, by omega, hP⟩) ?_)
    · rintro x c st' _ hx ⟨rfl, la, o, rfl, h1, h2, h3, h4⟩
      dsimp only
      by_cases ho : o ≥ hint + 1
      · rw [if_pos ho]
        exact cV ⟨rfl, la, o, rfl, h1, h3, h4, .inl ho⟩
      · rw [if_neg ho]
        refine cu (hbey _ _ (by omega) ?_)
        dsimp only
        cases hq : bt left rk key arr base (hint - o) with
        | true =>
          rw [if_pos rfl]
          exact cV ⟨rfl, la, o, rfl, h1, h3, h4, .inr hq⟩
        | false =>
          rw [if_neg cf]
          exact cV ⟨rfl, o, _, rfl, by omega, by omega, by omega, hq⟩
    · rintro c st' ⟨rfl, la, o, rfl, h1, h2, h3, h4⟩
      exact ⟨rfl, la, o, rfl, h1, h3, h4, .inl (by have : max 0 n = n := by omega
                                                   omega)⟩
    · rintro c st' ⟨rfl, la, o, rfl, h1, h3, h4, h5⟩
      dsimp only
      refine cu (fW (Pm (α := Unit) hbey mono (by omega) (by omega) (fun i hi => ?_) (fun i hi hin => fals (hint - la) i hi hin h4)) ?_)
      · rcases h5 with h5 | h5
        · omega
        · exact mono i (hint - o) (by omega) (by omega) h5
      · rintro ⟨c1, c2, c3⟩ st'' ⟨rfl, e, pt⟩
        cases e
        exact cV (h _ pt)
end
local macro_rules | `(tactic| omega) => `(tactic| first | lia | omega)
open PySem PyProof.Rows
variable{rk:Keyed→Int}
def Ez(rk:Keyed→Int)(a:Array Keyed):Prop:=∀i j,i≤j→j<a.size→RK rk a i≤RK rk a j
structure Mrg(rk:Keyed→Int)(a b out:Array Keyed)(i j:Nat):Prop where
 hi:i≤a.size
 hj:j≤b.size
 perm:out.toList.Perm (a.toList.take i++b.toList.take j)
 srt:out.toList.Pairwise fun x y=>rk x≤rk y
 ha:∀x,x∈out.toList→∀y,i≤y→y<a.size→rk x≤RK rk a y
 hb:∀x,x∈out.toList→∀y,j≤y→y<b.size→rk x≤RK rk b y
structure Fin2(rk:Keyed→Int)(a b r:Array Keyed):Prop where
 perm:r.toList.Perm (a.toList++b.toList)
 srt:r.toList.Pairwise fun x y=>rk x≤rk y
theorem Ar{a:Array Keyed}{i:Nat}(h:i<a.size):RK rk a i=rk a[i]:=by
 unfold RK
 rw[getElem?_pos a i h]
theorem Mrg.sym{a b out:Array Keyed}{i j:Nat}(m:Mrg rk a b out i j):Mrg rk b a out j i:=
 ⟨m.hj,m.hi,m.perm.trans gL,m.srt,m.hb,m.ha⟩
theorem Mrg.pushA{a b out:Array Keyed}{i j:Nat}(m:Mrg rk a b out i j)(sa:Ez rk a)(h:i<a.size)(hb:∀y,j≤y→y<b.size→rk a[i]≤RK rk b y):Mrg rk a b (out.push a[i]) (i+1) j:=by
 have e:(out.push a[i]).toList=out.toList++[a[i]]:=iK ..
 have t:a.toList.take (i+1)=a.toList.take i++[a[i]]:=by
  rw[List.take_succ]
  have:a.toList[i]?=some a[i]:=by rw[dG];exact getElem?_pos a i h
  rw[this];rfl
 refine⟨h,m.hj,?_,?_,?_,?_⟩
 ·rw[e,t]
  have p1:=m.perm.append_right [a[i]]
  refine p1.trans ?_
  rw[fe,fe]
  exact gZ.append_left _ gL
 ·rw[e,km]
  refine⟨m.srt,gm _ _,fun x hx y hy=>?_⟩
  cases cq.mp hy
  have:=m.ha x hx i (cW _) h
  rwa[Ar h] at this
 ·intro x hx y hy hys
  rw[e] at hx
  rcases dt.mp hx with hx|hx
  ·exact m.ha x hx y (by omega) hys
  ·cases cq.mp hx
   have:=sa i y (by omega) hys
   rwa[Ar h] at this
 ·intro x hx y hy hys
  rw[e] at hx
  rcases dt.mp hx with hx|hx
  ·exact m.hb x hx y hy hys
  ·cases cq.mp hx
   exact hb y hy hys
theorem Mrg.pushB{a b out:Array Keyed}{i j:Nat}(m:Mrg rk a b out i j)(sb:Ez rk b)(h:j<b.size)(ha:∀y,i≤y→y<a.size→rk b[j]≤RK rk a y):Mrg rk a b (out.push b[j]) i (j+1):=(m.sym.pushA sb h ha).sym
theorem Iu(a:Array Keyed)(i k:Nat)(h:i+k<a.size):a.extract i (i+(k+1))=(a.extract i (i+k)).push a[i+k]:=by
 apply js
 rw[iK,eV,eV,dW,dW]
 have e1:i+(k+1)-i=k+1:=by omega
 have e2:i+k-i=k:=by omega
 rw[e1,e2,List.take_succ,fD,dG,getElem?_pos a (i+k) h]
 rfl
theorem Mrg.appA{a b:Array Keyed}{i j:Nat}:∀(k:Nat) {out:Array Keyed},Mrg rk a b out i j→Ez rk a→i+k≤a.size→(∀x,x<k→∀y,j≤y→y<b.size→RK rk a (i+x)≤RK rk b y)→Mrg rk a b (out++a.extract i (i+k)) (i+k) j
 |0,out,m,_,_,_=>by
  have:out++a.extract i (i+0)=out:=by
   apply js
   rw[ig,eV,dW]
   have:i+0-i=0:=by omega
   rw[this,lg,eZ]
  rw[this];exact m
 |k+1,out,m,sa,h,hb=>by
  have m':=Mrg.appA k m sa (by omega) fun x hx=>hb x (by omega)
  have hk:i+k<a.size:=by omega
  rw[Iu a i k hk,Array.append_push]
  exact m'.pushA sa hk fun y h1 h2=>by
   have:=hb k (by omega) y h1 h2
   rwa[Ar hk] at this
theorem Mrg.appB{a b:Array Keyed}{i j:Nat}(k:Nat){out:Array Keyed}(m:Mrg rk a b out i j)(sb:Ez rk b)(h:j+k≤b.size)(ha:∀x,x<k→∀y,i≤y→y<a.size→RK rk b (j+x)≤RK rk a y):Mrg rk a b (out++b.extract j (j+k)) i (j+k):=(Mrg.appA k m.sym sb h ha).sym
theorem Mrg.fin{a b out:Array Keyed}(m:Mrg rk a b out a.size b.size):Fin2 rk a b out:=by
 have p:=m.perm
 rw[←cZ,←cZ,fj,fj] at p
 exact⟨p,m.srt⟩
theorem Mrg.restAB{a b out:Array Keyed}{i j:Nat}(m:Mrg rk a b out i j)(sa:Ez rk a)(sb:Ez rk b)(h:∀x y,i≤x→x<a.size→j≤y→y<b.size→RK rk a x≤RK rk b y):Fin2 rk a b (out++a.extract i a.size++b.extract j b.size):=by
 have hi:=m.hi
 have hj:=m.hj
 have m1:=m.appA (a.size-i) sa (by omega) fun x hx y h1 h2=>h _ _ (by omega) (by omega) h1 h2
 have e1:i+(a.size-i)=a.size:=by omega
 rw[e1] at m1
 have m2:=m1.appB (b.size-j) sb (by omega) fun x hx y h1 h2=>by omega
 have e2:j+(b.size-j)=b.size:=by omega
 rw[e2] at m2
 exact m2.fin
theorem Mrg.restBA{a b out:Array Keyed}{i j:Nat}(m:Mrg rk a b out i j)(sa:Ez rk a)(sb:Ez rk b)(h:∀x y,i≤x→x<a.size→j≤y→y<b.size→RK rk b y≤RK rk a x):Fin2 rk a b (out++b.extract j b.size++a.extract i a.size):=by
 have f:=m.sym.restAB sb sa fun x y h1 h2 h3 h4=>h y x h3 h4 h1 h2
 exact⟨f.perm.trans gL,f.srt⟩
end SrtG
namespace SrtG
local macro_rules | `(tactic| omega) => `(tactic| first | lia | omega)
open PySem PyProof.Rows
def Jz:Array Keyed→Array Keyed→StateT SortSt Sem (Array Keyed):=sortPriv%PySem.Builtin.mergeLo
def Mw:Nat→StateT SortSt Sem Unit:=sortPriv%PySem.Builtin.setMinGallop
theorem Lm(g:Nat):Mw g=modify fun s=>kX (kindOf s) (arrOf s) (pendingOf s) g (iR s):=rfl
abbrev dn(a b out:Array Keyed)(ia ib:Nat):Array Keyed:=out++a.extract ia a.size++b.extract ib b.size
abbrev la(a b out:Array Keyed)(ia ib:Nat):Array Keyed:=out++b.extract ib b.size++a.extract ia a.size
section
variable{prog:Program}{w:World}{A:de}{E:Value→Shared→Prop}{s:Shared}{kd:jo}{U:Keyed→Prop}{rk:Keyed→Int}
structure Like(st st':eB):Prop where
 kd:kindOf st'=kindOf st
 arr:arrOf st'=arrOf st
 pd:pendingOf st'=pendingOf st
 fl:iR st'=iR st
theorem Like.refl(st:eB):Like st st:=⟨rfl,rfl,rfl,rfl⟩
theorem Cu{g:Nat}{st0 st:eB}{Q:Unit→eB→Prop}(l:Like st0 st)(h:∀st',Like st0 st'→Q () st'):wpS (model prog w) A E s (Mw g) Q st:=by
 rw[Lm]
 exact iX (h _ ⟨l.kd,l.arr,l.pd,l.fl⟩)
theorem AN{arr:Array Keyed}{i:Nat}{st:eB}{Q:Keyed→eB→Prop}(hi:i<arr.size)(h:Q arr[i] st):wpS (model prog w) A E s (elem' arr i) Q st:=by
 rw[elem'_eq,getElem?_pos arr i hi]
 exact cV h
structure Hd(rk:Keyed→Int)(a b out:Array Keyed)(i j n:Nat):Prop where
 m:Mrg rk a b out i j
 hi:i+1<a.size
 hj:j<b.size
 hn:n≤i+j
theorem KA{a b:Array Keyed}{st:eB}{Q:Array Keyed→eB→Prop}(C:Om prog w A E s kd U rk)(hk:kindOf st=kd)(uA:AllU U a)(uB:AllU U b)(sa:Ez rk a)(sb:Ez rk b)(ha0:0<a.size)(hb0:0<b.size)
  (hfst:RK rk b 0≤RK rk a 0) (hlst:RK rk b (b.size-1)≤RK rk a (a.size-1))
  (h:∀r st',Like st st'→Fin2 rk a b r→Q r st'):wpS (model prog w) A E s (Jz a b) Q st:=by
 have Udn:∀{out i j},Mrg rk a b out i j→i=a.size∨j=b.size→Fin2 rk a b (dn a b out i j):=fun m hh=>m.restAB sa sb fun x y _ _ _ _=>by omega
 have Ula:∀{out i j},Mrg rk a b out i j→i+1=a.size→Fin2 rk a b (la a b out i j):=fun{out i j} m hh=>m.restBA sa sb fun x y h1 h2 h3 h4=>by
  have e1:=sb y (b.size-1) (by omega) (by omega)
  have e:x=a.size-1:=by omega
  subst e
  omega
 have uAt:∀{i} (hi:i<a.size),U a[i]:=fun hi=>uA _ _ (getElem?_pos a _ hi)
 have uBt:∀{i} (hi:i<b.size),U b[i]:=fun hi=>uB _ _ (getElem?_pos b _ hi)
 delta Jz
 refine cu (ki (jG ⟨rfl,?_⟩))
 refine cu (AN hb0 ?_)
 have m0:Mrg rk a b #[] 0 0:=⟨by omega,by omega,gZ.nil,hV,(fun x hx=>by cases hx),(fun x hx=>by cases hx)⟩
 have m1:Mrg rk a b #[b[0]] 0 1:=m0.pushB sb hb0 fun y _ hy=>by
  have e1:=sa 0 y (by omega) hy
  rw[←Ar (rk:=rk) hb0]
  omega
 dsimp only
 by_cases c1:1=b.size
 ·rw[if_pos (beq_iff_eq.mpr c1)]
  exact cV (h _ _ (Like.refl _) (Udn m1 (.inr c1)))
 rw[if_neg (fun q=>c1 (beq_iff_eq.mp q))]
 by_cases c2:0+1=a.size
 ·rw[if_pos (beq_iff_eq.mpr c2)]
  exact cV (h _ _ (Like.refl _) (Ula m1 c2))
 rw[if_neg (fun q=>c2 (beq_iff_eq.mp q))]
 refine cu (jC ?_)
 refine cu (fW (eK (I:=fun x c st'=>Like st st'∧∃out i j mg,c=(none,out,i,j,mg)∧Hd rk a b out i j (x+1))
  (Q:=fun c st'=>Like st st'∧∃r,c.1=some r∧Fin2 rk a b r) ?_ ?_ ⟨Like.refl _,_,_,_,_,rfl,m1,by omega,by omega,by omega⟩) ?_)
 ·rintro x c st1 _ hx ⟨lk,out,i,j,mg,rfl,hd⟩
  dsimp only
  refine cu (fW (eK (I:=fun _ c st'=>Like st st'∧∃out i j ac bc,c=(none,out,i,j,ac,bc)∧Hd rk a b out i j (x+1))
   (Q:=fun c st'=>Like st st'∧((∃r,c.1=some r∧Fin2 rk a b r)∨∃out i j ac bc,c=(none,out,i,j,ac,bc)∧Hd rk a b out i j (x+1))) ?_ ?_ ⟨lk,_,_,_,_,_,rfl,hd⟩) ?_)
  ·rintro x1 c st2 _ hx1 ⟨lk,out,i,j,ac,bc,rfl,hd⟩
   have hia:i<a.size:=by have:=hd.hi;omega
   have hjb:=hd.hj
   have hin:=hd.hn
   dsimp only
   refine cu (AN hd.hj ?_)
   refine cu (AN hia ?_)
   refine cu (C _ _ _ _ (lk.kd.trans hk) (uBt hd.hj) (uAt hia) ?_)
   dsimp only
   by_cases hlt:rk b[j]<rk a[i]
   ·rw[if_pos (by exact decide_eq_true hlt)]
    have m:=hd.m.pushB sb hd.hj fun y h1 h2=>by
     have:=sa i y h1 h2
     rw[Ar hia] at this
     omega
    refine cu (AN hd.hj ?_)
    by_cases c3:j+1=b.size
    ·rw[if_pos (beq_iff_eq.mpr c3)]
     exact cV ⟨lk,.inl ⟨_,rfl,Udn m (.inr c3)⟩⟩
    rw[if_neg (fun q=>c3 (beq_iff_eq.mp q))]
    have hd':Hd rk a b (out.push b[j]) i (j+1) (x+1):=⟨m,hd.hi,by have:=hd.hj;omega,by omega⟩
    split
    ·exact cV ⟨lk,.inr ⟨_,_,_,_,_,rfl,hd'⟩⟩
    ·exact cV ⟨lk,_,_,_,_,_,rfl,hd'⟩
   ·rw[if_neg (fun q=>hlt (of_decide_eq_true q))]
    have m:=hd.m.pushA sa hia fun y h1 h2=>by
     have:=sb j y h1 h2
     rw[Ar hd.hj] at this
     omega
    refine cu (AN hia ?_)
    by_cases c3:i+1+1=a.size
    ·rw[if_pos (beq_iff_eq.mpr c3)]
     exact cV ⟨lk,.inl ⟨_,rfl,Ula m c3⟩⟩
    rw[if_neg (fun q=>c3 (beq_iff_eq.mp q))]
    have hd':Hd rk a b (out.push a[i]) (i+1) j (x+1):=⟨m,by have:=hd.hi;omega,hd.hj,by omega⟩
    split
    ·exact cV ⟨lk,.inr ⟨_,_,_,_,_,rfl,hd'⟩⟩
    ·exact cV ⟨lk,_,_,_,_,_,rfl,hd'⟩
  ·rintro c st2 ⟨lk,hh⟩
   exact⟨lk,.inr hh⟩
  rintro c st2 ⟨lk,⟨r,e,f⟩| ⟨out,i,j,ac,bc,rfl,hd⟩⟩
  ·obtain⟨c1,c2⟩:=c
   cases e
   exact cV ⟨lk,_,rfl,f⟩
  dsimp only
  refine cu (ki (jG ⟨rfl,?_⟩))
  refine cu (fW (eK (I:=fun y c st'=>Like st st'∧∃out i j mg ac bc,c=(none,out,i,j,mg,ac,bc)∧Hd rk a b out i j (x+1+y))
   (Q:=fun c st'=>Like st st'∧((∃r,c.1=some r∧Fin2 rk a b r)∨∃out i j mg ac bc,c=(none,out,i,j,mg,ac,bc)∧Hd rk a b out i j (x+1+1))) ?_ ?_ ⟨lk,_,_,_,_,_,_,rfl,hd⟩) ?_)
  ·rintro x1 c st2 _ hx1 ⟨lk,out,i,j,mg,ac,bc,rfl,hd⟩
   have hia:i<a.size:=by have:=hd.hi;omega
   have hjb:=hd.hj
   have hin:=hd.hn
   dsimp only
   refine dite (mg>1) (fun hmg=>?_) (fun hmg=>?_)
   all_goals first|rw[if_pos hmg]|rw[if_neg hmg]
   all_goals
    refine cu (Cu lk fun st3 lk=>?_)
    refine cu (AN hjb ?_)
    refine cu (BE C (lk.kd.trans hk) (uBt hjb) uA (by omega) (by omega) ?_ ?_)
    ·intro p q hpq hq e
     unfold bt at e ⊢
     rw[if_neg cf] at e ⊢
     have e':=of_decide_eq_false (fQ _|>.mp e)
     have:=sa (i+p) (i+q) (by omega) (by omega)
     exact(fQ _).mpr (decide_eq_false (by omega))
    rintro k ⟨kn,kt,kf⟩
    have kt':∀x,x<k→RK rk a (i+x)≤RK rk b j:=fun x hx=>by
     have e:=kt x hx
     unfold bt at e
     rw[if_neg cf] at e
     have e':=of_decide_eq_false (fQ _|>.mp e)
     rw[Ar hjb]
     omega
    have kf':∀y,i+k≤y→y<a.size→rk b[j]≤RK rk a y:=fun y h1 h2=>by
     have e:=kf (y-i) (by omega) (by omega)
     unfold bt at e
     rw[if_neg cf] at e
     have e':=of_decide_eq_true (lh _|>.mp e)
     have ey:i+(y-i)=y:=by omega
     rw[ey] at e'
     omega
    have m:=hd.m.appA k sa (by omega) fun x hx y h1 h2=>by
     have:=sb j y h1 h2
     have:=kt' x hx
     omega
    dsimp only
    by_cases k0:k>0
    ·rw[if_pos k0]
     by_cases c3:i+k+1=a.size
     ·rw[if_pos (beq_iff_eq.mpr c3)]
      exact cV ⟨lk,.inl ⟨_,rfl,Ula m c3⟩⟩
     rw[if_neg (fun q=>c3 (beq_iff_eq.mp q))]
     by_cases c4:i+k=a.size
     ·rw[if_pos (beq_iff_eq.mpr c4)]
      exact cV ⟨lk,.inl ⟨_,rfl,Udn m (.inl c4)⟩⟩
     rw[if_neg (fun q=>c4 (beq_iff_eq.mp q))]
     have hi':i+k<a.size:=by omega
     have hi2:i+k+1<a.size:=by omega
     have hn':x+1+x1≤i+k+j:=by omega
     refine cu (AN hjb ?_)
     have m2:=m.pushB sb hjb kf'
     by_cases c5:j+1=b.size
     ·rw[if_pos (beq_iff_eq.mpr c5)]
      exact cV ⟨lk,.inl ⟨_,rfl,Udn m2 (.inr c5)⟩⟩
     rw[if_neg (fun q=>c5 (beq_iff_eq.mp q))]
     refine cu (AN hi' ?_)
     refine cu (BE C (lk.kd.trans hk) (uAt hi') uB (by omega) (by omega) ?_ ?_)
     ·intro p q hpq hq e
      unfold bt at e ⊢
      rw[if_pos rfl] at e ⊢
      have e':=of_decide_eq_true e
      have:=sb (j+1+p) (j+1+q) (by omega) (by omega)
      exact decide_eq_true (by omega)
     rintro k2 ⟨k2n,k2t,k2f⟩
     have k2t':∀x,x<k2→∀y,_≤y→y<a.size→RK rk b (j+1+x)≤RK rk a y:=fun x hx y h1 h2=>by
      have e:=k2t x hx
      unfold bt at e
      rw[if_pos rfl] at e
      have e':=of_decide_eq_true e
      have:=sa _ y h1 h2
      rw[Ar hi'] at this
      omega
     have k2f':∀y,j+1+k2≤y→y<b.size→rk (a[i+k]'hi')≤RK rk b y:=fun y h1 h2=>by
      have e:=k2f (y- (j+1)) (by omega) (by omega)
      unfold bt at e
      rw[if_pos rfl] at e
      have e':=of_decide_eq_false e
      have ey:j+1+(y- (j+1))=y:=by omega
      rw[ey] at e'
      omega
     dsimp only
     by_cases k20:k2>0
     ·rw[if_pos k20]
      have m3:=m2.appB k2 sb (by omega) k2t'
      by_cases c6:j+1+k2=b.size
      ·rw[if_pos (beq_iff_eq.mpr c6)]
       exact cV ⟨lk,.inl ⟨_,rfl,Udn m3 (.inr c6)⟩⟩
      rw[if_neg (fun q=>c6 (beq_iff_eq.mp q))]
      have m4:=m3.pushA sa hi' k2f'
      refine cu (AN hi' ?_)
      split
      ·rename_i c7
       exact cV ⟨lk,.inl ⟨_,rfl,Ula m4 (beq_iff_eq.mp c7)⟩⟩
      ·rename_i c7
       have c7':¬_=_:=fun q=>c7 (beq_iff_eq.mpr q)
       split
       ·exact cV ⟨lk,.inr ⟨_,_,_,_,_,_,rfl,m4,by omega,by omega,by omega⟩⟩
       ·exact cV ⟨lk,_,_,_,_,_,_,rfl,m4,by omega,by omega,by omega⟩
     ·rw[if_neg k20]
      have e2:j+1+k2=j+1:=by omega
      rw[e2] at k2f'
      have m4:=m2.pushA sa hi' k2f'
      refine cu (AN hi' ?_)
      split
      ·rename_i c7
       exact cV ⟨lk,.inl ⟨_,rfl,Ula m4 (beq_iff_eq.mp c7)⟩⟩
      ·rename_i c7
       have c7':¬_=_:=fun q=>c7 (beq_iff_eq.mpr q)
       split
       ·exact cV ⟨lk,.inr ⟨_,_,_,_,_,_,rfl,m4,by omega,by omega,by omega⟩⟩
       ·exact cV ⟨lk,_,_,_,_,_,_,rfl,m4,by omega,by omega,by omega⟩
    ·rw[if_neg k0]
     have e0:i+k=i:=by omega
     rw[e0] at kf'
     clear m
     have m:=hd.m
     have hi2:=hd.hi
     have hi':=hia
     have hn':=hin
     refine cu (AN hjb ?_)
     have m2:=m.pushB sb hjb kf'
     by_cases c5:j+1=b.size
     ·rw[if_pos (beq_iff_eq.mpr c5)]
      exact cV ⟨lk,.inl ⟨_,rfl,Udn m2 (.inr c5)⟩⟩
     rw[if_neg (fun q=>c5 (beq_iff_eq.mp q))]
     refine cu (AN hi' ?_)
     refine cu (BE C (lk.kd.trans hk) (uAt hi') uB (by omega) (by omega) ?_ ?_)
     ·intro p q hpq hq e
      unfold bt at e ⊢
      rw[if_pos rfl] at e ⊢
      have e':=of_decide_eq_true e
      have:=sb (j+1+p) (j+1+q) (by omega) (by omega)
      exact decide_eq_true (by omega)
     rintro k2 ⟨k2n,k2t,k2f⟩
     have k2t':∀x,x<k2→∀y,_≤y→y<a.size→RK rk b (j+1+x)≤RK rk a y:=fun x hx y h1 h2=>by
      have e:=k2t x hx
      unfold bt at e
      rw[if_pos rfl] at e
      have e':=of_decide_eq_true e
      have:=sa _ y h1 h2
      rw[Ar hi'] at this
      omega
     have k2f':∀y,j+1+k2≤y→y<b.size→rk (a[i]'hi')≤RK rk b y:=fun y h1 h2=>by
      have e:=k2f (y- (j+1)) (by omega) (by omega)
      unfold bt at e
      rw[if_pos rfl] at e
      have e':=of_decide_eq_false e
      have ey:j+1+(y- (j+1))=y:=by omega
      rw[ey] at e'
      omega
     dsimp only
     by_cases k20:k2>0
     ·rw[if_pos k20]
      have m3:=m2.appB k2 sb (by omega) k2t'
      by_cases c6:j+1+k2=b.size
      ·rw[if_pos (beq_iff_eq.mpr c6)]
       exact cV ⟨lk,.inl ⟨_,rfl,Udn m3 (.inr c6)⟩⟩
      rw[if_neg (fun q=>c6 (beq_iff_eq.mp q))]
      have m4:=m3.pushA sa hi' k2f'
      refine cu (AN hi' ?_)
      split
      ·rename_i c7
       exact cV ⟨lk,.inl ⟨_,rfl,Ula m4 (beq_iff_eq.mp c7)⟩⟩
      ·rename_i c7
       have c7':¬_=_:=fun q=>c7 (beq_iff_eq.mpr q)
       split
       ·exact cV ⟨lk,.inr ⟨_,_,_,_,_,_,rfl,m4,by omega,by omega,by omega⟩⟩
       ·exact cV ⟨lk,_,_,_,_,_,_,rfl,m4,by omega,by omega,by omega⟩
     ·rw[if_neg k20]
      have e2:j+1+k2=j+1:=by omega
      rw[e2] at k2f'
      have m4:=m2.pushA sa hi' k2f'
      refine cu (AN hi' ?_)
      split
      ·rename_i c7
       exact cV ⟨lk,.inl ⟨_,rfl,Ula m4 (beq_iff_eq.mp c7)⟩⟩
      ·rename_i c7
       have c7':¬_=_:=fun q=>c7 (beq_iff_eq.mpr q)
       split
       ·exact cV ⟨lk,.inr ⟨_,_,_,_,_,_,rfl,m4,by omega,by omega,by omega⟩⟩
       ·exact cV ⟨lk,_,_,_,_,_,_,rfl,m4,by omega,by omega,by omega⟩
  ·rintro c st2 ⟨lk,out,i,j,mg,ac,bc,rfl,hd⟩
   have e:max 0 (a.size+b.size)=a.size+b.size:=by omega
   rw[e] at hd
   exact⟨lk,.inr ⟨_,_,_,_,_,_,rfl,hd.m,hd.hi,hd.hj,by have:=hd.hn;omega⟩⟩
  rintro c st2 ⟨lk,⟨r,e,f⟩| ⟨out,i,j,mg,ac,bc,rfl,hd⟩⟩
  ·obtain⟨c1,c2⟩:=c
   cases e
   exact cV ⟨lk,_,rfl,f⟩
  dsimp only
  refine cu (Cu lk fun st3 lk=>?_)
  exact cV ⟨lk,_,_,_,_,rfl,hd⟩
 ·rintro c st1 ⟨lk,out,i,j,mg,rfl,hd⟩
  have e:max 0 (a.size+b.size)=a.size+b.size:=by omega
  rw[e] at hd
  have:=hd.hn
  have:=hd.hi
  have:=hd.hj
  omega
 ·rintro c st1 ⟨lk,r,e,f⟩
  obtain⟨c1,c2⟩:=c
  cases e
  exact cV (h _ _ lk f)
end
end SrtG
namespace SrtG
local macro_rules | `(tactic| omega) => `(tactic| first | lia | omega)
open PySem PyProof.Rows
variable{rk:Keyed→Int}
structure Mrh(rk:Keyed→Int)(a b out:Array Keyed)(i j:Nat):Prop where
 hi:i≤a.size
 hj:j≤b.size
 perm:out.toList.Perm (a.toList.drop i++b.toList.drop j)
 srt:out.toList.Pairwise fun x y=>rk y≤rk x
 ha:∀x,x∈out.toList→∀y,y<i→RK rk a y≤rk x
 hb:∀x,x∈out.toList→∀y,y<j→RK rk b y≤rk x
theorem Mrh.sym{a b out:Array Keyed}{i j:Nat}(m:Mrh rk a b out i j):Mrh rk b a out j i:=
 ⟨m.hj,m.hi,m.perm.trans gL,m.srt,m.hb,m.ha⟩
theorem Mrh.pushA{a b out:Array Keyed}{i j:Nat}(m:Mrh rk a b out (i+1) j)(sa:Ez rk a)(h:i<a.size)(hb:∀y,y<j→RK rk b y≤rk a[i]):Mrh rk a b (out.push a[i]) i j:=by
 have e:(out.push a[i]).toList=out.toList++[a[i]]:=iK ..
 have t:a.toList.drop i=a[i]::a.toList.drop (i+1):=by
  have hl:i<a.toList.length:=by rw[cZ];exact h
  rw[iA hl]
  rfl
 refine⟨by omega,m.hj,?_,?_,?_,?_⟩
 ·rw[e,t]
  exact gL.trans (m.perm.cons a[i])
 ·rw[e,km]
  refine⟨m.srt,gm _ _,fun x hx y hy=>?_⟩
  cases cq.mp hy
  have:=m.ha x hx i (iU _)
  rwa[Ar h] at this
 ·intro x hx y hy
  rw[e] at hx
  rcases dt.mp hx with hx|hx
  ·exact m.ha x hx y (by omega)
  ·cases cq.mp hx
   have:=sa y i (by omega) h
   rwa[Ar h] at this
 ·intro x hx y hy
  rw[e] at hx
  rcases dt.mp hx with hx|hx
  ·exact m.hb x hx y hy
  ·cases cq.mp hx
   exact hb y hy
theorem Mrh.pushB{a b out:Array Keyed}{i j:Nat}(m:Mrh rk a b out i (j+1))(sb:Ez rk b)(h:j<b.size)(ha:∀y,y<i→RK rk a y≤rk b[j]):Mrh rk a b (out.push b[j]) i j:=(m.sym.pushA sb h ha).sym
theorem Iv(a:Array Keyed)(l h:Nat)(hl:l<h)(hh:h≤a.size):(a.extract l h).reverse=(a.extract (l+1) h).reverse.push (a[l]'(by omega)):=by
 apply js
 rw[iK,fw,fw,eV,eV,dW,dW]
 have hln:l<a.toList.length:=by rw[cZ];omega
 have e1:h-l=(h- (l+1))+1:=by omega
 rw[iA hln,e1,List.take_succ_cons,jW]
 rfl
theorem Mrh.appA{a b:Array Keyed}{i j:Nat}:∀(k:Nat) {out:Array Keyed},Mrh rk a b out i j→Ez rk a→k≤i→(∀x,i-k≤x→x<i→∀y,y<j→RK rk b y≤RK rk a x)→Mrh rk a b (out++(a.extract (i-k) i).reverse) (i-k) j
 |0,out,m,_,_,_=>by
  have:out++(a.extract (i-0) i).reverse=out:=by
   apply js
   rw[ig,fw,eV,dW]
   have:i- (i-0)=0:=by omega
   rw[this,lg,List.reverse_nil,eZ]
  rw[this];exact m
 |k+1,out,m,sa,h,hb=>by
  have hi:=m.hi
  have m':=Mrh.appA k m sa (by omega) fun x hx=>hb x (by omega)
  have hk:i- (k+1)<a.size:=by omega
  have e:i- (k+1)+1=i-k:=by omega
  rw[Iv a (i- (k+1)) i (by omega) hi,Array.append_push,e]
  rw[←e] at m'
  have q:=m'.pushA sa hk fun y h1=>by
   have:=hb (i- (k+1)) (by omega) (by omega) y h1
   rwa[Ar hk] at this
  rw[e] at q
  exact q
theorem Mrh.appA'{a b out:Array Keyed}{i j l:Nat}(m:Mrh rk a b out i j)(sa:Ez rk a)(h:l≤i)(hb:∀x,l≤x→x<i→∀y,y<j→RK rk b y≤RK rk a x):Mrh rk a b (out++(a.extract l i).reverse) l j:=by
 have e:i- (i-l)=l:=by omega
 have q:=m.appA (i-l) sa (by omega) (by rw[e];exact hb)
 rwa[e] at q
theorem Mrh.appB'{a b out:Array Keyed}{i j l:Nat}(m:Mrh rk a b out i j)(sb:Ez rk b)(h:l≤j)(ha:∀x,l≤x→x<j→∀y,y<i→RK rk a y≤RK rk b x):Mrh rk a b (out++(b.extract l j).reverse) i l:=(m.sym.appA' sb h ha).sym
theorem Mrh.fin{a b out:Array Keyed}(m:Mrh rk a b out 0 0):Fin2 rk a b out.reverse:=by
 have p:=m.perm
 rw[List.drop_zero,List.drop_zero] at p
 constructor
 ·rw[fw]
  exact(List.reverse_perm _).trans p
 ·rw[fw,List.pairwise_reverse]
  exact m.srt
theorem Mrh.restAB{a b out:Array Keyed}{i j:Nat}(m:Mrh rk a b out i j)(sa:Ez rk a)(sb:Ez rk b)(h:∀x y,x<i→y<j→RK rk a x≤RK rk b y):Fin2 rk a b (a.extract 0 i++b.extract 0 j++out.reverse):=by
 have m1:=m.appB' (l:=0) sb (by omega) fun x _ hx y hy=>h y x hy hx
 have m2:=m1.appA' (l:=0) sa (by omega) fun x _ _ y hy=>by omega
 have f:=m2.fin
 have e:(out++(b.extract 0 j).reverse++(a.extract 0 i).reverse).reverse=a.extract 0 i++b.extract 0 j++out.reverse:=by
  apply js
  rw[fw,ig,ig,ig,ig,fw,fw,fw,kz,kz,List.reverse_reverse,List.reverse_reverse,fe]
 rwa[e] at f
theorem Mrh.restBA{a b out:Array Keyed}{i j:Nat}(m:Mrh rk a b out i j)(sa:Ez rk a)(sb:Ez rk b)(h:∀x y,x<i→y<j→RK rk b y≤RK rk a x):Fin2 rk a b (b.extract 0 j++a.extract 0 i++out.reverse):=by
 have f:=m.sym.restAB sb sa fun x y h1 h2=>h y x h2 h1
 exact⟨f.perm.trans gL,f.srt⟩
def KB:Array Keyed→Array Keyed→StateT SortSt Sem (Array Keyed):=sortPriv%PySem.Builtin.mergeHi
abbrev bh(a b out:Array Keyed)(i j:Nat):Array Keyed:=a.extract 0 i++b.extract 0 j++out.reverse
abbrev bj(a b out:Array Keyed)(i j:Nat):Array Keyed:=b.extract 0 j++a.extract 0 i++out.reverse
end SrtG
namespace SrtG
local macro_rules | `(tactic| omega) => `(tactic| first | lia | omega)
open PySem PyProof.Rows
variable{prog:Program}{w:World}{A:de}{E:Value→Shared→Prop}{s:Shared}{kd:jo}{U:Keyed→Prop}{rk:Keyed→Int}
theorem Mrh.pushA1{a b out:Array Keyed}{i j:Nat}(m:Mrh rk a b out i j)(sa:Ez rk a)(h0:0<i)(h:i-1<a.size)(hb:∀y,y<j→RK rk b y≤rk a[i-1]):Mrh rk a b (out.push a[i-1]) (i-1) j:=by
 cases i with
 |zero=>omega
 |succ i=>exact m.pushA sa h hb
structure Hh(rk:Keyed→Int)(a b out:Array Keyed)(i j n:Nat):Prop where
 m:Mrh rk a b out i j
 hi:0<i
 hj:1<j
 hn:i+j+n≤a.size+b.size
theorem KC{a b:Array Keyed}{st:eB}{Q:Array Keyed→eB→Prop}(C:Om prog w A E s kd U rk)(hk:kindOf st=kd)(uA:AllU U a)(uB:AllU U b)(sa:Ez rk a)(sb:Ez rk b)(ha0:0<a.size)(hb0:0<b.size)
  (hfst:RK rk b 0≤RK rk a 0) (hlst:RK rk b (b.size-1)≤RK rk a (a.size-1))
  (h:∀r st',Like st st'→Fin2 rk a b r→Q r st'):wpS (model prog w) A E s (KB a b) Q st:=by
 have Udn:∀{out i j},Mrh rk a b out i j→i=0∨j=0→Fin2 rk a b (bh a b out i j):=fun m hh=>m.restAB sa sb fun x y _ _=>by omega
 have Ula:∀{out i j},Mrh rk a b out i j→j=1→Fin2 rk a b (bj a b out i j):=fun{out i j} m hh=>m.restBA sa sb fun x y h1 h2=>by
  have hi:=m.hi
  have e1:=sa 0 x (by omega) (by omega)
  have e:y=0:=by omega
  subst e
  omega
 have uAt:∀{i} (hi:i<a.size),U a[i]:=fun hi=>uA _ _ (getElem?_pos a _ hi)
 have uBt:∀{i} (hi:i<b.size),U b[i]:=fun hi=>uB _ _ (getElem?_pos b _ hi)
 have hal:a.size-1<a.size:=by omega
 delta KB
 refine cu (ki (jG ⟨rfl,?_⟩))
 refine cu (AN hal ?_)
 have m0:Mrh rk a b #[] (a.size-1+1) b.size:=by
  have e:a.size-1+1=a.size:=by omega
  rw[e]
  refine⟨by omega,by omega,?_,hV,(fun x hx=>by cases hx),(fun x hx=>by cases hx)⟩
  rw[←cZ,←cZ,List.drop_length,List.drop_length]
  exact gZ.nil
 have m1:Mrh rk a b #[a[a.size-1]] (a.size-1) b.size:=m0.pushA sa hal fun y hy=>by
  have e1:=sb y (b.size-1) (by omega) (by omega)
  rw[←Ar (rk:=rk) hal]
  omega
 dsimp only
 by_cases c1:a.size-1=0
 ·rw[if_pos (beq_iff_eq.mpr c1)]
  exact cV (h _ _ (Like.refl _) (Udn m1 (.inl c1)))
 rw[if_neg (fun q=>c1 (beq_iff_eq.mp q))]
 by_cases c2:b.size=1
 ·rw[if_pos (beq_iff_eq.mpr c2)]
  exact cV (h _ _ (Like.refl _) (Ula m1 c2))
 rw[if_neg (fun q=>c2 (beq_iff_eq.mp q))]
 refine cu (jC ?_)
 refine cu (fW (eK (I:=fun x c st'=>Like st st'∧∃out i j mg,c=(none,i,j,out,mg)∧Hh rk a b out i j (x+1))
  (Q:=fun c st'=>Like st st'∧∃r,c.1=some r∧Fin2 rk a b r) ?_ ?_ ⟨Like.refl _,_,_,_,_,rfl,m1,by omega,by omega,by omega⟩) ?_)
 ·rintro x c st1 _ hx ⟨lk,out,i,j,mg,rfl,hd⟩
  dsimp only
  refine cu (fW (eK (I:=fun _ c st'=>Like st st'∧∃out i j ac bc,c=(none,i,j,out,ac,bc)∧Hh rk a b out i j (x+1))
   (Q:=fun c st'=>Like st st'∧((∃r,c.1=some r∧Fin2 rk a b r)∨∃out i j ac bc,c=(none,i,j,out,ac,bc)∧Hh rk a b out i j (x+1))) ?_ ?_ ⟨lk,_,_,_,_,_,rfl,hd⟩) ?_)
  ·rintro x1 c st2 _ hx1 ⟨lk,out,i,j,ac,bc,rfl,hd⟩
   have hi0:=hd.hi
   have hj0:=hd.hj
   have hin:=hd.hn
   have hia:i-1<a.size:=by have:=hd.m.hi;omega
   have hjb:j-1<b.size:=by have:=hd.m.hj;omega
   have ei:i-1+1=i:=by omega
   have ej:j-1+1=j:=by omega
   have m:=hd.m
   dsimp only
   refine cu (AN hjb ?_)
   refine cu (AN hia ?_)
   refine cu (C _ _ _ _ (lk.kd.trans hk) (uBt hjb) (uAt hia) ?_)
   dsimp only
   by_cases hlt:rk b[j-1]<rk a[i-1]
   ·rw[if_pos (by exact decide_eq_true hlt)]
    rw[←ei] at m
    have m:=m.pushA sa hia fun y h1=>by
     have:=sb y (j-1) (by omega) hjb
     rw[Ar hjb] at this
     omega
    refine cu (AN hia ?_)
    by_cases c3:i-1=0
    ·rw[if_pos (beq_iff_eq.mpr c3)]
     exact cV ⟨lk,.inl ⟨_,rfl,Udn m (.inl c3)⟩⟩
    rw[if_neg (fun q=>c3 (beq_iff_eq.mp q))]
    have hd':Hh rk a b (out.push a[i-1]) (i-1) j (x+1):=⟨m,by omega,by omega,by omega⟩
    split
    ·exact cV ⟨lk,.inr ⟨_,_,_,_,_,rfl,hd'⟩⟩
    ·exact cV ⟨lk,_,_,_,_,_,rfl,hd'⟩
   ·rw[if_neg (fun q=>hlt (of_decide_eq_true q))]
    rw[←ej] at m
    have m:=m.pushB sb hjb fun y h1=>by
     have:=sa y (i-1) (by omega) hia
     rw[Ar hia] at this
     omega
    refine cu (AN hjb ?_)
    by_cases c3:j-1=1
    ·rw[if_pos (beq_iff_eq.mpr c3)]
     exact cV ⟨lk,.inl ⟨_,rfl,Ula m c3⟩⟩
    rw[if_neg (fun q=>c3 (beq_iff_eq.mp q))]
    have hd':Hh rk a b (out.push b[j-1]) i (j-1) (x+1):=⟨m,by omega,by omega,by omega⟩
    split
    ·exact cV ⟨lk,.inr ⟨_,_,_,_,_,rfl,hd'⟩⟩
    ·exact cV ⟨lk,_,_,_,_,_,rfl,hd'⟩
  ·rintro c st2 ⟨lk,hh⟩
   exact⟨lk,.inr hh⟩
  rintro c st2 ⟨lk,⟨r,e,f⟩| ⟨out,i,j,ac,bc,rfl,hd⟩⟩
  ·obtain⟨c1,c2⟩:=c
   cases e
   exact cV ⟨lk,_,rfl,f⟩
  dsimp only
  refine cu (ki (jG ⟨rfl,?_⟩))
  refine cu (fW (eK (I:=fun y c st'=>Like st st'∧∃out i j mg ac bc,c=(none,i,j,out,mg,ac,bc)∧Hh rk a b out i j (x+1+y))
   (Q:=fun c st'=>Like st st'∧((∃r,c.1=some r∧Fin2 rk a b r)∨∃out i j mg ac bc,c=(none,i,j,out,mg,ac,bc)∧Hh rk a b out i j (x+1+1))) ?_ ?_ ⟨lk,_,_,_,_,_,_,rfl,hd⟩) ?_)
  ·rintro x1 c st2 _ hx1 ⟨lk,out,i,j,mg,ac,bc,rfl,hd⟩
   have hi0:=hd.hi
   have hj0:=hd.hj
   have hin:=hd.hn
   have hia:=hd.m.hi
   have hjl:=hd.m.hj
   have hjb:j-1<b.size:=by omega
   dsimp only
   refine dite (mg>1) (fun hmg=>?_) (fun hmg=>?_)
   all_goals first|rw[if_pos hmg]|rw[if_neg hmg]
   all_goals
    refine cu (Cu lk fun st3 lk=>?_)
    refine cu (AN hjb ?_)
    refine cu (BE C (lk.kd.trans hk) (uBt hjb) uA (by omega) (by omega) ?_ ?_)
    ·intro p q hpq hq e
     unfold bt at e ⊢
     rw[if_neg cf] at e ⊢
     have e':=of_decide_eq_false (fQ _|>.mp e)
     have:=sa (0+p) (0+q) (by omega) (by omega)
     exact(fQ _).mpr (decide_eq_false (by omega))
    rintro p ⟨kn,kt,kf⟩
    have kf':∀y,y<p→RK rk a y≤rk b[j-1]:=fun y hy=>by
     have e:=kt y hy
     unfold bt at e
     rw[if_neg cf] at e
     have e':=of_decide_eq_false (fQ _|>.mp e)
     rw[ip] at e'
     omega
    have kt':∀x,p≤x→x<i→∀y,y<j→RK rk b y≤RK rk a x:=fun x h1 h2 y h3=>by
     have e:=kf x h1 h2
     unfold bt at e
     rw[if_neg cf] at e
     have e':=of_decide_eq_true (lh _|>.mp e)
     rw[ip] at e'
     have:=sb y (j-1) (by omega) hjb
     rw[Ar hjb] at this
     omega
    have m:=hd.m.appA' sa kn kt'
    dsimp only
    by_cases k0:i-p>0
    ·rw[if_pos k0]
     by_cases c3:p=0
     ·rw[if_pos (beq_iff_eq.mpr c3)]
      exact cV ⟨lk,.inl ⟨_,rfl,Udn m (.inl c3)⟩⟩
     rw[if_neg (fun q=>c3 (beq_iff_eq.mp q))]
     have hI:0<p:=by omega
     have ej:j-1+1=j:=by omega
     rw[←ej] at m
     have m2:=m.pushB sb hjb kf'
     refine cu (AN hjb ?_)
     by_cases c5:j-1=1
     ·rw[if_pos (beq_iff_eq.mpr c5)]
      exact cV ⟨lk,.inl ⟨_,rfl,Ula m2 (by omega)⟩⟩
     rw[if_neg (fun q=>c5 (beq_iff_eq.mp q))]
     have hI1:p-1<a.size:=by omega
     refine cu (AN hI1 ?_)
     refine cu (BE C (lk.kd.trans hk) (uAt hI1) uB (by omega) (by omega) ?_ ?_)
     ·intro p q hpq hq e
      unfold bt at e ⊢
      rw[if_pos rfl] at e ⊢
      have e':=of_decide_eq_true e
      have:=sb (0+p) (0+q) (by omega) (by omega)
      exact decide_eq_true (by omega)
     rintro q ⟨k2n,k2t,k2f⟩
     have k2t':∀y,y<q→RK rk b y≤rk (a[p-1]'hI1):=fun y hx=>by
      have e:=k2t y hx
      unfold bt at e
      rw[if_pos rfl] at e
      have e':=of_decide_eq_true e
      rw[ip] at e'
      omega
     have k2f':∀x,q≤x→x<j-1→∀y,y<p→RK rk a y≤RK rk b x:=fun x h1 h2 y h3=>by
      have e:=k2f x h1 h2
      unfold bt at e
      rw[if_pos rfl] at e
      have e':=of_decide_eq_false e
      rw[ip] at e'
      have:=sa y (p-1) (by omega) hI1
      rw[Ar hI1] at this
      omega
     have eI:p-1+1=p:=by omega
     dsimp only
     by_cases k20:j-1-q>0
     ·rw[if_pos k20]
      have m3:=m2.appB' sb k2n k2f'
      by_cases c6:q=1
      ·rw[if_pos (beq_iff_eq.mpr c6)]
       exact cV ⟨lk,.inl ⟨_,rfl,Ula m3 (by omega)⟩⟩
      rw[if_neg (fun q=>c6 (beq_iff_eq.mp q))]
      by_cases c8:q=0
      ·rw[if_pos (beq_iff_eq.mpr c8)]
       exact cV ⟨lk,.inl ⟨_,rfl,Udn m3 (.inr c8)⟩⟩
      rw[if_neg (fun q=>c8 (beq_iff_eq.mp q))]
      have m4:=m3.pushA1 sa hI hI1 k2t'
      refine cu (AN hI1 ?_)
      by_cases c7:p-1=0
      ·rw[if_pos (beq_iff_eq.mpr c7)]
       exact cV ⟨lk,.inl ⟨_,rfl,Udn m4 (.inl c7)⟩⟩
      rw[if_neg (fun q=>c7 (beq_iff_eq.mp q))]
      split
      ·exact cV ⟨lk,.inr ⟨_,_,_,_,_,_,rfl,m4,by omega,by omega,by omega⟩⟩
      ·exact cV ⟨lk,_,_,_,_,_,_,rfl,m4,by omega,by omega,by omega⟩
     ·rw[if_neg k20]
      have e2:q=j-1:=by omega
      rw[e2] at k2t'
      have m4:=m2.pushA1 sa hI hI1 k2t'
      refine cu (AN hI1 ?_)
      by_cases c7:p-1=0
      ·rw[if_pos (beq_iff_eq.mpr c7)]
       exact cV ⟨lk,.inl ⟨_,rfl,Udn m4 (.inl c7)⟩⟩
      rw[if_neg (fun q=>c7 (beq_iff_eq.mp q))]
      split
      ·exact cV ⟨lk,.inr ⟨_,_,_,_,_,_,rfl,m4,by omega,by omega,by omega⟩⟩
      ·exact cV ⟨lk,_,_,_,_,_,_,rfl,m4,by omega,by omega,by omega⟩
    ·rw[if_neg k0]
     have e0:p=i:=by omega
     rw[e0] at kf'
     clear m
     have m:=hd.m
     have hI:=hi0
     have ej:j-1+1=j:=by omega
     rw[←ej] at m
     have m2:=m.pushB sb hjb kf'
     refine cu (AN hjb ?_)
     by_cases c5:j-1=1
     ·rw[if_pos (beq_iff_eq.mpr c5)]
      exact cV ⟨lk,.inl ⟨_,rfl,Ula m2 (by omega)⟩⟩
     rw[if_neg (fun q=>c5 (beq_iff_eq.mp q))]
     have hI1:i-1<a.size:=by omega
     refine cu (AN hI1 ?_)
     refine cu (BE C (lk.kd.trans hk) (uAt hI1) uB (by omega) (by omega) ?_ ?_)
     ·intro p q hpq hq e
      unfold bt at e ⊢
      rw[if_pos rfl] at e ⊢
      have e':=of_decide_eq_true e
      have:=sb (0+p) (0+q) (by omega) (by omega)
      exact decide_eq_true (by omega)
     rintro q ⟨k2n,k2t,k2f⟩
     have k2t':∀y,y<q→RK rk b y≤rk (a[i-1]'hI1):=fun y hx=>by
      have e:=k2t y hx
      unfold bt at e
      rw[if_pos rfl] at e
      have e':=of_decide_eq_true e
      rw[ip] at e'
      omega
     have k2f':∀x,q≤x→x<j-1→∀y,y<i→RK rk a y≤RK rk b x:=fun x h1 h2 y h3=>by
      have e:=k2f x h1 h2
      unfold bt at e
      rw[if_pos rfl] at e
      have e':=of_decide_eq_false e
      rw[ip] at e'
      have:=sa y (i-1) (by omega) hI1
      rw[Ar hI1] at this
      omega
     have eI:i-1+1=i:=by omega
     dsimp only
     by_cases k20:j-1-q>0
     ·rw[if_pos k20]
      have m3:=m2.appB' sb k2n k2f'
      by_cases c6:q=1
      ·rw[if_pos (beq_iff_eq.mpr c6)]
       exact cV ⟨lk,.inl ⟨_,rfl,Ula m3 (by omega)⟩⟩
      rw[if_neg (fun q=>c6 (beq_iff_eq.mp q))]
      by_cases c8:q=0
      ·rw[if_pos (beq_iff_eq.mpr c8)]
       exact cV ⟨lk,.inl ⟨_,rfl,Udn m3 (.inr c8)⟩⟩
      rw[if_neg (fun q=>c8 (beq_iff_eq.mp q))]
      have m4:=m3.pushA1 sa hI hI1 k2t'
      refine cu (AN hI1 ?_)
      by_cases c7:i-1=0
      ·rw[if_pos (beq_iff_eq.mpr c7)]
       exact cV ⟨lk,.inl ⟨_,rfl,Udn m4 (.inl c7)⟩⟩
      rw[if_neg (fun q=>c7 (beq_iff_eq.mp q))]
      split
      ·exact cV ⟨lk,.inr ⟨_,_,_,_,_,_,rfl,m4,by omega,by omega,by omega⟩⟩
      ·exact cV ⟨lk,_,_,_,_,_,_,rfl,m4,by omega,by omega,by omega⟩
     ·rw[if_neg k20]
      have e2:q=j-1:=by omega
      rw[e2] at k2t'
      have m4:=m2.pushA1 sa hI hI1 k2t'
      refine cu (AN hI1 ?_)
      by_cases c7:i-1=0
      ·rw[if_pos (beq_iff_eq.mpr c7)]
       exact cV ⟨lk,.inl ⟨_,rfl,Udn m4 (.inl c7)⟩⟩
      rw[if_neg (fun q=>c7 (beq_iff_eq.mp q))]
      split
      ·exact cV ⟨lk,.inr ⟨_,_,_,_,_,_,rfl,m4,by omega,by omega,by omega⟩⟩
      ·exact cV ⟨lk,_,_,_,_,_,_,rfl,m4,by omega,by omega,by omega⟩
  ·rintro c st2 ⟨lk,out,i,j,mg,ac,bc,rfl,hd⟩
   have e:max 0 (a.size+b.size)=a.size+b.size:=by omega
   rw[e] at hd
   exact⟨lk,.inr ⟨_,_,_,_,_,_,rfl,hd.m,hd.hi,hd.hj,by have:=hd.hn;omega⟩⟩
  rintro c st2 ⟨lk,⟨r,e,f⟩| ⟨out,i,j,mg,ac,bc,rfl,hd⟩⟩
  ·obtain⟨c1,c2⟩:=c
   cases e
   exact cV ⟨lk,_,rfl,f⟩
  dsimp only
  refine cu (Cu lk fun st3 lk=>?_)
  exact cV ⟨lk,_,_,_,_,rfl,hd⟩
 ·rintro c st1 ⟨lk,out,i,j,mg,rfl,hd⟩
  have e:max 0 (a.size+b.size)=a.size+b.size:=by omega
  rw[e] at hd
  have:=hd.hn
  have:=hd.hi
  have:=hd.hj
  omega
 ·rintro c st1 ⟨lk,r,e,f⟩
  obtain⟨c1,c2⟩:=c
  cases e
  exact cV (h _ _ lk f)
end SrtG
namespace SrtG
local macro_rules | `(tactic| omega) => `(tactic| first | lia | omega)
open PySem PyProof.Rows
variable{rk:Keyed→Int}
def Seg(rk:Keyed→Int)(arr:Array Keyed)(lo hi:Nat):Prop:=∀x y,lo≤x→x≤y→y<hi→RK rk arr x≤RK rk arr y
structure Upd(rk:Keyed→Int)(arr arr':Array Keyed)(lo hi:Nat):Prop where
 perm:arr'.toList.Perm arr.toList
 out:∀x,x<lo∨hi≤x→arr'[x]?=arr[x]?
 seg:Seg rk arr' lo hi
theorem CV{arr arr':Array Keyed}{x:Nat}(h:arr'[x]?=arr[x]?):RK rk arr' x=RK rk arr x:=by unfold RK;rw[h]
abbrev back(l:List (Keyed×Nat))(lo:Nat)(arr:Array Keyed):Array Keyed:=l.foldl (fun a (p,j)=>a.setIfInBounds (lo+j) p) arr
theorem Gg(lo:Nat):∀(l:List Keyed) (n:Nat) (arr:Array Keyed),lo+n+l.length≤arr.size→∀x,(back (l.zipIdx n) lo arr)[x]?=if lo+n≤x∧x<lo+n+l.length then l[x- (lo+n)]? else arr[x]?
 | [],n,arr,_,x=>by
  rw[if_neg (by rintro⟨h1,h2⟩;simp only[gH] at h2;omega)]
  rfl
 |p::l,n,arr,h,x=>by
  rw[c9] at h
  have e:back ((p::l).zipIdx n) lo arr=back (l.zipIdx (n+1)) lo (arr.setIfInBounds (lo+n) p):=by rw[List.zipIdx_cons];rfl
  rw[e,Gg lo l (n+1) _ (by rw[Array.size_setIfInBounds];omega) x,c9]
  by_cases c:lo+(n+1)≤x∧x<lo+(n+1)+l.length
  ·rw[if_pos c,if_pos (by omega)]
   have e2:x- (lo+n)=(x- (lo+(n+1)))+1:=by omega
   rw[e2,gz]
  ·rw[if_neg c,Array.getElem?_setIfInBounds]
   by_cases c2:lo+n=x
   ·rw[if_pos c2,if_pos (by omega),if_pos (by omega)]
    have e2:x- (lo+n)=0:=by omega
    rw[e2];rfl
   ·rw[if_neg c2,if_neg (by omega)]
theorem OH{arr:Array Keyed}{l:List Keyed}{lo:Nat}(h:lo+l.length≤arr.size):(back l.zipIdx lo arr).toList=arr.toList.take lo++l++arr.toList.drop (lo+l.length):=by
 apply fv
 intro x
 rw[dG,Gg lo l 0 arr (by omega) x]
 have hlen:arr.toList.length=arr.size:=cZ
 by_cases c1:x<lo
 ·rw[if_neg (by omega),fe,dM (by rw[dI];omega),i6,if_pos c1,dG]
 ·by_cases c2:x<lo+l.length
  ·rw[if_pos (by omega),dM (by rw[dh,dI];omega),dB (by rw[dI];omega),dI]
   have e:min lo arr.toList.length=lo:=by omega
   rw[e]
   rfl
  ·rw[if_neg (by omega),dB (by rw[dh,dI];omega),fD,dh,dI]
   have e:lo+l.length+(x- (min lo arr.toList.length+l.length))=x:=by omega
   rw[e,dG]
theorem Pn{arr merged:Array Keyed}{lo hi s0 e0:Nat}(hhi:lo≤hi)(hs:s0≤lo)(he:hi≤e0)(hz:e0≤arr.size)(perm:merged.toList.Perm (arr.extract lo hi).toList)(srt:merged.toList.Pairwise fun x y=>rk x≤rk y)
  (hL:∀x z,s0≤x→x<lo→x≤z→z<e0→RK rk arr x≤RK rk arr z) (hR:∀z y,s0≤z→z≤y→hi≤y→y<e0→RK rk arr z≤RK rk arr y):Upd rk arr (back merged.toList.zipIdx lo arr) s0 e0:=by
 have hx:(arr.extract lo hi).toList=(arr.toList.drop lo).take (hi-lo):=by rw[eV,dW]
 have hlenA:arr.toList.length=arr.size:=cZ
 have hlen:merged.toList.length=hi-lo:=by
  rw[perm.length_eq,hx,dI,gO]
  omega
 have hfit:lo+merged.toList.length≤arr.size:=by omega
 have hget:=Gg lo merged.toList 0 arr (by omega)
 have hmid:∀m,m∈merged.toList→∃z,lo≤z∧z<hi∧rk m=RK rk arr z:=fun m hm=>by
  have hm':=perm.mem_iff.mp hm
  rw[hx] at hm'
  obtain⟨i,hi'⟩:=List.mem_iff_getElem?.mp hm'
  rw[i6] at hi'
  split at hi'
  ·rename_i hlt
   rw[fD,dG] at hi'
   exact⟨lo+i,by omega,by omega,by unfold RK;rw[hi']⟩
  ·cases hi'
 have hRK:∀x,lo≤x→x<hi→∃m,m∈merged.toList∧merged.toList[x-lo]?=some m∧RK rk (back merged.toList.zipIdx lo arr) x=rk m:=fun x h1 h2=>by
  have hl:x-lo<merged.toList.length:=by omega
  refine⟨_,gu hl,cc hl,?_⟩
  unfold RK
  rw[hget x,if_pos (by omega)]
  have e:x- (lo+0)=x-lo:=by omega
  rw[e,cc hl]
 have hout:∀x,x<lo∨hi≤x→(back merged.toList.zipIdx lo arr)[x]?=arr[x]?:=fun x h=>by
  rw[hget x,if_neg (by omega)]
 refine⟨?_,fun x h=>hout x (by omega),?_⟩
 ·rw[OH hfit]
  have e:arr.toList=arr.toList.take lo++((arr.toList.drop lo).take (hi-lo))++arr.toList.drop (lo+merged.toList.length):=by
   rw[fe]
   have e2:lo+merged.toList.length=lo+(hi-lo):=by omega
   rw[e2,←List.drop_drop,fM,fM]
  rw[hx] at perm
  have:=(perm.append_left (arr.toList.take lo)).append_right (arr.toList.drop (lo+merged.toList.length))
  rw[←e] at this
  exact this
 ·intro x y h1 h2 h3
  by_cases cx:x<lo
  ·rw[CV (hout x (.inl cx))]
   by_cases cy:lo≤y∧y<hi
   ·obtain⟨m,hm,_,e⟩:=hRK y cy.1 cy.2
    obtain⟨z,z1,z2,ez⟩:=hmid m hm
    rw[e,ez]
    exact hL x z h1 cx (by omega) (by omega)
   ·rw[CV (hout y (by omega))]
    exact hL x y h1 cx h2 h3
  ·by_cases cx2:x<hi
   ·obtain⟨m,hm,hm2,e⟩:=hRK x (by omega) cx2
    rw[e]
    by_cases cy:y<hi
    ·obtain⟨m',hm',hm2',e'⟩:=hRK y (by omega) cy
     rw[e']
     by_cases exy:x=y
     ·subst exy
      rw[hm2] at hm2'
      cases hm2'
      exact iW _
     ·have hl:y-lo<merged.toList.length:=by omega
      have hl':x-lo<merged.toList.length:=by omega
      have:=dU.mp srt (x-lo) (y-lo) hl' hl (by omega)
      rw[cc hl'] at hm2
      rw[cc hl] at hm2'
      cases hm2
      cases hm2'
      exact this
    ·rw[CV (hout y (by omega))]
     obtain⟨z,z1,z2,ez⟩:=hmid m hm
     rw[ez]
     exact hR z y (by omega) (by omega) (by omega) h3
   ·rw[CV (hout x (by omega)),CV (hout y (by omega))]
    exact hR x y h1 h2 (by omega) h3
end SrtG
namespace SrtG
local macro_rules | `(tactic| omega) => `(tactic| first | lia | omega)
open PySem PyProof.Rows
variable{rk:Keyed→Int}
theorem Fu{arr:Array Keyed}{l h:Nat}(hh:h≤arr.size):(arr.extract l h).size=h-l:=by rw[Array.size_extract];omega
theorem Po{arr:Array Keyed}{l h x:Nat}(hx:x<h-l)(hh:h≤arr.size):(arr.extract l h)[x]?=arr[l+x]?:=by
 rw[←dG,eV,dW,i6,if_pos hx,fD,dG]
theorem IB{arr:Array Keyed}{l h x:Nat}(hx:x<h-l)(hh:h≤arr.size):RK rk (arr.extract l h) x=RK rk arr (l+x):=by unfold RK;rw[Po hx hh]
theorem AllU.ex{U:Keyed→Prop}{arr:Array Keyed}{l h:Nat}(u:AllU U arr)(hh:h≤arr.size):AllU U (arr.extract l h):=fun i p e=>by
 have hi:i< (arr.extract l h).size:=by
  apply fX
  intro hn
  rw[Array.getElem?_eq_none (j9 hn)] at e
  cases e
 rw[Fu hh] at hi
 rw[Po hi hh] at e
 exact u _ _ e
theorem Seg.ex{arr:Array Keyed}{l h:Nat}(sg:Seg rk arr l h)(hh:h≤arr.size):Ez rk (arr.extract l h):=fun i j hij hj=>by
 rw[Fu hh] at hj
 rw[IB (by omega) hh,IB hj hh]
 exact sg _ _ (by omega) (by omega) (by omega)
section
variable{prog:Program}{w:World}{A:de}{E:Value→Shared→Prop}{s:Shared}{kd:jo}{U:Keyed→Prop}
theorem Sh{st st':eB}{Q:PUnit→eB→Prop}(h:Q ⟨⟩ st'):wpS (model prog w) A E s (set st':StateT eB Sem PUnit) Q st:=by
 unfold wpS;rw[StateT.run_set];exact b9 ⟨rfl,h⟩
theorem KE{i sa na pa sb nb pb:Nat}{st:eB}{Q:Bool→eB→Prop}(C:Om prog w A E s kd U rk)(hk:kindOf st=kd)(hU:AllU U (arrOf st))(hf:iR st=none)
  (h1:(pendingOf st)[i]?=some (sa,na,pa)) (h2:(pendingOf st)[i+1]?=some (sb,nb,pb)) (hsb:sb=sa+na) (hna:0<na) (hnb:0<nb) (hsz:sb+nb≤(arrOf st).size) (S1:Seg rk (arrOf st) sa sb) (S2:Seg rk (arrOf st) sb (sb+nb))
  (h:∀st',kindOf st'=kd→iR st'=none→pendingOf st'=((pendingOf st).setIfInBounds i (sa,na+nb,pa)).eraseIdxIfInBounds (i+1)→Upd rk (arrOf st) (arrOf st') sa (sb+nb)→Q true st'):
  wpS (model prog w) A E s (mergeAt' i) Q st:=by
 delta mergeAt'
 refine cu (jC ?_)
 rw[h1,h2]
 dsimp only
 refine cu (Sh ?_)
 have hsbz:sb< (arrOf st).size:=by omega
 have uAt:∀{i} (hi:i< (arrOf st).size),U (arrOf st)[i]:=fun hi=>hU _ _ (getElem?_pos (arrOf st) _ hi)
 refine cu (AN (arr:=arrOf st) hsbz ?_)
 refine cu (BE (arr:=arrOf st) C hk (uAt hsbz) hU (by omega) hna ?_ ?_)
 ·intro p q hpq hq e
  unfold bt at e ⊢
  rw[if_neg cf] at e ⊢
  have e':=of_decide_eq_false (fQ _|>.mp e)
  have:=S1 (sa+p) (sa+q) (by omega) (by omega) (by omega)
  exact(fQ _).mpr (decide_eq_false (by omega))
 rintro k ⟨kn,kt,kf⟩
 have kt':∀x,sa≤x→x<sa+k→RK rk (arrOf st) x≤RK rk (arrOf st) sb:=fun x hx1 hx=>by
  have e:=kt (x-sa) (by omega)
  unfold bt at e
  rw[if_neg cf] at e
  have e':=of_decide_eq_false (fQ _|>.mp e)
  have ex:sa+(x-sa)=x:=by omega
  rw[ex] at e'
  rw[Ar hsbz]
  omega
 have kf':∀x,sa+k≤x→x<sb→RK rk (arrOf st) sb<RK rk (arrOf st) x:=fun x hx1 hx=>by
  have e:=kf (x-sa) (by omega) (by omega)
  unfold bt at e
  rw[if_neg cf] at e
  have e':=of_decide_eq_true (lh _|>.mp e)
  have ex:sa+(x-sa)=x:=by omega
  rw[ex] at e'
  rw[Ar hsbz]
  omega
 dsimp only
 by_cases c1:na-k=0
 ·rw[if_pos (beq_iff_eq.mpr c1)]
  refine cV (h _ hk hf rfl ⟨gZ.refl _,fun _ _=>rfl,fun x y hx1 hx2 hx3=>?_⟩)
  by_cases cy:y<sb
  ·exact S1 x y hx1 hx2 cy
  ·by_cases cx:x<sb
   ·have e1:=kt' x hx1 (by omega)
    have e2:=S2 sb y (by omega) (by omega) hx3
    exact i7 e1 e2
   ·exact S2 x y (by omega) hx2 hx3
 rw[if_neg (fun q=>c1 (beq_iff_eq.mp q))]
 have el:sa+k+(na-k)-1=sb-1:=by omega
 rw[el]
 have hlz:sb-1< (arrOf st).size:=by omega
 refine cu (AN (arr:=arrOf st) hlz ?_)
 refine cu (BE (arr:=arrOf st) C hk (uAt hlz) hU (by omega) (by omega) ?_ ?_)
 ·intro p q hpq hq e
  unfold bt at e ⊢
  rw[if_pos rfl] at e ⊢
  have e':=of_decide_eq_true e
  have:=S2 (sb+p) (sb+q) (by omega) (by omega) (by omega)
  exact decide_eq_true (by omega)
 rintro n2 ⟨nn,nt,nf⟩
 have nt':∀x,sb≤x→x<sb+n2→RK rk (arrOf st) x<RK rk (arrOf st) (sb-1):=fun x hx1 hx=>by
  have e:=nt (x-sb) (by omega)
  unfold bt at e
  rw[if_pos rfl] at e
  have e':=of_decide_eq_true e
  have ex:sb+(x-sb)=x:=by omega
  rw[ex] at e'
  rw[Ar hlz]
  omega
 have nf':∀x,sb+n2≤x→x<sb+nb→RK rk (arrOf st) (sb-1)≤RK rk (arrOf st) x:=fun x hx1 hx=>by
  have e:=nf (x-sb) (by omega) (by omega)
  unfold bt at e
  rw[if_pos rfl] at e
  have e':=of_decide_eq_false e
  have ex:sb+(x-sb)=x:=by omega
  rw[ex] at e'
  rw[Ar hlz]
  omega
 dsimp only
 have hlast:=kf' (sb-1) (by omega) (by omega)
 by_cases c2:n2=0
 ·have:=nf' sb (by omega) (by omega)
  omega
 rw[if_neg (fun q=>c2 (beq_iff_eq.mp q))]
 have hy:sb+n2≤(arrOf st).size:=by omega
 have hx':sb≤(arrOf st).size:=by omega
 have sA:Ez rk ((arrOf st).extract (sa+k) sb):=Seg.ex (fun x y q1 q2 q3=>S1 x y (by omega) q2 q3) hx'
 have sB:Ez rk ((arrOf st).extract sb (sb+n2)):=Seg.ex (fun x y q1 q2 q3=>S2 x y q1 q2 (by omega)) hy
 have zA:((arrOf st).extract (sa+k) sb).size=sb- (sa+k):=Fu hx'
 have zB:((arrOf st).extract sb (sb+n2)).size=sb+n2-sb:=Fu hy
 have q0:RK rk ((arrOf st).extract sb (sb+n2)) 0≤RK rk ((arrOf st).extract (sa+k) sb) 0:=by
  rw[IB (by omega) hy,IB (by omega) hx']
  have:=kf' (sa+k+0) (by omega) (by omega)
  exact gE this
 have q1:RK rk ((arrOf st).extract sb (sb+n2)) (((arrOf st).extract sb (sb+n2)).size-1)≤RK rk ((arrOf st).extract (sa+k) sb) (((arrOf st).extract (sa+k) sb).size-1):=by
  rw[zA,zB,IB (by omega) hy,IB (by omega) hx']
  have:=nt' (sb+(sb+n2-sb-1)) (by omega) (by omega)
  have e:sa+k+(sb- (sa+k)-1)=sb-1:=by omega
  rw[e]
  exact gE this
 have fin:∀r (st':eB),Like (kS st (((pendingOf st).setIfInBounds i (sa,na+nb,pa)).eraseIdxIfInBounds (i+1))) st'→Fin2 rk ((arrOf st).extract (sa+k) sb) ((arrOf st).extract sb (sb+n2)) r→
   wpS (model prog w) A E s (do
    modify fun z=>setArr z (back r.toList.zipIdx (sa+k) (arrOf z))
    return(iR (←get)).isNone) Q st':=fun r st' lk f=>by
  refine cu (iX ?_)
  refine cu (jC ?_)
  have e:(iR st').isNone=true:=by rw[lk.fl];show(iR st).isNone=true;rw[hf];rfl
  show wpS _ _ _ _ (pure ((iR st').isNone)) _ _
  rw[e]
  refine cV (h _ (lk.kd.trans hk) (lk.fl.trans hf) lk.pd ?_)
  have ea:arrOf st'=arrOf st:=lk.arr
  show Upd rk (arrOf st) (back r.toList.zipIdx (sa+k) (arrOf st')) sa (sb+nb)
  rw[ea]
  refine Pn (hi:=sb+n2) (by omega) (by omega) (by omega) hsz ?_ f.srt ?_ ?_
  ·have e2:((arrOf st).extract (sa+k) (sb+n2)).toList=((arrOf st).extract (sa+k) sb).toList++((arrOf st).extract sb (sb+n2)).toList:=by
    rw[eV,eV,eV,dW,dW,dW]
    have e3:sb+n2- (sa+k)=(sb- (sa+k))+(sb+n2-sb):=by omega
    rw[e3,List.take_add,List.drop_drop]
    have e4:sa+k+(sb- (sa+k))=sb:=by omega
    rw[e4]
   rw[e2]
   exact f.perm
  ·intro x z hx1 hx2 hx3 hx4
   by_cases cz:z<sb
   ·exact S1 x z hx1 hx3 cz
   ·have e1:=kt' x hx1 hx2
    have e2:=S2 sb z (by omega) (by omega) hx4
    exact i7 e1 e2
  ·intro z y hx1 hx2 hx3 hx4
   by_cases cz:z<sb
   ·have e1:=S1 z (sb-1) hx1 (by omega) (by omega)
    exact i7 e1 (nf' y hx3 hx4)
   ·exact S2 z y (by omega) hx2 hx4
 by_cases c3:na-k≤n2
 ·rw[if_pos c3]
  exact cu (KA (a:=(arrOf st).extract (sa+k) sb) (b:=(arrOf st).extract sb (sb+n2)) C hk (hU.ex hx') (hU.ex hy) sA sB (by omega) (by omega) q0 q1 fin)
 ·rw[if_neg c3]
  exact cu (KC (a:=(arrOf st).extract (sa+k) sb) (b:=(arrOf st).extract sb (sb+n2)) C hk (hU.ex hx') (hU.ex hy) sA sB (by omega) (by omega) q0 q1 fin)
end
end SrtG
namespace SrtG
open PySem PyProof.Rows
variable{rk:Keyed→Int}
structure Kp(st0 st:eB)(lo hi:Nat):Prop where
 kd:kindOf st=kindOf st0
 pd:pendingOf st=pendingOf st0
 fl:iR st=iR st0
 perm:(arrOf st).toList.Perm (arrOf st0).toList
 out:∀x,x<lo∨hi≤x→(arrOf st)[x]?=(arrOf st0)[x]?
theorem Kp.refl(st:eB)(lo hi:Nat):Kp st st lo hi:=⟨rfl,rfl,rfl,gZ.refl _,fun _ _=>rfl⟩
theorem Kp.size{st0 st:eB}{lo hi:Nat}(k:Kp st0 st lo hi):(arrOf st).size=(arrOf st0).size:=by
 rw[←cZ,←cZ];exact k.perm.length_eq
theorem AllU.of_perm{U:Keyed→Prop}{a b:Array Keyed}(u:AllU U a)(p:b.toList.Perm a.toList):AllU U b:=fun i q e=>by
 have hm:q∈b.toList:=by rw[←dG] at e;exact cU e
 have hm':=p.mem_iff.mp hm
 obtain⟨j,hj⟩:=List.mem_iff_getElem?.mp hm'
 rw[dG] at hj
 exact u j q hj
theorem Kp.setA{st0 st:eB}{lo hi:Nat}(k:Kp st0 st lo hi){xs:Array Keyed}(hp:xs.toList.Perm (arrOf st).toList)(ho:∀x,x<lo∨hi≤x→xs[x]?=(arrOf st)[x]?):Kp st0 (setArr st xs) lo hi:=
 ⟨k.kd,k.pd,k.fl,hp.trans k.perm,fun x hx=> (ho x hx).trans (k.out x hx)⟩
theorem DO{xs ys:Array Keyed}{i j:Nat}(h:xs[i]?=ys[j]?):RK rk xs i=RK rk ys j:=by unfold RK;rw[h]
theorem IC{xs:Array Keyed}{src d:Nat}(hs:src<xs.size)(hd:d≤src)(k:Nat):RK rk (bubble xs src d) k=if k=src-d then RK rk xs src else if src-d<k∧k≤src then RK rk xs (k-1) else RK rk xs k:=by
 have e:=getElem?_bubble hs d hd k
 by_cases c1:k=src-d
 ·rw[if_pos c1] at e ⊢;exact DO e
 ·rw[if_neg c1] at e ⊢
  by_cases c2:src-d<k∧k≤src
  ·rw[if_pos c2] at e ⊢;exact DO e
  ·rw[if_neg c2] at e ⊢;exact DO e
section
variable{prog:Program}{w:World}{A:de}{E:Value→Shared→Prop}{s:Shared}{kd:jo}{U:Keyed→Prop}
theorem BP{st:eB}{i j:Nat}{Q:Option Bool→eB→Prop}(C:Om prog w A E s kd U rk)(hk:kindOf st=kd)(hU:AllU U (arrOf st))(hi:i< (arrOf st).size)(hj:j< (arrOf st).size)
  (h:Q (some (decide (RK rk (arrOf st) i<RK rk (arrOf st) j))) st):wpS (model prog w) A E s (ltAt' i j) Q st:=by
 rw[ltAt'_eq]
 refine cu (jC ?_)
 refine cu (AN hi ?_)
 refine cu (AN hj ?_)
 rw[Ar hi,Ar hj] at h
 exact C _ _ _ _ hk (hU _ _ (getElem?_pos (arrOf st) _ hi)) (hU _ _ (getElem?_pos (arrOf st) _ hj)) h
theorem Ln{st:eB}{lo n ok:Nat}{Q:Bool→eB→Prop}(C:Om prog w A E s kd U rk)(hk:kindOf st=kd)(hU:AllU U (arrOf st))(hn:lo+n≤(arrOf st).size)(hok:ok≤n)(hs:Seg rk (arrOf st) lo (lo+ok))
  (h:∀st',Kp st st' lo (lo+n)→Seg rk (arrOf st') lo (lo+n)→Q true st'):wpS (model prog w) A E s (binarySort' lo n ok) Q st:=by
 rw[binarySort'_eq]
 refine cu (fW (eK (I:=fun k c st'=>c=(none,())∧Kp st st' lo (lo+n)∧Seg rk (arrOf st') lo (lo+min k n))
  (Q:=fun c st'=>c=(none,())∧Kp st st' lo (lo+n)∧Seg rk (arrOf st') lo (lo+n)) ?step ?fin ?init) ?post)
 case post=>
  rintro c st' ⟨rfl,hB',hs'⟩
  exact cV (h st' hB' hs')
 case init=>
  refine⟨rfl,Kp.refl _ _ _,fun i j hi hij hj=>?_⟩
  by_cases c1:ok=0
  ·have:i=j:=by omega
   subst this;exact iW _
  ·exact hs i j hi hij (by omega)
 case fin=>
  rintro c st' ⟨hc,hB',hs'⟩
  refine⟨hc,hB',?_⟩
  have e:min (max (max ok 1) n) n=n:=by omega
  rwa[e] at hs'
 case step=>
  rintro k c st' hak hkn ⟨rfl,hB',hs'⟩
  have e:min k n=k:=by omega
  rw[e] at hs'
  have hz:=hB'.size
  have hks:lo+k< (arrOf st').size:=by omega
  have hU':=hU.of_perm hB'.perm
  refine cu (fW (eK (I:=fun x c st''=>st''=st'∧∃l r,c=(none,l,r)∧l≤r∧r≤k∧r-l≤k-x∧
    (∀i,i<l→RK rk (arrOf st') (lo+i)≤RK rk (arrOf st') (lo+k))∧(∀i,r≤i→i<k→RK rk (arrOf st') (lo+k)<RK rk (arrOf st') (lo+i)))
   (Q:=fun c st''=>st''=st'∧∃l r,c=(none,l,r)∧l≤k∧
    (∀i,i<l→RK rk (arrOf st') (lo+i)≤RK rk (arrOf st') (lo+k))∧(∀i,l≤i→i<k→RK rk (arrOf st') (lo+k)<RK rk (arrOf st') (lo+i))) ?istep ?ifin ?iinit) ?ipost)
  case iinit=>exact⟨rfl,0,k,rfl,by omega,by omega,by omega,fun i hi=>by omega,fun i h1 h2=>by omega⟩
  case ifin=>
   rintro c st'' ⟨rfl,l,r,rfl,hlr,hrk,hm,hlo,hhi⟩
   have:l=r:=by omega
   subst this
   exact⟨rfl,l,l,rfl,hrk,hlo,hhi⟩
  case istep=>
   rintro x c st'' _ hxk ⟨rfl,l,r,rfl,hlr,hrk,hm,hlo,hhi⟩
   dsimp only
   by_cases hge:l≥r
   ·rw[if_pos hge]
    have:l=r:=by omega
    subst this
    exact cV ⟨rfl,l,l,rfl,hrk,hlo,hhi⟩
   ·rw[if_neg hge]
    refine cu (BP C (hB'.kd.trans hk) hU' hks (by omega) ?_)
    dsimp only
    by_cases hless:RK rk (arrOf st'') (lo+k)<RK rk (arrOf st'') (lo+(l+r)/2)
    ·rw[if_pos (decide_eq_true hless)]
     refine cV ⟨rfl,l,(l+r)/2,rfl,by omega,by omega,by omega,hlo,fun i q1 q2=>?_⟩
     exact Int.lt_of_lt_of_le hless (hs' _ _ (by omega) (by omega) (by omega))
    ·rw[if_neg (fun q=>hless (of_decide_eq_true q))]
     refine cV ⟨rfl,(l+r)/2+1,r,rfl,by omega,by omega,by omega,fun i q1=>?_,hhi⟩
     exact i7 (hs' (lo+i) (lo+(l+r)/2) (by omega) (by omega) (by omega)) (Int.not_lt.mp hless)
  case ipost=>
   rintro c st'' ⟨rfl,l,r,rfl,hlk,hlo,hhi⟩
   show wpS _ _ _ _ (do moveDown' (lo+k) (lo+l);pure (gI (none,()))) _ _
   rw[moveDown'_eq]
   have ed:lo+k- (lo+l)=k-l:=by omega
   refine cu (iX (cV ⟨rfl,hB'.setA (Array.perm_iff_toList_perm.mp (bubble_perm _ _ _)) ?_,?_⟩))
   ·intro x hx
    rw[ed,getElem?_bubble hks _ (by omega),if_neg (by omega),if_neg (by omega)]
   have e2:lo+min (k+1) n=lo+k+1:=by omega
   rw[e2]
   intro i j hi hij hj
   show RK rk (bubble (arrOf st'') (lo+k) (lo+k- (lo+l))) i≤RK rk (bubble (arrOf st'') (lo+k) (lo+k- (lo+l))) j
   rw[ed,IC hks (by omega),IC hks (by omega)]
   have e3:lo+k- (k-l)=lo+l:=by omega
   rw[e3]
   have hlo':∀i,lo≤i→i<lo+l→RK rk (arrOf st'') i≤RK rk (arrOf st'') (lo+k):=fun i q1 q2=>by
    have:=hlo (i-lo) (by omega)
    have e4:lo+(i-lo)=i:=by omega
    rwa[e4] at this
   have hhi':∀i,lo+l≤i→i<lo+k→RK rk (arrOf st'') (lo+k)≤RK rk (arrOf st'') i:=fun i q1 q2=>by
    have:=hhi (i-lo) (by omega) (by omega)
    have e4:lo+(i-lo)=i:=by omega
    rw[e4] at this
    exact gE this
   repeat' split
   all_goals first
    | (exfalso;omega)
    |exact iW _
    |exact hlo' _ (by omega) (by omega)
    |exact hhi' _ (by omega) (by omega)
    |exact hs' _ _ (by omega) (by omega) (by omega)
end
local macro_rules | `(tactic| omega) => `(tactic| first | lia | omega)
open PySem PyProof.Rows
variable{rk:Keyed→Int}
def Dsc(rk:Keyed→Int)(arr:Array Keyed)(lo hi:Nat):Prop:=∀x y,lo≤x→x≤y→y<hi→RK rk arr y≤RK rk arr x
theorem OI{xs:Array Keyed}{i j:Nat}(hj:j≤xs.size)(k:Nat):RK rk (mirror xs i j ((j-i)/2)) k=if i≤k∧k<j then RK rk xs (i+j-1-k) else RK rk xs k:=by
 have e:=getElem?_mirror_all (i:=i) hj k
 by_cases c1:i≤k∧k<j
 ·rw[if_pos c1] at e ⊢;exact DO e
 ·rw[if_neg c1] at e ⊢;exact DO e
section
variable{prog:Program}{w:World}{A:de}{E:Value→Shared→Prop}{s:Shared}{kd:jo}{U:Keyed→Prop}
theorem EO{st0 st:eB}{lo hi i j:Nat}{Q:Unit→eB→Prop}(k:Kp st0 st lo hi)(h1:lo≤i)(h2:j≤hi)(hj:j≤(arrOf st).size)
  (h:∀st',Kp st0 st' lo hi→(∀k,RK rk (arrOf st') k=if i≤k∧k<j then RK rk (arrOf st) (i+j-1-k) else RK rk (arrOf st) k)→Q () st'):wpS (model prog w) A E s (reverseSlice' i j) Q st:=by
 rw[reverseSlice'_eq]
 refine iX (h _ (k.setA (Array.perm_iff_toList_perm.mp (mirror_perm _ _ _ _)) fun x hx=>?_) fun k=>OI hj k)
 rw[getElem?_mirror_all hj,if_neg (by omega)]
theorem DP{st0 st:eB}{lo hi i j:Nat}{Q:Unit→eB→Prop}(k:Kp st0 st lo hi)(h1:lo≤i)(h2:j≤hi)(hj:j≤(arrOf st).size)(heq:∀k,i≤k→k<j→RK rk (arrOf st) k=RK rk (arrOf st) (j-1))
  (h:∀st',Kp st0 st' lo hi→(∀k,RK rk (arrOf st') k=RK rk (arrOf st) k)→Q () st'):wpS (model prog w) A E s (reverseSlice' i j) Q st:=by
 refine EO (rk:=rk) k h1 h2 hj fun st' k' e=>h st' k' fun x=>?_
 rw[e x]
 split
 ·rw[heq _ (by omega) (by omega),heq x (by omega) (by omega)]
 ·rfl
theorem Seg.up{arr:Array Keyed}{lo n:Nat}(sg:Seg rk arr lo (lo+n))(h1:1≤n)(hx:¬RK rk arr (lo+n)<RK rk arr (lo+n-1)):Seg rk arr lo (lo+(n+1)):=fun i j hi hij hj=>by
 by_cases c:j<lo+n
 ·exact sg i j hi hij c
 ·have e:j=lo+n:=by omega
  subst e
  by_cases c2:i=lo+n
  ·subst c2;exact iW _
  ·exact i7 (sg i (lo+n-1) hi (by omega) (by omega)) (Int.not_lt.mp hx)
theorem Dsc.up{arr arr':Array Keyed}{lo n:Nat}(sg:Dsc rk arr lo (lo+n))(h1:1≤n)(hx:RK rk arr (lo+n)≤RK rk arr (lo+n-1))(he:∀k,RK rk arr' k=RK rk arr k):Dsc rk arr' lo (lo+(n+1)):=fun i j hi hij hj=>by
 rw[he,he]
 by_cases c:j<lo+n
 ·exact sg i j hi hij c
 ·have e:j=lo+n:=by omega
  subst e
  by_cases c2:i=lo+n
  ·subst c2;exact iW _
  ·exact i7 hx (sg i (lo+n-1) hi (by omega) (by omega))
theorem Lo{st:eB}{lo nrem:Nat}{Q:Option Nat→eB→Prop}(C:Om prog w A E s kd U rk)(hk:kindOf st=kd)(hU:AllU U (arrOf st))(hn:lo+nrem≤(arrOf st).size)(h1:1≤nrem)
  (h:∀m st',Kp st st' lo (lo+nrem)→1≤m→m≤nrem→Seg rk (arrOf st') lo (lo+m)→Q (some m) st'):
  wpS (model prog w) A E s (countRun' lo nrem) Q st:=by
 rw[countRun'_eq]
 refine cu (fW (eK (I:=fun x c st'=>st'=st∧c=(none,x)∧Seg rk (arrOf st) lo (lo+x))
  (Q:=fun c st'=>st'=st∧∃n,c=(none,n)∧1≤n∧n≤nrem∧Seg rk (arrOf st) lo (lo+n)∧(n=nrem∨RK rk (arrOf st) (lo+n)<RK rk (arrOf st) (lo+n-1))) ?step ?fin ⟨rfl,rfl,fun i j hi hij hj=>by have:i=j:=(by omega);subst this;exact iW _⟩) ?post)
 case fin=>
  rintro c st' ⟨rfl,rfl,hs'⟩
  have e:max 1 nrem=nrem:=by omega
  rw[e] at hs' ⊢
  exact⟨rfl,nrem,rfl,h1,cW _,hs',.inl rfl⟩
 case step=>
  rintro x c st' hax hxn ⟨rfl,rfl,hs'⟩
  dsimp only
  refine cu (BP C hk hU (by omega) (by omega) ?_)
  dsimp only
  by_cases hless:RK rk (arrOf st') (lo+x)<RK rk (arrOf st') (lo+x-1)
  ·rw[if_pos (decide_eq_true hless)]
   exact cV ⟨rfl,x,rfl,hax,by omega,hs',.inr hless⟩
  ·rw[if_neg (fun q=>hless (of_decide_eq_true q))]
   exact cV ⟨rfl,rfl,hs'.up hax hless⟩
 case post=>
  rintro c st' ⟨rfl,n,rfl,hn1,hn2,hsn,hor⟩
  dsimp only
  by_cases hnn:n=nrem
  ·rw[if_pos (beq_iff_eq.mpr hnn)]
   exact cV (h n _ (Kp.refl _ _ _) hn1 hn2 hsn)
  rw[if_neg (fun q=>hnn (beq_iff_eq.mp q))]
  have hlt:=hor.resolve_left hnn
  by_cases hgt:n>1
  ·rw[if_pos hgt]
   refine cu (BP C hk hU (by omega) (by omega) ?_)
   dsimp only
   by_cases hrose:RK rk (arrOf st') lo<RK rk (arrOf st') (lo+n-1)
   ·rw[if_pos (decide_eq_true hrose)]
    exact cV (h n _ (Kp.refl _ _ _) hn1 hn2 hsn)
   rw[if_neg (fun q=>hrose (of_decide_eq_true q))]
   have hall:∀k,lo≤k→k<lo+n→RK rk (arrOf st') k=RK rk (arrOf st') (lo+n-1):=fun k q1 q2=>by
    have a1:=hsn lo k (by omega) q1 q2
    have a2:=hsn k (lo+n-1) q1 (by omega) (by omega)
    omega
   refine cu (DP (rk:=rk) (Kp.refl st' lo (lo+nrem)) (cW _) (by omega) (by omega) hall fun st2 kp hRK=>?_)
   have hd:Dsc rk (arrOf st2) lo (lo+(n+1)):=Dsc.up (arr:=arrOf st') (fun i j q1 q2 q3=>by rw[hall i q1 (by omega),hall j (by omega) q3];exact iW _) hn1 (gE hlt) hRK
   refine cu (ki (jG ⟨rfl,?_⟩))
   refine cu (fW (eK (I:=fun x c st3=>∃neq,c=(none,x,neq)∧Kp st' st3 lo (lo+nrem)∧Dsc rk (arrOf st3) lo (lo+x)∧neq+1≤x∧(∀i,lo+x- (neq+1)≤i→i<lo+x→RK rk (arrOf st3) i=RK rk (arrOf st3) (lo+x-1)))
    (Q:=fun c st3=>∃m neq,c=(none,m,neq)∧Kp st' st3 lo (lo+nrem)∧n+1≤m∧m≤nrem∧Dsc rk (arrOf st3) lo (lo+m)∧neq+1≤m∧(∀i,lo+m- (neq+1)≤i→i<lo+m→RK rk (arrOf st3) i=RK rk (arrOf st3) (lo+m-1))) ?_ ?_ ⟨0,rfl,kp,hd,by omega,fun i q1 q2=>by congr 1;omega⟩) ?_)
   ·rintro x c st3 hax hxn ⟨neq,rfl,kp,hd,hq,he⟩
    have hz:=kp.size
    have hU3:=hU.of_perm kp.perm
    dsimp only
    refine cu (BP C (kp.kd.trans hk) hU3 (by omega) (by omega) ?_)
    dsimp only
    by_cases hless:RK rk (arrOf st3) (lo+x)<RK rk (arrOf st3) (lo+x-1)
    ·rw[if_pos (decide_eq_true hless)]
     by_cases hneq:neq>0
     ·rw[if_pos hneq]
      refine cu (DP (rk:=rk) kp (by omega) (by omega) (by omega) he fun st4 kp4 hRK=>?_)
      exact cV ⟨0,rfl,kp4,hd.up (by omega) (gE hless) hRK,by omega,fun i q1 q2=>by congr 1;omega⟩
     ·rw[if_neg hneq]
      exact cV ⟨0,rfl,kp,hd.up (by omega) (gE hless) fun _=>rfl,by omega,fun i q1 q2=>by congr 1;omega⟩
    ·rw[if_neg (fun q=>hless (of_decide_eq_true q))]
     refine cu (BP C (kp.kd.trans hk) hU3 (by omega) (by omega) ?_)
     dsimp only
     by_cases hlarger:RK rk (arrOf st3) (lo+x-1)<RK rk (arrOf st3) (lo+x)
     ·rw[if_pos (decide_eq_true hlarger)]
      exact cV ⟨x,neq,rfl,kp,hax,by omega,hd,hq,he⟩
     ·rw[if_neg (fun q=>hlarger (of_decide_eq_true q))]
      have heqx:RK rk (arrOf st3) (lo+x)=RK rk (arrOf st3) (lo+x-1):=by omega
      refine cV ⟨neq+1,rfl,kp,hd.up (by omega) (by omega) fun _=>rfl,by omega,fun i q1 q2=>?_⟩
      have e1:lo+(x+1)-1=lo+x:=by omega
      rw[e1]
      by_cases hix:i=lo+x
      ·rw[hix]
      ·rw[heqx];exact he i (by omega) (by omega)
   ·rintro c st3 ⟨neq,rfl,kp,hd,hq,he⟩
    have e:max (n+1) nrem=nrem:=by omega
    rw[e] at hd hq he ⊢
    exact⟨nrem,neq,rfl,kp,by omega,cW _,hd,hq,he⟩
   rintro c st3 ⟨m,neq,rfl,kp,hm1,hm2,hd,hq,he⟩
   have hz:=kp.size
   dsimp only
   have rest:∀(st4:eB),Kp st' st4 lo (lo+nrem)→Dsc rk (arrOf st4) lo (lo+m)→∀st5,Kp st' st5 lo (lo+nrem)→(∀k,RK rk (arrOf st5) k=if lo≤k∧k<lo+m then RK rk (arrOf st4) (lo+(lo+m)-1-k) else RK rk (arrOf st4) k)→Seg rk (arrOf st5) lo (lo+m):=fun st4 _ d4 st5 _ e5 i j q1 q2 q3=>by
    rw[e5,e5,if_pos (by omega),if_pos (by omega)]
    exact d4 _ _ (by omega) (by omega) (by omega)
   by_cases hneq:neq>0
   ·rw[if_pos hneq]
    refine cu (DP (rk:=rk) kp (by omega) (by omega) (by omega) he fun st4 kp4 hRK=>?_)
    have d4:Dsc rk (arrOf st4) lo (lo+m):=fun i j q1 q2 q3=>by rw[hRK,hRK];exact hd i j q1 q2 q3
    have hz4:=kp4.size
    refine cu (EO (rk:=rk) kp4 (cW _) (by omega) (by omega) fun st5 kp5 e5=>?_)
    have s5:=rest _ kp4 d4 st5 kp5 e5
    have hz5:=kp5.size
    have hU5:=hU.of_perm kp5.perm
    refine cu (fW (eK (I:=fun x c st6=>st6=st5∧c=(none,x)∧Seg rk (arrOf st5) lo (lo+x))
     (Q:=fun c st6=>st6=st5∧∃n,c=(none,n)∧1≤n∧n≤nrem∧Seg rk (arrOf st5) lo (lo+n)) ?_ ?_ ⟨rfl,rfl,s5⟩) ?_)
    ·rintro x c st6 hax hxn ⟨rfl,rfl,hs'⟩
     dsimp only
     refine cu (BP C (kp5.kd.trans hk) hU5 (by omega) (by omega) ?_)
     dsimp only
     by_cases hless:RK rk (arrOf st6) (lo+x)<RK rk (arrOf st6) (lo+x-1)
     ·rw[if_pos (decide_eq_true hless)]
      exact cV ⟨rfl,x,rfl,by omega,by omega,hs'⟩
     ·rw[if_neg (fun q=>hless (of_decide_eq_true q))]
      exact cV ⟨rfl,rfl,hs'.up (by omega) hless⟩
    ·rintro c st6 ⟨rfl,rfl,hs'⟩
     have e:max m nrem=nrem:=by omega
     rw[e] at hs' ⊢
     exact⟨rfl,nrem,rfl,h1,cW _,hs'⟩
    rintro c st6 ⟨rfl,n5,rfl,q1,q2,q3⟩
    exact cV (h n5 _ kp5 q1 q2 q3)
   ·rw[if_neg hneq]
    have kp4:=kp
    have d4:=hd
    have hz4:=hz
    refine cu (EO (rk:=rk) kp4 (cW _) (by omega) (by omega) fun st5 kp5 e5=>?_)
    have s5:=rest _ kp4 d4 st5 kp5 e5
    have hz5:=kp5.size
    have hU5:=hU.of_perm kp5.perm
    refine cu (fW (eK (I:=fun x c st6=>st6=st5∧c=(none,x)∧Seg rk (arrOf st5) lo (lo+x))
     (Q:=fun c st6=>st6=st5∧∃n,c=(none,n)∧1≤n∧n≤nrem∧Seg rk (arrOf st5) lo (lo+n)) ?_ ?_ ⟨rfl,rfl,s5⟩) ?_)
    ·rintro x c st6 hax hxn ⟨rfl,rfl,hs'⟩
     dsimp only
     refine cu (BP C (kp5.kd.trans hk) hU5 (by omega) (by omega) ?_)
     dsimp only
     by_cases hless:RK rk (arrOf st6) (lo+x)<RK rk (arrOf st6) (lo+x-1)
     ·rw[if_pos (decide_eq_true hless)]
      exact cV ⟨rfl,x,rfl,by omega,by omega,hs'⟩
     ·rw[if_neg (fun q=>hless (of_decide_eq_true q))]
      exact cV ⟨rfl,rfl,hs'.up (by omega) hless⟩
    ·rintro c st6 ⟨rfl,rfl,hs'⟩
     have e:max m nrem=nrem:=by omega
     rw[e] at hs' ⊢
     exact⟨rfl,nrem,rfl,h1,cW _,hs'⟩
    rintro c st6 ⟨rfl,n5,rfl,q1,q2,q3⟩
    exact cV (h n5 _ kp5 q1 q2 q3)
  ·rw[if_neg hgt]
   have hd:Dsc rk (arrOf st') lo (lo+(n+1)):=Dsc.up (arr:=arrOf st') (fun i j q1 q2 q3=>by have:i=j:=(by omega);subst this;exact iW _) hn1 (gE hlt) fun _=>rfl
   have kp:=Kp.refl st' lo (lo+nrem)
   refine cu (ki (jG ⟨rfl,?_⟩))
   refine cu (fW (eK (I:=fun x c st3=>∃neq,c=(none,x,neq)∧Kp st' st3 lo (lo+nrem)∧Dsc rk (arrOf st3) lo (lo+x)∧neq+1≤x∧(∀i,lo+x- (neq+1)≤i→i<lo+x→RK rk (arrOf st3) i=RK rk (arrOf st3) (lo+x-1)))
    (Q:=fun c st3=>∃m neq,c=(none,m,neq)∧Kp st' st3 lo (lo+nrem)∧n+1≤m∧m≤nrem∧Dsc rk (arrOf st3) lo (lo+m)∧neq+1≤m∧(∀i,lo+m- (neq+1)≤i→i<lo+m→RK rk (arrOf st3) i=RK rk (arrOf st3) (lo+m-1))) ?_ ?_ ⟨0,rfl,kp,hd,by omega,fun i q1 q2=>by congr 1;omega⟩) ?_)
   ·rintro x c st3 hax hxn ⟨neq,rfl,kp,hd,hq,he⟩
    have hz:=kp.size
    have hU3:=hU.of_perm kp.perm
    dsimp only
    refine cu (BP C (kp.kd.trans hk) hU3 (by omega) (by omega) ?_)
    dsimp only
    by_cases hless:RK rk (arrOf st3) (lo+x)<RK rk (arrOf st3) (lo+x-1)
    ·rw[if_pos (decide_eq_true hless)]
     by_cases hneq:neq>0
     ·rw[if_pos hneq]
      refine cu (DP (rk:=rk) kp (by omega) (by omega) (by omega) he fun st4 kp4 hRK=>?_)
      exact cV ⟨0,rfl,kp4,hd.up (by omega) (gE hless) hRK,by omega,fun i q1 q2=>by congr 1;omega⟩
     ·rw[if_neg hneq]
      exact cV ⟨0,rfl,kp,hd.up (by omega) (gE hless) fun _=>rfl,by omega,fun i q1 q2=>by congr 1;omega⟩
    ·rw[if_neg (fun q=>hless (of_decide_eq_true q))]
     refine cu (BP C (kp.kd.trans hk) hU3 (by omega) (by omega) ?_)
     dsimp only
     by_cases hlarger:RK rk (arrOf st3) (lo+x-1)<RK rk (arrOf st3) (lo+x)
     ·rw[if_pos (decide_eq_true hlarger)]
      exact cV ⟨x,neq,rfl,kp,hax,by omega,hd,hq,he⟩
     ·rw[if_neg (fun q=>hlarger (of_decide_eq_true q))]
      have heqx:RK rk (arrOf st3) (lo+x)=RK rk (arrOf st3) (lo+x-1):=by omega
      refine cV ⟨neq+1,rfl,kp,hd.up (by omega) (by omega) fun _=>rfl,by omega,fun i q1 q2=>?_⟩
      have e1:lo+(x+1)-1=lo+x:=by omega
      rw[e1]
      by_cases hix:i=lo+x
      ·rw[hix]
      ·rw[heqx];exact he i (by omega) (by omega)
   ·rintro c st3 ⟨neq,rfl,kp,hd,hq,he⟩
    have e:max (n+1) nrem=nrem:=by omega
    rw[e] at hd hq he ⊢
    exact⟨nrem,neq,rfl,kp,by omega,cW _,hd,hq,he⟩
   rintro c st3 ⟨m,neq,rfl,kp,hm1,hm2,hd,hq,he⟩
   have hz:=kp.size
   dsimp only
   have rest:∀(st4:eB),Kp st' st4 lo (lo+nrem)→Dsc rk (arrOf st4) lo (lo+m)→∀st5,Kp st' st5 lo (lo+nrem)→(∀k,RK rk (arrOf st5) k=if lo≤k∧k<lo+m then RK rk (arrOf st4) (lo+(lo+m)-1-k) else RK rk (arrOf st4) k)→Seg rk (arrOf st5) lo (lo+m):=fun st4 _ d4 st5 _ e5 i j q1 q2 q3=>by
    rw[e5,e5,if_pos (by omega),if_pos (by omega)]
    exact d4 _ _ (by omega) (by omega) (by omega)
   by_cases hneq:neq>0
   ·rw[if_pos hneq]
    refine cu (DP (rk:=rk) kp (by omega) (by omega) (by omega) he fun st4 kp4 hRK=>?_)
    have d4:Dsc rk (arrOf st4) lo (lo+m):=fun i j q1 q2 q3=>by rw[hRK,hRK];exact hd i j q1 q2 q3
    have hz4:=kp4.size
    refine cu (EO (rk:=rk) kp4 (cW _) (by omega) (by omega) fun st5 kp5 e5=>?_)
    have s5:=rest _ kp4 d4 st5 kp5 e5
    have hz5:=kp5.size
    have hU5:=hU.of_perm kp5.perm
    refine cu (fW (eK (I:=fun x c st6=>st6=st5∧c=(none,x)∧Seg rk (arrOf st5) lo (lo+x))
     (Q:=fun c st6=>st6=st5∧∃n,c=(none,n)∧1≤n∧n≤nrem∧Seg rk (arrOf st5) lo (lo+n)) ?_ ?_ ⟨rfl,rfl,s5⟩) ?_)
    ·rintro x c st6 hax hxn ⟨rfl,rfl,hs'⟩
     dsimp only
     refine cu (BP C (kp5.kd.trans hk) hU5 (by omega) (by omega) ?_)
     dsimp only
     by_cases hless:RK rk (arrOf st6) (lo+x)<RK rk (arrOf st6) (lo+x-1)
     ·rw[if_pos (decide_eq_true hless)]
      exact cV ⟨rfl,x,rfl,by omega,by omega,hs'⟩
     ·rw[if_neg (fun q=>hless (of_decide_eq_true q))]
      exact cV ⟨rfl,rfl,hs'.up (by omega) hless⟩
    ·rintro c st6 ⟨rfl,rfl,hs'⟩
     have e:max m nrem=nrem:=by omega
     rw[e] at hs' ⊢
     exact⟨rfl,nrem,rfl,h1,cW _,hs'⟩
    rintro c st6 ⟨rfl,n5,rfl,q1,q2,q3⟩
    exact cV (h n5 _ kp5 q1 q2 q3)
   ·rw[if_neg hneq]
    have kp4:=kp
    have d4:=hd
    have hz4:=hz
    refine cu (EO (rk:=rk) kp4 (cW _) (by omega) (by omega) fun st5 kp5 e5=>?_)
    have s5:=rest _ kp4 d4 st5 kp5 e5
    have hz5:=kp5.size
    have hU5:=hU.of_perm kp5.perm
    refine cu (fW (eK (I:=fun x c st6=>st6=st5∧c=(none,x)∧Seg rk (arrOf st5) lo (lo+x))
     (Q:=fun c st6=>st6=st5∧∃n,c=(none,n)∧1≤n∧n≤nrem∧Seg rk (arrOf st5) lo (lo+n)) ?_ ?_ ⟨rfl,rfl,s5⟩) ?_)
    ·rintro x c st6 hax hxn ⟨rfl,rfl,hs'⟩
     dsimp only
     refine cu (BP C (kp5.kd.trans hk) hU5 (by omega) (by omega) ?_)
     dsimp only
     by_cases hless:RK rk (arrOf st6) (lo+x)<RK rk (arrOf st6) (lo+x-1)
     ·rw[if_pos (decide_eq_true hless)]
      exact cV ⟨rfl,x,rfl,by omega,by omega,hs'⟩
     ·rw[if_neg (fun q=>hless (of_decide_eq_true q))]
      exact cV ⟨rfl,rfl,hs'.up (by omega) hless⟩
    ·rintro c st6 ⟨rfl,rfl,hs'⟩
     have e:max m nrem=nrem:=by omega
     rw[e] at hs' ⊢
     exact⟨rfl,nrem,rfl,h1,cW _,hs'⟩
    rintro c st6 ⟨rfl,n5,rfl,q1,q2,q3⟩
    exact cV (h n5 _ kp5 q1 q2 q3)
end
end SrtG
namespace SrtG
local macro_rules | `(tactic| omega) => `(tactic| first | lia | omega)
open PySem PyProof.Rows
variable{rk:Keyed→Int}
abbrev Pp:=Nat×Nat×Nat
def Cov(rk:Keyed→Int)(arr:Array Keyed):Nat→List Pp→Nat→Prop
 |a,[],hi=>a=hi
 |a,e::l,hi=>e.1=a∧0<e.2.1∧Seg rk arr a (a+e.2.1)∧Cov rk arr (a+e.2.1) l hi
theorem Cov.le{arr:Array Keyed}:∀{l:List Pp} {a hi:Nat},Cov rk arr a l hi→a+l.length≤hi
 | [],a,hi,h=>by have:a=hi:=h;simp only[gH];omega
 |e::l,a,hi,h=>by have:=Cov.le h.2.2.2;have:=h.2.1;rw[c9];omega
theorem Cov.app{arr:Array Keyed}:∀{l1:List Pp} {l2:List Pp} {a hi:Nat},Cov rk arr a (l1++l2) hi↔∃m,Cov rk arr a l1 m∧Cov rk arr m l2 hi
 | [],l2,a,hi=> ⟨fun h=> ⟨a,rfl,h⟩,fun⟨m,h1,h2⟩=>by have:a=m:=h1;subst this;exact h2⟩
 |e::l1,l2,a,hi=> ⟨fun⟨h1,h2,h3,h4⟩=>by
   obtain⟨m,q1,q2⟩:=Cov.app.mp h4
   exact⟨m,⟨h1,h2,h3,q1⟩,q2⟩,fun⟨m,⟨h1,h2,h3,h4⟩,q2⟩=> ⟨h1,h2,h3,Cov.app.mpr ⟨m,h4,q2⟩⟩⟩
theorem Cov.cong{arr arr':Array Keyed}:∀{l:List Pp} {a hi:Nat},(∀x,a≤x→x<hi→RK rk arr' x=RK rk arr x)→Cov rk arr a l hi→Cov rk arr' a l hi
 | [],_,_,_,h=>h
 |e::l,a,hi,hx,⟨h1,h2,h3,h4⟩=>by
  have hl:=h4.le
  exact⟨h1,h2,fun x y q1 q2 q3=>by rw[hx x q1 (by omega),hx y (by omega) (by omega)];exact h3 x y q1 q2 q3,h4.cong fun x q1 q2=>hx x (by omega) q2⟩
theorem Vt{p:Array Pp}{i:Nat}(h:i+1<p.size):∃l1 e1 e2 l2,p.toList=l1++e1::e2::l2∧l1.length=i∧p[i]?=some e1∧p[i+1]?=some e2:=by
 have hl:p.toList.length=p.size:=cZ
 have h1:i<p.toList.length:=by omega
 have h2:i+1<p.toList.length:=by omega
 refine⟨p.toList.take i,p.toList[i],p.toList[i+1],p.toList.drop (i+2),?_,?_,?_,?_⟩
 ·rw[←iA h2,←iA h1,fM]
 ·rw[dI];omega
 ·rw[←dG];exact cc h1
 ·rw[←dG];exact cc h2
theorem Vu{p:Array Pp}{i:Nat}{e e1 e2:Pp}{l1 l2:List Pp}(hp:p.toList=l1++e1::e2::l2)(hl:l1.length=i):((p.setIfInBounds i e).eraseIdxIfInBounds (i+1)).toList=l1++e::l2:=by
 have hz:i+1<p.size:=by
  rw[←cZ,hp,dh,c9,c9];omega
 have hz':i+1< (p.setIfInBounds i e).size:=by rw[Array.size_setIfInBounds];exact hz
 unfold Array.eraseIdxIfInBounds
 rw[dif_pos hz',Array.toList_eraseIdx,Array.toList_setIfInBounds,hp]
 subst hl
 rw[List.set_append_right _ _ (cW _),Nat.sub_self,List.set_cons_zero,List.eraseIdx_append_of_length_le (by omega)]
 have e:l1.length+1-l1.length=1:=by omega
 rw[e]
 rfl
structure Bs(kd:jo)(a₀:Array Keyed)(st:eB):Prop where
 kd:kindOf st=kd
 fl:iR st=none
 perm:(arrOf st).toList.Perm a₀.toList
theorem Bs.size{kd:jo}{a₀:Array Keyed}{st:eB}(b:Bs kd a₀ st):(arrOf st).size=a₀.size:=by
 rw[←cZ,←cZ];exact b.perm.length_eq
theorem Bs.kp{kd:jo}{a₀:Array Keyed}{st st':eB}{lo hi:Nat}(b:Bs kd a₀ st)(k:Kp st st' lo hi):Bs kd a₀ st':=⟨k.kd.trans b.kd,k.fl.trans b.fl,k.perm.trans b.perm⟩
section
variable{prog:Program}{w:World}{A:de}{E:Value→Shared→Prop}{s:Shared}{kd:jo}{U:Keyed→Prop}{a₀:Array Keyed}
theorem Ds{i hi:Nat}{st:eB}{Q:Bool→eB→Prop}(C:Om prog w A E s kd U rk)(hU:AllU U a₀)(b:Bs kd a₀ st)(hc:Cov rk (arrOf st) 0 (pendingOf st).toList hi)(hhi:hi≤a₀.size)(hi1:i+1< (pendingOf st).size)
  (h:∀st',Bs kd a₀ st'→Cov rk (arrOf st') 0 (pendingOf st').toList hi→(pendingOf st').size+1=(pendingOf st).size→(∀x,hi≤x→RK rk (arrOf st') x=RK rk (arrOf st) x)→Q true st'):wpS (model prog w) A E s (mergeAt' i) Q st:=by
 obtain⟨l1,⟨s1,n1,p1⟩,⟨s2,n2,p2⟩,l2,hp,hl,e1,e2⟩:=Vt hi1
 have hc0:=hc
 rw[hp] at hc0
 obtain⟨m,c1,q1,q2,q3,q4,q5,q6,q7⟩:=Cov.app.mp hc0
 dsimp only at q1 q2 q3 q4 q5 q6 q7
 subst q1
 have hle:=q7.le
 have hz:=b.size
 refine KE C b.kd (hU.of_perm b.perm) b.fl e1 e2 q4 q2 q5 (by omega) (by rw[q4];exact q3) (by rw[q4];exact q6) fun st' k1 k2 k3 u=>?_
 have hj:=Vu (e:=(s1,n1+n2,p1)) hp hl
 have c1le:=c1.le
 refine h st' ⟨k1,k2,u.perm.trans b.perm⟩ ?_ ?_ ?_
 ·rw[k3,hj]
  refine Cov.app.mpr ⟨s1,c1.cong fun x _ hx=>CV (u.out x (.inl hx)),rfl,by show 0<n1+n2;omega,?_,?_⟩
  ·show Seg rk (arrOf st') s1 (s1+(n1+n2))
   have:=u.seg
   rw[q4,mZ] at this
   exact this
  ·show Cov rk (arrOf st') (s1+(n1+n2)) l2 hi
   rw[←mZ]
   exact q7.cong fun x hx _=>CV (u.out x (.inr (by omega)))
 ·rw[←cZ,←cZ,k3,hj,hp,dh,dh,c9,c9,c9]
  omega
 ·intro x hx
  exact CV (u.out x (.inr (by omega)))
end
end SrtG
namespace SrtG
local macro_rules | `(tactic| omega) => `(tactic| first | lia | omega)
open PySem PyProof.Rows
variable{rk:Keyed→Int}
theorem Cov.shape{arr:Array Keyed}:∀{l l':List Pp} {a hi:Nat},l'.map (fun e=> (e.1,e.2.1))=l.map (fun e=> (e.1,e.2.1))→Cov rk arr a l hi→Cov rk arr a l' hi
 | [],[],_,_,_,h=>h
 |e::l,e'::l',a,hi,hm,⟨h1,h2,h3,h4⟩=>by
  rw[dv,dv] at hm
  injection hm with hm1 hm2
  injection hm1 with q1 q2
  exact⟨q1.trans h1,by rw[q2];exact h2,by rw[q2];exact h3,by rw[q2];exact h4.shape hm2⟩
 | [],_::_,_,_,hm,_=>by cases hm
 |_::_,[],_,_,hm,_=>by cases hm
theorem Cov.power{arr:Array Keyed}{p:Array Pp}{i pw hi:Nat}(h:Cov rk arr 0 p.toList hi):Cov rk arr 0 (p.modify i fun e=> (e.1,e.2.1,pw)).toList hi:=by
 refine h.shape ?_
 apply fv
 intro j
 rw[cg,cg,dG,dG,Array.getElem?_modify]
 split
 ·cases p[j]?<;>rfl
 ·rfl
section
variable{prog:Program}{w:World}{A:de}{E:Value→Shared→Prop}{s:Shared}{kd:jo}{U:Keyed→Prop}{a₀:Array Keyed}
theorem Pq{st:eB}{Q:Unit→eB→Prop}(C:Om prog w A E s kd U rk)(hU:AllU U a₀)(b:Bs kd a₀ st)(hp:pendingOf st= #[])
  (h:∀st',Bs kd a₀ st'→Ez rk (arrOf st')→Q () st'):wpS (model prog w) A E s sortRuns' Q st:=by
 rw[sortRuns'_eq]
 refine cu (jC ?_)
 dsimp only
 have hz:=b.size
 refine cu (fW (eK
  (I:=fun x c st'=>∃lo,c=(none,lo)∧x≤lo∧lo≤(arrOf st).size∧Bs kd a₀ st'∧Cov rk (arrOf st') 0 (pendingOf st').toList lo)
  (Q:=fun c st'=>c.1=none∧Bs kd a₀ st'∧Cov rk (arrOf st') 0 (pendingOf st').toList (arrOf st).size) ?step ?fin ⟨0,rfl,cW _,eS _,b,by rw[hp];rfl⟩) ?post)
 case fin=>
  rintro c st' ⟨lo,rfl,h1,h2,bs,cv⟩
  have e:lo=(arrOf st).size:=by omega
  subst e
  exact⟨rfl,bs,cv⟩
 case step=>
  rintro x c st1 _ hx ⟨lo,rfl,h1,h2,bs,cv⟩
  dsimp only
  have hz1:=bs.size
  by_cases cl:lo≥(arrOf st).size
  ·rw[if_pos cl]
   have e:lo=(arrOf st).size:=by omega
   subst e
   exact cV ⟨rfl,bs,cv⟩
  rw[if_neg cl]
  have nextOf:∀(st3:eB) (n:Nat),Bs kd a₀ st3→Cov rk (arrOf st3) 0 (pendingOf st3).toList lo→0<n→lo+n≤(arrOf st).size→Seg rk (arrOf st3) lo (lo+n)→∀{c:Option PUnit×Nat},c=(none,lo+n)→∃lo',c=(none,lo')∧x+1≤lo'∧lo'≤(arrOf st).size∧Bs kd a₀ (kS st3 ((pendingOf st3).push (lo,n,0)))∧Cov rk (arrOf (kS st3 ((pendingOf st3).push (lo,n,0)))) 0 (pendingOf (kS st3 ((pendingOf st3).push (lo,n,0)))).toList lo':=fun st3 n bs3 cv3 hpos hfit sg c hc=>by
   refine⟨lo+n,hc,by omega,hfit,⟨bs3.kd,bs3.fl,bs3.perm⟩,?_⟩
   show Cov rk (arrOf st3) 0 ((pendingOf st3).push (lo,n,0)).toList (lo+n)
   rw[iK]
   exact Cov.app.mpr ⟨lo,cv3,rfl,hpos,sg,rfl⟩
  refine cu (Lo C bs.kd (hU.of_perm bs.perm) (by omega) (by omega) fun n st2 kp2 hn1 hn2 sg2=>?_)
  have bs2:=bs.kp kp2
  have cv2:Cov rk (arrOf st2) 0 (pendingOf st2).toList lo:=by
   rw[kp2.pd]
   exact cv.cong fun x _ hx=>CV (kp2.out x (.inl hx))
  dsimp only
  by_cases cm:n<mM (arrOf st).size (arrOf st).size 0
  ·rw[if_pos cm]
   refine cu (ki (jG ⟨rfl,?_⟩))
   have hz2:=bs2.size
   refine cu (Ln (n:=min ((arrOf st).size-lo) (mM (arrOf st).size (arrOf st).size 0)) C bs2.kd (hU.of_perm bs2.perm) (by omega) (by omega) sg2 fun st3 kp3 sg3=>?_)
   rw[if_neg (by decide)]
   have bs3:=bs2.kp kp3
   have cv3:Cov rk (arrOf st3) 0 (pendingOf st3).toList lo:=by
    rw[kp3.pd]
    exact cv2.cong fun x _ hx=>CV (kp3.out x (.inl hx))
   have hpos:0<min ((arrOf st).size-lo) (mM (arrOf st).size (arrOf st).size 0):=by omega
   have hfit:lo+min ((arrOf st).size-lo) (mM (arrOf st).size (arrOf st).size 0)≤(arrOf st).size:=by omega
   refine cu (jC ?_)
   cases hb:(pendingOf st3).back? with
   |none=>
    dsimp only
    exact cu (iX (cV (nextOf st3 _ bs3 cv3 hpos hfit sg3 rfl)))
   |some e=>
    obtain⟨s1,n1,p1⟩:=e
    dsimp only
    refine cu (fW (eK (I:=fun _ c st4=>c=(none,())∧Bs kd a₀ st4∧Cov rk (arrOf st4) 0 (pendingOf st4).toList lo∧∀x,lo≤x→RK rk (arrOf st4) x=RK rk (arrOf st3) x)
     (Q:=fun c st4=>c=(none,())∧Bs kd a₀ st4∧Cov rk (arrOf st4) 0 (pendingOf st4).toList lo∧∀x,lo≤x→RK rk (arrOf st4) x=RK rk (arrOf st3) x) ?_ (fun _ _ q=>q) ⟨rfl,bs3,cv3,fun _ _=>rfl⟩) ?_)
    ·rintro y c st4 _ _ ⟨rfl,bs4,cv4,ou4⟩
     refine cu (jC ?_)
     by_cases cp:(pendingOf st4).size>1
     ·rw[if_pos cp]
      obtain⟨o1,o2,o3⟩:=(pendingOf st4)[(pendingOf st4).size-2]
      have hge:(pendingOf st4)[(pendingOf st4).size-2]?=some (pendingOf st4)[(pendingOf st4).size-2]:=getElem?_pos _ _ (by omega)
      rw[hge]
      dsimp only
      by_cases co:(pendingOf st4)[(pendingOf st4).size-2].2.2≤power' (arrOf st).size (2*s1+n1) (2*s1+n1+n1+min ((arrOf st).size-lo) (mM (arrOf st).size (arrOf st).size 0)) (arrOf st).size
      ·rw[if_pos co]
       exact cV ⟨rfl,bs4,cv4,ou4⟩
      ·rw[if_neg co]
       refine cu (Ds C hU bs4 cv4 (by omega) (by omega) fun st5 bs5 cv5 _ ou5=>?_)
       rw[if_neg (by decide)]
       exact cV ⟨rfl,bs5,cv5,fun x hx=> (ou5 x hx).trans (ou4 x hx)⟩
     ·rw[if_neg cp]
      exact cV ⟨rfl,bs4,cv4,ou4⟩
    ·rintro c st4 ⟨rfl,bs4,cv4,ou4⟩
     dsimp only
     refine cu (iX ?_)
     refine cu (iX (cV ?_))
     have sg4:Seg rk (arrOf st4) lo (lo+min ((arrOf st).size-lo) (mM (arrOf st).size (arrOf st).size 0)):=fun i j q1 q2 q3=>by rw[ou4 i q1,ou4 j (by omega)];exact sg3 i j q1 q2 q3
     exact nextOf (kS st4 ((pendingOf st4).modify ((pendingOf st4).size-1) fun e=> (e.1,e.2.1,power' (arrOf st).size (2*s1+n1) (2*s1+n1+n1+min ((arrOf st).size-lo) (mM (arrOf st).size (arrOf st).size 0)) (arrOf st).size))) _ ⟨bs4.kd,bs4.fl,bs4.perm⟩ (Cov.power cv4) hpos hfit sg4 rfl
  ·rw[if_neg cm]
   have bs3:=bs2
   have cv3:=cv2
   have sg3:=sg2
   have hpos:0<n:=by omega
   have hfit:lo+n≤(arrOf st).size:=by omega
   refine cu (jC ?_)
   cases hb:(pendingOf st2).back? with
   |none=>
    dsimp only
    exact cu (iX (cV (nextOf st2 _ bs3 cv3 hpos hfit sg3 rfl)))
   |some e=>
    obtain⟨s1,n1,p1⟩:=e
    dsimp only
    refine cu (fW (eK (I:=fun _ c st4=>c=(none,())∧Bs kd a₀ st4∧Cov rk (arrOf st4) 0 (pendingOf st4).toList lo∧∀x,lo≤x→RK rk (arrOf st4) x=RK rk (arrOf st2) x)
     (Q:=fun c st4=>c=(none,())∧Bs kd a₀ st4∧Cov rk (arrOf st4) 0 (pendingOf st4).toList lo∧∀x,lo≤x→RK rk (arrOf st4) x=RK rk (arrOf st2) x) ?_ (fun _ _ q=>q) ⟨rfl,bs3,cv3,fun _ _=>rfl⟩) ?_)
    ·rintro y c st4 _ _ ⟨rfl,bs4,cv4,ou4⟩
     refine cu (jC ?_)
     by_cases cp:(pendingOf st4).size>1
     ·rw[if_pos cp]
      obtain⟨o1,o2,o3⟩:=(pendingOf st4)[(pendingOf st4).size-2]
      have hge:(pendingOf st4)[(pendingOf st4).size-2]?=some (pendingOf st4)[(pendingOf st4).size-2]:=getElem?_pos _ _ (by omega)
      rw[hge]
      dsimp only
      by_cases co:(pendingOf st4)[(pendingOf st4).size-2].2.2≤power' (arrOf st).size (2*s1+n1) (2*s1+n1+n1+n) (arrOf st).size
      ·rw[if_pos co]
       exact cV ⟨rfl,bs4,cv4,ou4⟩
      ·rw[if_neg co]
       refine cu (Ds C hU bs4 cv4 (by omega) (by omega) fun st5 bs5 cv5 _ ou5=>?_)
       rw[if_neg (by decide)]
       exact cV ⟨rfl,bs5,cv5,fun x hx=> (ou5 x hx).trans (ou4 x hx)⟩
     ·rw[if_neg cp]
      exact cV ⟨rfl,bs4,cv4,ou4⟩
    ·rintro c st4 ⟨rfl,bs4,cv4,ou4⟩
     dsimp only
     refine cu (iX ?_)
     refine cu (iX (cV ?_))
     have sg4:Seg rk (arrOf st4) lo (lo+n):=fun i j q1 q2 q3=>by rw[ou4 i q1,ou4 j (by omega)];exact sg3 i j q1 q2 q3
     exact nextOf (kS st4 ((pendingOf st4).modify ((pendingOf st4).size-1) fun e=> (e.1,e.2.1,power' (arrOf st).size (2*s1+n1) (2*s1+n1+n1+n) (arrOf st).size))) _ ⟨bs4.kd,bs4.fl,bs4.perm⟩ (Cov.power cv4) hpos hfit sg4 rfl
 case post=>
  rintro⟨c1,c2⟩ st1 ⟨e,bs,cv⟩
  cases e
  dsimp only
  have done:∀st',Bs kd a₀ st'→Cov rk (arrOf st') 0 (pendingOf st').toList (arrOf st).size→(pendingOf st').size≤1→Ez rk (arrOf st'):=fun st' bs' cv' hl=>by
   have hz':=bs'.size
   intro i j hij hj
   rw[←cZ] at hl
   revert cv' hl
   generalize (pendingOf st').toList=l
   intro cv' hl
   match l,cv',hl with
   | [],cv',_=>
    have:0=(arrOf st).size:=cv'
    omega
   | [e],cv',_=>
    obtain⟨q1,q2,q3,q4⟩:=cv'
    have:0+e.2.1=(arrOf st).size:=q4
    exact q3 i j (by omega) hij (by omega)
   |_::_::_,_,hl=>simp only[c9] at hl;omega
  have hlen:=cv.le
  rw[cZ] at hlen
  refine cu (fW (eK (I:=fun x c st'=>c=(none,())∧Bs kd a₀ st'∧Cov rk (arrOf st') 0 (pendingOf st').toList (arrOf st).size∧(pendingOf st').size+x≤(arrOf st).size)
   (Q:=fun c st'=>c=(none,())∧Bs kd a₀ st'∧Cov rk (arrOf st') 0 (pendingOf st').toList (arrOf st).size∧(pendingOf st').size≤1) ?_ ?_ ⟨rfl,bs,cv,by omega⟩) ?_)
  ·rintro x c st2 _ hx ⟨rfl,bs2,cv2,hm⟩
   refine cu (jC ?_)
   by_cases cp:(pendingOf st2).size≤1
   ·rw[if_pos cp]
    exact cV ⟨rfl,bs2,cv2,cp⟩
   ·rw[if_neg cp]
    refine cu (Ds C hU bs2 cv2 (by omega) ?_ fun st5 bs5 cv5 hs5 _=>?_)
    ·split<;>split<;>omega
    ·rw[if_neg (by decide)]
     exact cV ⟨rfl,bs5,cv5,by omega⟩
  ·rintro c st2 ⟨rfl,bs2,cv2,hm⟩
   exact⟨rfl,bs2,cv2,by omega⟩
  ·rintro c st2 ⟨rfl,bs2,cv2,hm⟩
   exact cV (h _ bs2 (done _ bs2 cv2 hm))
end
end SrtG
namespace SrtG
open PySem PyProof.Rows
def Lp(h:Heap)(v:Value)(a b:Int):Prop:=∃x o t u n,v=.ref x∧h.get? x=some o∧o.data=.seq #[.int a t,.int b u] n
def Rx(h:Heap)(k:Keyed):Int:=match k.1 with
  | .ref x=>match h.get? x with
    |some o=>match o.data with
     | .seq xs _=>match (xs[0]?:Option Value),(xs[1]?:Option Value) with
      |some (.int a _),some (.int b _)=>65536*a+b
      |_,_=>0
     |_=>0
    |_=>0
  |_=>0
theorem FA{h:Heap}{k:Keyed}{a b:Int}(p:Lp h k.1 a b):Rx h k=65536*a+b:=by
 obtain⟨x,o,t,u,n,e1,e2,e3⟩:=p
 unfold Rx
 rw[e1]
 dsimp only
 rw[e2]
 dsimp only
 rw[e3]
 rfl
def YN(h:Heap)(k:Keyed):Prop:=∃a b,Lp h k.1 a b∧0≤b∧b<65536
variable{prog:Program}{w:World}{A:de}{E:Value→Shared→Prop}{s:Shared}
theorem OJ:Om prog w A E s (tuples' true) (YN s.heap) (Rx s.heap):=by
 intro st x y Q hk hx hy h
 obtain⟨a,b,px,b0,b1⟩:=hx
 obtain⟨c,d,py,d0,d1⟩:=hy
 rw[FA px,FA py] at h
 obtain⟨p,o,t,u,n,e1,e2,e3⟩:=px
 obtain⟨p',o',t',u',n',e1',e2',e3'⟩:=py
 rw[lt'_eq]
 refine cu (jC ?_)
 rw[hk,e1,e1']
 refine cu (ki (jb ?_))
 refine PySem.W.kat_lt e2 e3 e2' e3' ?_
 have fin:∀r:Bool,r=decide (65536*a+b<65536*c+d)→(s=s∧wpS (model prog w) A E s (match (Except.ok r:Except Value Bool) with
   | .ok b=>pure (some b)
   | .error e=>do
    modify (fun s=>kX (kindOf s) (arrOf s) (pendingOf s) (gallopOf s) (some e))
    pure none) Q st):=fun r hr=> ⟨rfl,by rw[hr];exact cV h⟩
 refine lQ (jt ?_)
 refine mE (fun e=>?_) (fun e=>?_)
 ·have e':=eq_of_beq e
  refine ma (lQ (jt ?_))
  refine mE (fun q=>?_) (fun q=>?_)
  ·have q':=eq_of_beq q
   exact ma (PySem.W.kat_nil (fin _ (by rw[e',q'];simp)))
  ·exact mD (PySem.W.kat_one _ _ (lt_int (fin _ (by congr 1;rw[e'];apply propext;constructor<;>intro<;>omega))))
 ·have e':a≠c:=fun q=>by rw[q] at e;simp at e
  refine mD (oneLt_int (fin _ ?_))
  congr 1
  apply propext
  constructor<;>intro<;>omega
open PySem.Calls PySem.W
theorem Gh:∀(vs:List Value),vs.zip vs=vs.map fun v=> (v,v)
 | []=>rfl
 |v::vs=>by rw[List.zip_cons_cons,dv,Gh vs]
structure Rk(prog:Program)(w:World)(U:Heap→Value→Prop)(rk:Heap→Value→Int)(T:Value):Prop where
 cmp:∀{A:de} {E:Value→Shared→Prop} {s:Shared},Om prog w A E s (tuples' true) (fun k=>U s.heap k.1) (fun k=>rk s.heap k.1)
 kept:∀{h h':Heap} {v:Value},U h v→(∀b o,o.cls=.type "tuple"→h.get? b=some o→h'.get? b=some o)→U h' v∧rk h' v=rk h v
 kat:∀{h:Heap} {vs:List Value},(∀v∈vs,U h v)→∃fs:List Value,nD h vs fs∧fs.length=vs.length∧∀v∈fs,∀M h',Looks M h' (nQ v) T
 t1:(T==T)=true
 t2:(T !=iZ "tuple")=true
section
variable{prog:Program}{w:World}{A:de}{E:Value→Shared→Prop}{s:Shared}{U:Heap→Value→Prop}{rk:Heap→Value→Int}{T:Value}
theorem Si{vs:List Value}{Q:eB→Shared→Prop}(R:Rk prog w U rk T)(ok:∀v∈vs,U s.heap v)
  (h:∀st',iR st'=none→((arrOf st').map (·.2)).toList.Perm vs→((arrOf st').map (·.2)).toList.Pairwise (fun x y=>rk s.heap x≤rk s.heap y)→Q st' s):
  wpAny (model prog w) A ((sortRuns').run (kX (tuples' true) (vs.toArray.zip vs.toArray) #[] 7 none)) (fun r s'=>Q r.2 s') E s:=by
 have hz:(vs.toArray.zip vs.toArray)=(vs.map fun v=> (v,v)).toArray:=by
  apply js
  rw[Array.toList_zip]
  show vs.zip vs=vs.map fun v=> (v,v)
  exact Gh vs
 have hU:AllU (fun k=>U s.heap k.1) (vs.toArray.zip vs.toArray):=fun i p e=>by
  rw[hz] at e
  have e':(vs.map fun v=> ((v,v):Keyed))[i]?=some p:=by rw[←dG] at e;exact e
  obtain⟨v,hv,rfl⟩:=df.mp (cU e')
  exact ok v hv
 have hwp:wpS (model prog w) A E s sortRuns' (fun _ st'=>Q st' s) (kX (tuples' true) (vs.toArray.zip vs.toArray) #[] 7 none):=by
  refine Pq (a₀:=vs.toArray.zip vs.toArray) (rk:=fun k=>rk s.heap k.1) R.cmp hU ⟨rfl,rfl,gZ.refl _⟩ rfl fun st' b srt=>?_
  have hpm:=b.perm
  rw[hz] at hpm
  have hsame:∀k,k∈(arrOf st').toList→k=(k.2,k.2):=fun k hk=>by
   obtain⟨v,_,rfl⟩:=df.mp (hpm.mem_iff.mp hk)
   rfl
  refine h st' b.fl ?_ ?_
  ·rw[lS]
   have:=hpm.map (fun k:Keyed=>k.2)
   rw[show((vs.map fun v=> ((v,v):Keyed)).toArray.toList.map fun k:Keyed=>k.2)=vs from by
    show(vs.map fun v=> ((v,v):Keyed)).map (fun k:Keyed=>k.2)=vs
    rw[eu]
    exact nN vs] at this
   exact this
  ·rw[lS,eJ]
   refine dU.mpr fun i j hi hj hij=>?_
   have hi':i< (arrOf st').size:=by rw[←cZ];exact hi
   have hj':j< (arrOf st').size:=by rw[←cZ];exact hj
   have q:=srt i j (iG hij) hj'
   rw[Ar hi',Ar hj'] at q
   have e1:=hsame (arrOf st').toList[i] (gu hi)
   have e2:=hsame (arrOf st').toList[j] (gu hj)
   rw[←(show(arrOf st').toList[i].1=(arrOf st').toList[i].2 from congrArg dX e1),←(show(arrOf st').toList[j].1=(arrOf st').toList[j].2 from congrArg dX e2)]
   exact q
 exact gD hwp (fun r s' q=>by rw[q.1];exact q.2) fun _ _ e=>e
theorem KG{a:Addr}{vs:List Value}{n:Nat}{P:oa→Shared→Prop}(ho:s.heap.get? a=some (eP "list" vs.toArray n))(R:Rk prog w U rk T)(ok:∀v∈vs,U s.heap v)(h2:2≤vs.length)(hn:vs.length≤9000000)
  (h:∀out c h',out.Perm vs→out.Pairwise (fun x y=>rk s.heap x≤rk s.heap y)→h'.get? a=some (eP "list" (kL out) c)→(∀b o,b≠a→s.heap.get? b=some o→h'.get? b=some o)→P (.done (.ret .none)) {s with heap:=h'}):
  wpAny (model prog w) A (Builtin.«list.sort» ⟨[.ref a],[]⟩) P E s:=by
 obtain⟨e1,ho1⟩:∃e1,(s.heap.update a (fS fun _=> (#[]:Array Value))).get? a=some (eP "list" #[] e1):=⟨_,kr ho fun _=> #[]⟩
 have keep:∀b o,b≠a→s.heap.get? b=some o→(((s.heap.update a (fS fun _=> (#[]:Array Value))).push (eP "tuple" vs.toArray 0)).push (eP "list" #[] 0)).get? b=some o:=fun b o hb e=>
  cj _ (cj _ (by rw[jA _ _ _ _ hb];exact e))
 have keepT:∀b o,o.cls=.type "tuple"→s.heap.get? b=some o→(((s.heap.update a (fS fun _=> (#[]:Array Value))).push (eP "tuple" vs.toArray 0)).push (eP "list" #[] 0)).get? b=some o:=fun b o ht e=>by
  refine keep b o (fun q=>?_) e
  rw[q,ho] at e
  cases e
  exact absurd (show iZ "list" =iZ "tuple" from ht) (by decide)
 have ho3:(((s.heap.update a (fS fun _=> (#[]:Array Value))).push (eP "tuple" vs.toArray 0)).push (eP "list" #[] 0)).get? a=some (eP "list" #[] e1):=cj _ (cj _ ho1)
 have ok3:∀v∈vs,U _ v:=fun v hv=> (R.kept (ok v hv) keepT).1
 have rk3:∀v∈vs,rk _ v=rk s.heap v:=fun v hv=> (R.kept (ok v hv) keepT).2
 rw[list_sort_plain]
 refine a9 (listItems_at ho rfl ?_)
 refine a9 (lJ ho rfl ?_ (by rw[dj,eT];omega) (eS _))
 refine a9 (mn ho1 rfl ?_)
 refine a9 (wpAny_newTuple ?_ (by show vs.length≤_;rw[eT];omega))
 refine a9 (lI ?_ (eS _))
 refine eC ?_
 show wpAny (model prog w) A _ P E {s with heap:=((s.heap.update a (fS fun _=> (#[]:Array Value))).push (eP "tuple" vs.toArray 0)).push (eP "list" #[] 0)}
 generalize hG:((s.heap.update a (fS fun _=> (#[]:Array Value))).push (eP "tuple" vs.toArray 0)).push (eP "list" #[] 0)=G at keep ho3 ok3 rk3 ⊢
 dsimp only
 have hn2:¬vs.toArray.size<2:=by rw[dj];omega
 rw[if_neg hn2,if_neg hn2]
 obtain⟨fs,kt,hl,hf⟩:=R.kat ok3
 refine a9 (kat_kind (s:={s with heap:=G}) (T:=T) kt (by omega) (fun v hv=>hf v hv _ _) R.t1 ?_)
 rw[R.t2]
 refine a9 (gD (Si (s:={s with heap:=G}) (Q:=fun st' s'=>s'={s with heap:=G}∧iR st'=none∧((arrOf st').map (·.2)).toList.Perm vs∧((arrOf st').map (·.2)).toList.Pairwise (fun x y=>rk G x≤rk G y)) R ok3 (fun st' a1 a2 a3=> ⟨rfl,a1,a2,a3⟩)) ?_ fun _ _ e=>e)
 rintro⟨⟨⟩,st'⟩ s' ⟨rfl,hfl,hpm,hpw⟩
 dsimp only
 have hsz:((arrOf st').map (·.2)).size=vs.length:=by rw[←cZ];exact hpm.length_eq
 obtain⟨c2,hc2⟩:∃c2,(G.update a (fS fun _=> (arrOf st').map (·.2))).get? a=some (eP "list" ((arrOf st').map (·.2)) c2):=⟨_,kr ho3 fun _=> (arrOf st').map (·.2)⟩
 refine a9 (mn ho3 rfl ?_)
 refine a9 (lJ ho3 rfl ?_ (eS _) (dZ (Nat.le_of_eq hsz) (by rw[eT];omega)))
 rw[hfl]
 simp only[bne_self_eq_false,dC,if_false]
 refine b9 (h ((arrOf st').map (·.2)).toList c2 _ hpm ?_ hc2 fun b o hb e=>by rw[jA _ _ _ _ hb];exact keep b o hb e)
 refine fI (fun{x y} hx hy q=>?_) hpw
 rw[rk3 _ (hpm.mem_iff.mp hx),rk3 _ (hpm.mem_iff.mp hy)] at q
 exact q
end
def TupAt(h:Heap)(v:Value)(a b:Int):Prop:=∃x o t u n,v=.ref x∧h.get? x=some o∧o.cls=.type "tuple"∧o.data=.seq #[.int a t,.int b u] n
def TupsOk(h:Heap)(vs:List Value):Prop:=∀v,v∈vs→∃a b,TupAt h v a b∧0≤b∧b<65536
theorem TupAt.pair{h:Heap}{v:Value}{a b:Int}(t:TupAt h v a b):Lp h v a b:=by
 obtain⟨x,o,t,u,n,e1,e2,_,e4⟩:=t
 exact⟨x,o,t,u,n,e1,e2,e4⟩
theorem TupsOk.kat{h:Heap}:∀{vs:List Value},TupsOk h vs→∃fs:List Value,nD h vs fs∧fs.length=vs.length∧∀v∈fs,∃a t,v=.int a t
 | [],_=> ⟨[],nD.nil,rfl,fun v hv=>by cases hv⟩
 |v::vs,ok=>by
  obtain⟨fs,k,hl,hf⟩:=TupsOk.kat (vs:=vs) fun v hv=>ok v (.tail _ hv)
  obtain⟨a,b,⟨x,o,t,u,n,rfl,e,hc,hd⟩,_,_⟩:=ok v (.head _)
  exact⟨.int a t::fs,nD.cons e hc hd rfl k,by rw[c9,c9,hl],fun v hv=>by
   rcases da.mp hv with rfl|hv
   ·exact⟨a,t,rfl⟩
   ·exact hf v hv⟩
variable{prog:Program}{w:World}{A:de}{E:Value→Shared→Prop}{s:Shared}
theorem TupsOk.kept{h h':Heap}{vs:List Value}(ok:TupsOk h vs)(k:∀b o,o.cls=.type "tuple"→h.get? b=some o→h'.get? b=some o):TupsOk h' vs:=fun v hv=>by
 obtain⟨a,b,⟨x,o,t,u,n,e1,e2,e3,e4⟩,q⟩:=ok v hv
 exact⟨a,b,⟨x,o,t,u,n,e1,k _ _ e3 e2,e3,e4⟩,q⟩
theorem TupsOk.rk{h h':Heap}{vs:List Value}(ok:TupsOk h vs)(k:∀b o,o.cls=.type "tuple"→h.get? b=some o→h'.get? b=some o){v:Value}(hv:v∈vs):Rx h' (v,v)=Rx h (v,v):=by
 obtain⟨a,b,t,q⟩:=ok v hv
 obtain⟨x,o,t',u,n,e1,e2,e3,e4⟩:=t
 rw[FA (k:=(v,v)) (TupAt.pair ⟨x,o,t',u,n,e1,e2,e3,e4⟩),FA (k:=(v,v)) (TupAt.pair ⟨x,o,t',u,n,e1,k _ _ e3 e2,e3,e4⟩)]
theorem Pt:Rk prog w (fun h v=>∃a b,TupAt h v a b∧0≤b∧b<65536) (fun h v=>Rx h (v,v)) (.type "int") where
 cmp:=by
  intro A E s st x y Q hk hx hy h
  obtain⟨a,b,t,q⟩:=hx
  obtain⟨c,d,u,r⟩:=hy
  exact OJ st x y Q hk ⟨a,b,t.pair,q⟩ ⟨c,d,u.pair,r⟩ h
 kept:=fun{h h' v} ok k=> ⟨TupsOk.kept (vs:=[v]) (fun u hu=>cq.mp hu▸ok) k v (by simp),TupsOk.rk (vs:=[v]) (fun u hu=>cq.mp hu▸ok) k (by simp)⟩
 kat:=fun{h vs} ok=>by
  obtain⟨fs,kt,hl,hf⟩:=TupsOk.kat ok
  refine⟨fs,kt,hl,fun v hv M h'=>?_⟩
  obtain⟨x,t,rfl⟩:=hf v hv
  exact fun _ _ _ _ _ q=>b9 q
 t1:=rfl
 t2:=rfl
theorem Lq{a:Addr}{vs:List Value}{n:Nat}{P:oa→Shared→Prop}(ho:s.heap.get? a=some (eP "list" vs.toArray n))(ok:TupsOk s.heap vs)(h2:2≤vs.length)(hn:vs.length≤4096)
  (h:∀out c h',out.Perm vs→out.Pairwise (fun x y=>Rx s.heap (x,x)≤Rx s.heap (y,y))→h'.get? a=some (eP "list" (kL out) c)→(∀b o,b≠a→s.heap.get? b=some o→h'.get? b=some o)→P (.done (.ret .none)) {s with heap:=h'}):
  wpAny (model prog w) A (Builtin.«list.sort» ⟨[.ref a],[]⟩) P E s:=KG ho Pt ok h2 (by omega) h
end SrtG
namespace StT
open PySem PySem.SetTable PyProof.Rows
section
variable{prog:Program}{w:World}{A:de}{E:Value→Shared→Prop}{s:Shared}
abbrev CW(w:World):Obj:={cls:=.type "set",dict:=none,data:=.set #[] 0 (.fresh 0 0 (!w.params.followText "set-order"))}
theorem Pu(a:Value){Q₁:Value→Shared→Prop}(h:Q₁ (.ref s.heap.objs.size) {s with heap:=s.heap.push (CW w)}):
  iD (model prog w) A (.call (.builtin "set.__new__") ⟨[.type "set",a],[]⟩) (wants Q₁ E) s:=by
 refine l8 ?_
 show wpAny _ A.in1 (do jv "set.__new__" ⟨[.type "set",a],[]⟩;again (.builtin "set.__new__" ⟨[.type "set",a],[]⟩)) _ _ s
 refine a9 (kj (PySem.F.newCall_set_1 a) (b9 ⟨jc PySem.F.plain_set_new _,ic PySem.F.entry_set_new ?_⟩))
 rw[gX PySem.F.plain_set_new _]
 unfold Builtin.«set.__new__» Builtin.Frozenset.newClass
 have hsub:=sub_set_self
 obtain⟨hp,g,d,tk,os⟩:=s
 dsimp only
 wp_walk
 refine j7 (b9 ?_)
 dsimp only
 simp only[newObj]
 refine a9 (nK (b9 ?_))
 exact b9 h
theorem Lr{T newId initId:String}{args:List Value}{Q Q₁:Value→Shared→Prop}(ft:TypeCalled T newId initId)
  (hct:checkTypeCall T ⟨args,[]⟩=pure ())
  (hnew:iD (model prog w) A.in1 (.call (.builtin newId) ⟨.type T::args,[]⟩) (wants Q₁ E) s)
  (hnext:∀obj s₁,Q₁ obj s₁→s₁.TypeIs obj T∧iD (model prog w) A.in1 (.call (.builtin initId) ⟨obj::args,[]⟩) (wants (fun r s₂=>r=.none∧Q obj s₂) E) s₁):
  wpAny (model prog w) A (call (.type T) args) Q E s:=by
 obtain⟨c,tl,hmro⟩:=ft.mro
 have hmade:=ft.made
 have hsub:=ft.sub
 refine jl (l8 ?_)
 show wpAny _ _ (callAny (.type T) _) _ _ _
 refine b9 ⟨jK _ (by decide+kernel),ic PySem.F.entry_type_call ?_⟩
 rw[de.under_plain (weight_type_call_type T args []) rfl]
 have h1:=ft.notType
 have h2:=ft.canCreate
 repeat (any_goals (first|assumption|wp_step))
 refine iY hnew fun r s₁ hr=>?_
 cases r with
 |error e=>exact hr
 |ok fl=>
  cases fl with
  |ret obj=>
   obtain⟨hT,hsi⟩:=hnext _ _ hr
   have hli:=ft.init.lookup
   have hbi:=ft.init.bind obj
   repeat (any_goals (first|assumption|wp_step))
   refine iY hsi fun r₂ s₂ hr₂=>?_
   cases r₂ with
   |error e=>exact hr₂
   |ok fl₂=>
    cases fl₂ with
    |ret r=>
     obtain⟨rfl,hq⟩:=hr₂
     repeat (any_goals (first|assumption|wp_step))
    |_=>exact hr₂.elim
  |_=>exact hr.elim
theorem Gi{l:Addr}{items:Array Value}{ps:List (List Int×Addr)}{Q:Value→Shared→Prop}
  (hh:A.handled=none) (hl:s.heap.IsList l items) (hps:items.toList=ps.map fun p=>Value.ref p.2) (hp:∀k x,(k,x)∈ps→IK prog w s.heap k x) (hz:ps.length≤300) (hu:A.units+8<cLine)
  (h:∀(h':Heap) (tk:Nat) (xs:List (List Int×Addr)),SetX prog w h' s.heap.objs.size xs→Ir ps xs→
   (∀b o,b<s.heap.objs.size→s.heap.get? b=some o→h'.get? b=some o)→Q (.ref s.heap.objs.size) {s with heap:=h',toks:=tk}):
  wpAny (model prog w) A (call (.type "set") [.ref l]) Q E s:=by
 refine Lr (Q₁:=fun obj s₁=>obj=.ref s.heap.objs.size∧s₁={s with heap:=s.heap.push (CW w)}) PySem.F.called_set (PySem.F.typeCall_set_1 _) (Pu _ ⟨rfl,rfl⟩) ?_
 rintro obj s₁ ⟨rfl,rfl⟩
 have hS:(s.heap.push (CW w)).get? s.heap.objs.size=some (CW w):=dy _ rfl
 have hT:Shared.TypeIs {s with heap:=s.heap.push (CW w)} (.ref s.heap.objs.size) "set":=⟨_,hS,rfl⟩
 refine⟨hT,gS PySem.F.called_set.init.plain PySem.F.entry_set_init (check_set_init_1 hT ?_)⟩
 obtain⟨ol,hol,hcl,nl,hdl⟩:=hl
 obtain⟨ocls,odict,odata,oslots⟩:=ol
 simp only at hcl hdl
 subst hcl;subst hdl
 have hol':(s.heap.push (CW w)).get? l=some {cls:=.type "list",dict:=odict,data:=.seq items nl,slots:=oslots}:=cj _ hol
 have hsls:=PySem.F.sub_list_set
 have hslf:=PySem.F.sub_list_frozenset
 have hne:(iZ "list" ==iZ "dict")=false:=by decide
 have hl1:(s.heap.push (CW w)).IsList l items:=⟨_,hol',rfl,nl,rfl⟩
 unfold Builtin.«set.__init__» noKeywords Builtin.Frozenset.updateFrom
 generalize hPI:ng=PI
 wp_walk
 subst hPI
 refine lz hl1 ?_
 refine a9 (wpAny_runValue ?_)
 have hlS:l<s.heap.objs.size:=dc hol
 have hneI:l≠(s.heap.push (CW w)).objs.size:=by
  rw[fH];exact dF (gY hlS)
 have kp:∀b o,s.heap.get? b=some o→((s.heap.push (CW w)).push {cls:=.type "list_iterator",data:=.fields #[.ref l,.int 0 0]}).get? b=some o:=fun b o e=>cj _ (cj _ e)
 refine Se (a:=s.heap.objs.size) (l:=l) (ps:=ps) (by simpa using hh) hneI (by rw[fH];exact dF (iU _)) (jV hlS) hps hz (by
   show A.in1.in1.units+1<cLine
   exact jJ (show A.units+1+1+1≤A.units+8 by omega) hu) (ps.length-0) 0 _ [] rfl (eS _)
  ⟨_,dy _ rfl,rfl,rfl⟩ (hl1.push _) (fun k x hx=> ⟨Cr (hp k x hx) fun u e=>kp x u e,?_⟩) ⟨CW w,#[],0,_,cj _ hS,⟨rfl,rfl,rfl⟩,rfl,rfl,fun i k x e=>by simp at e,List.nodup_nil,Tb.fresh _ _ _,rfl,(by show 0*5<7*3;decide),rfl⟩ ⟨fun p hp=>by simp at hp,fun k y hy=>by simp at hy,by simp⟩ ?_
 ·obtain⟨o',_,_,ho',_⟩:=hp k x hx
  have:=dc ho'
  rw[fH]
  exact dF (gY this)
 ·intro h' tk' xs' kk sx so
  refine b9 ?_
  show wpAny _ _ (ret jn) _ _ _
  refine b9 ⟨rfl,h h' tk' xs' sx so fun b o hb e=>kk b o (dF hb) ?_ (kp b o e)⟩
  rw[fH];exact dF (gY hb)
end
open PySem.Calls PySem.W
section
variable{prog:Program}{w:World}{A:de}{E:Value→Shared→Prop}{s:Shared}
theorem KH{a:Addr}{vs:List Value}{n:Nat}{P:oa→Shared→Prop}(ho:s.heap.get? a=some (eP "list" vs.toArray n))(h2:vs.length<2)
  (h:∀c h',h'.get? a=some (eP "list" vs.toArray c)→(∀b o,b≠a→s.heap.get? b=some o→h'.get? b=some o)→P (.done (.ret .none)) {s with heap:=h'}):
  wpAny (model prog w) A (Builtin.«list.sort» ⟨[.ref a],[]⟩) P E s:=by
 obtain⟨e1,ho1⟩:∃e1,(s.heap.update a (fS fun _=> (#[]:Array Value))).get? a=some (eP "list" #[] e1):=⟨_,kr ho fun _=> #[]⟩
 have keep:∀b o,b≠a→s.heap.get? b=some o→(((s.heap.update a (fS fun _=> (#[]:Array Value))).push (eP "tuple" vs.toArray 0)).push (eP "list" #[] 0)).get? b=some o:=fun b o hb e=>
  cj _ (cj _ (by rw[jA _ _ _ _ hb];exact e))
 have ho3:(((s.heap.update a (fS fun _=> (#[]:Array Value))).push (eP "tuple" vs.toArray 0)).push (eP "list" #[] 0)).get? a=some (eP "list" #[] e1):=cj _ (cj _ ho1)
 rw[list_sort_plain]
 refine a9 (listItems_at ho rfl ?_)
 refine a9 (lJ ho rfl ?_ (by rw[dj,eT];omega) (eS _))
 refine a9 (mn ho1 rfl ?_)
 refine a9 (wpAny_newTuple ?_ (by show vs.length≤_;rw[eT];omega))
 refine a9 (lI ?_ (eS _))
 refine eC ?_
 show wpAny (model prog w) A _ P E {s with heap:=((s.heap.update a (fS fun _=> (#[]:Array Value))).push (eP "tuple" vs.toArray 0)).push (eP "list" #[] 0)}
 generalize hG:((s.heap.update a (fS fun _=> (#[]:Array Value))).push (eP "tuple" vs.toArray 0)).push (eP "list" #[] 0)=G at keep ho3 ⊢
 dsimp only
 have hn2:vs.toArray.size<2:=by rw[dj];omega
 rw[if_pos hn2,if_pos hn2]
 refine a9 (b9 ?_)
 refine a9 (b9 ?_)
 dsimp only
 have har:((vs.toArray.zip vs.toArray).map (·.2))=vs.toArray:=by
  apply js
  rw[lS,Array.toList_zip]
  show(vs.zip vs).map (·.2)=vs
  rw[SrtG.Gh,eu]
  exact nN vs
 have har':(arrOf (kX general' (vs.toArray.zip vs.toArray) #[] 7 none)).map (·.2)=vs.toArray:=har
 rw[har']
 obtain⟨c2,hc2⟩:∃c2,(G.update a (fS fun _=>vs.toArray)).get? a=some (eP "list" vs.toArray c2):=⟨_,kr ho3 fun _=>vs.toArray⟩
 refine a9 (mn ho3 rfl ?_)
 refine a9 (lJ ho3 rfl ?_ (eS _) (by rw[dj,eT];omega))
 show wpAny _ _ (if(e1 !=e1)=true then _ else _) _ _ _
 rw[if_neg (by simp)]
 exact b9 (h c2 _ hc2 fun b o hb e=>by rw[jA _ _ _ _ hb];exact keep b o hb e)
theorem BQ {α β : Type} {f : α → β} {l1 l2 : List β} (h : l1.Perm l2) : ∀ {xs : List α}, l2 = xs.map f → ∃ ys : List α, ys.Perm xs ∧ ys.map f = l1 := by
  induction h with
  | nil => intro xs e; cases xs with
    | nil => exact ⟨[], .refl _, rfl⟩
    | cons x xs => cases e
  | cons x _ ih => intro xs e; cases xs with
    | nil => cases e
    | cons y xs =>
      rw [dv] at e
      injection e with e1 e2
      obtain ⟨ys, h1, h2⟩ := ih e2
      exact ⟨y :: ys, h1.cons y, by rw [dv, h2, e1]⟩
  | swap x y l => intro xs e; match xs, e with
    | a :: b :: xs, e =>
      simp only [dv] at e
      injection e with e1 e2
      injection e2 with e2 e3
      exact ⟨b :: a :: xs, .swap _ _ _, by simp only [dv]; rw [← e1, ← e2, ← e3]⟩
  | trans _ _ ih1 ih2 => intro xs e
                         obtain ⟨ys, h1, h2⟩ := ih2 e
                         obtain ⟨zs, h3, h4⟩ := ih1 h2.symm
                         exact ⟨zs, h3.trans h1, h4⟩
theorem Ls{a:Addr}{xs:List (List Int×Addr)}{Q:Value→Shared→Prop}(hh:A.handled=none)(S:SetX prog w s.heap a xs)(hz:xs.length≤300)
  (hp:∀k x,(k,x)∈xs→∃p q,k=[p,q]∧0≤q∧q<65536)
  (h:∀(h':Heap) (tk:Nat) (ys:List (List Int×Addr)) (D:Addr) (c:Nat),s.heap.get? D=none→h'.get? D=some (eP "list" (ys.map fun p=>Value.ref p.2).toArray c)→(∀b o,s.heap.get? b=some o→h'.get? b=some o)→
   ys.Perm xs→ys.Pairwise (fun x y=>65536*x.1.getD 0 0+x.1.getD 1 0≤65536*y.1.getD 0 0+y.1.getD 1 0)→Q (.ref D) {s with heap:=h',toks:=tk}):
  wpAny (model prog w) A (call (.builtin "sorted") [.ref a]) Q E s:=by
 obtain⟨o,es,ep,t,S⟩:=S
 refine call_function_entry kind_sorted plain_sorted entry_sorted (args_sorted1 _) ?_
 unfold Builtin.«sorted»
 refine a9 (m:=checkCount "sorted" 1 1 _) (b9 ?_)
 refine a9 (kdu_collect (A:=A.in1) (Sf S.wk) hh S.get (by rw[S.size,eT];omega) fun h1 tk1 acc hk1 hacc=>?_)
 have hsz:acc.toList.length=xs.length:=by rw[cZ,hacc.1,S.size]
 have hacc2:acc.toList=(Dr w a ep es).toList.map (·.2):=by
  apply fv
  intro i
  rw[cg]
  by_cases hi:i<acc.size
  ·have e1:acc[i]?=some acc[i]:=by simp[hi]
   obtain⟨hh',e2⟩:=hacc.2 i _ e1
   have e2':(Dr w a ep es).toList[i]?=some (hh',acc[i]):=by simpa using e2
   rw[e2']
   simpa using e1
  ·have h1':acc.toList[i]?=none:=by simp;omega
   have h2':(Dr w a ep es).toList[i]?=none:=by
    apply gi
    rw[cZ,Ey,←hacc.1];omega
   rw[h1',h2'];rfl
 have hperm:acc.toList.Perm (xs.map fun p=>Value.ref p.2):=by
  rw[hacc2]
  refine((IA w a ep es).map (·.2)).trans ?_
  rw[S.es,OC,eu]
  exact gZ.refl _
 have hIK:∀k x,(k,x)∈xs→IK prog w h1 k x:=fun k x hx=>by
  obtain⟨i,hi⟩:=eF hx
  exact Cr (S.key i k x hi) fun u e=>hk1 x u e
 have tupAt:∀k x,(k,x)∈xs→∃p q,k=[p,q]∧SrtG.TupAt h1 (.ref x) p q∧0≤q∧q<65536:=fun k x hx=>by
  obtain⟨p,q,rfl,h0,h1'⟩:=hp k x hx
  obtain⟨o',items,n,ho',hc',hd',hi'⟩:=hIK _ x hx
  refine⟨p,q,rfl,?_,h0,h1'⟩
  generalize hL:items.toList=L at hi'
  cases hi' with
  |cons i1 i2=>
   cases i2 with
   |cons i3 i4=>
    cases i4
    obtain⟨t1,rfl⟩:=Ew i1
    obtain⟨t2,rfl⟩:=Ew i3
    have:items= #[.int p t1,.int q t2]:=by
     apply js
     rw[hL]
    exact⟨x,o',t1,t2,n,rfl,ho',hc',by rw[hd',this]⟩
 refine a9 (lI ?_ (by rw[hsz,eT];omega))
 have hoL:(h1.push (eP "list" acc.toList.toArray 0)).get? h1.objs.size=some (eP "list" acc.toList.toArray 0):=dy _ rfl
 have hDn:s.heap.get? h1.objs.size=none:=by
  cases e:s.heap.get? h1.objs.size with
  |none=>rfl
  |some o'=>exact absurd (dc (hk1 _ _ e)) (fb _)
 have hkp:∀b o,h1.get? b=some o→(h1.push (eP "list" acc.toList.toArray 0)).get? b=some o:=fun b o e=>cj _ e
 obtain⟨ws,hw1,hw2⟩:=BQ hperm rfl
 have fin:∀(out:List Value) (c:Nat) (h2:Heap),out.Perm acc.toList→out.Pairwise (fun x y=>SrtG.Rx (h1.push (eP "list" acc.toList.toArray 0)) (x,x)≤SrtG.Rx (h1.push (eP "list" acc.toList.toArray 0)) (y,y))→
   h2.get? h1.objs.size=some (eP "list" (kL out) c)→(∀b o,b≠h1.objs.size→(h1.push (eP "list" acc.toList.toArray 0)).get? b=some o→h2.get? b=some o)→Q (.ref h1.objs.size) {s with heap:=h2,toks:=tk1}:=fun out c h2 pm pw hg hk=>by
  obtain⟨ys,y1,y2⟩:=BQ (pm.trans hperm) rfl
  subst y2
  refine h h2 tk1 ys _ c hDn hg (fun b o e=>?_) y1 ?_
  ·have hlt:=dc (hk1 b o e)
   exact hk b o (dF hlt) (hkp b o (hk1 b o e))
  ·rw[eJ] at pw
   refine fI (fun{x y} hx hy q=>?_) pw
   obtain⟨k1,x1⟩:=x
   obtain⟨k2,x2⟩:=y
   obtain⟨p,q',rfl,t1,_⟩:=tupAt k1 x1 (y1.mem_iff.mp hx)
   obtain⟨p2,q2,rfl,t2,_⟩:=tupAt k2 x2 (y1.mem_iff.mp hy)
   have keepT:∀{v:Value} {i j:Int},SrtG.TupAt h1 v i j→SrtG.TupAt (h1.push (eP "list" acc.toList.toArray 0)) v i j:=fun t=>by
    obtain⟨x,o,t,u,n,e1,e2,e3,e4⟩:=t
    exact⟨x,o,t,u,n,e1,hkp _ _ e2,e3,e4⟩
   rw[SrtG.FA (k:=(Value.ref x1,Value.ref x1)) (keepT t1).pair,SrtG.FA (k:=(Value.ref x2,Value.ref x2)) (keepT t2).pair] at q
   exact q
 refine a9 (eC (iQ slot_list_sort ⟨_,hoL,rfl⟩ entry_list_sort ?body (args_list_sort _)))
 case body=>
  by_cases hlen:acc.toList.length<2
  ·refine KH (s:={s with heap:=h1.push (eP "list" acc.toList.toArray 0),toks:=tk1}) hoL hlen fun c h2 hg hk=> ⟨_,rfl,b9 ⟨_,rfl,fin acc.toList c h2 (.refl _) ?_ hg hk⟩⟩
   generalize acc.toList=l at hlen
   match l,hlen with
   | [],_=>exact .nil
   | [x],_=>exact gm _ _
  ·refine SrtG.Lq (s:={s with heap:=h1.push (eP "list" acc.toList.toArray 0),toks:=tk1}) hoL (fun v hv=>?_) (by omega) (by omega) fun out c h2 pm pw hg hk=> ⟨_,rfl,b9 ⟨_,rfl,fin out c h2 pm pw hg hk⟩⟩
   obtain⟨⟨k,x⟩,hx,rfl⟩:=df.mp (hperm.mem_iff.mp hv)
   obtain⟨p,q,rfl,⟨x',o',t1,t2,n,e1,e2,e3,e4⟩,h0,h1'⟩:=tupAt k x hx
   exact⟨p,q,⟨x',o',t1,t2,n,e1,hkp _ _ e2,e3,e4⟩,h0,h1'⟩
end
end StT
namespace L2
open PySem PySem.Spec PyProof.Rows
section
variable{X:Cx}{pins:List (Addr×Obj)}{σ:St}{H:Hp}{s:Shared}{h':Heap}
theorem Inv.laidF{a:Addr}{o:HO}{t':Nat}(I:Inv X pins σ H s)(k:∀b u,s.heap.get? b=some u→h'.get? b=some u)(hp:s.heap.get? a=none)(new:ObjOk X.prog X.w (upd H a o) h' a o):
  Inv X pins σ (upd H a o) {s with heap:=h',toks:=t'}:=by
 have hn:H a=none:=by
  cases q:H a with
  |none=>rfl
  |some u=>
   obtain⟨ob,e⟩:=(I.hok a u q).obj
   rw[hp] at e;cases e
 have ne:∀b u,s.heap.get? b=some u→b≠a:=fun b u e z=>by rw[z,hp] at e;cases e
 refine I.un ⟨fun b u q _ _ _=>k b u q,fun b u q _ _ _=> ⟨u.slots,k b u q⟩,fun b u q n _=>by rw[AH (ne b u q)];exact n,fun b u q _=> ⟨u,k b u q⟩,fun b xs q=>by rw[AH (AR q hn)];exact q,fun b u xs q=>by rw[AH (AR q hn)];exact q,fun b ps q=> ⟨#[],by rw[AH (AR q hn),q];simp⟩⟩ ?_
 intro b u e
 by_cases hb:b=a
 ·subst hb;rw[AI] at e;cases e;exact new
 ·rw[AH hb] at e
  exact(I.hok b u e).stay (fun c v _ q=>k c v q) (fun c q=>by rw[AH (AR q hn)];exact q) fun c xs q=>by rw[AH (AR q hn)];exact q
def YO(P:Program)(w:World)(a:Addr)(xs:List (List Int×Addr))(h:Heap):Prop:=∃o es ep t,h.get? a=some o∧o.ExactSet∧o.data=.set es ep t∧es.toList=StT.OC xs P w∧(xs.map (·.1)).Nodup∧StT.Tb t (xs.map fun p=> (StT.tk P w).hash p.1)∧t.plain=true∧xs.length*5<t.mask*3∧t.led=!w.params.followText "set-order"
def SetO(P:Program)(w:World)(a:Addr)(xs:List (List Int×Addr)):HO:=.ext (YO P w a xs)
theorem Sj{P:Program}{w:World}{H:Hp}{h:Heap}{a:Addr}{xs:List (List Int×Addr)}(S:StT.SetX P w h a xs):ObjOk P w H h a (SetO P w a xs):=by
 obtain⟨o,es,ep,t,S⟩:=S
 refine⟨⟨o,es,ep,t,S.get,S.ex,S.dat,S.es,S.nd,S.tb,S.pl,S.room,S.led⟩,⟨o,S.get⟩,fun h1 h2 ⟨o,es,ep,t,g,r⟩ hk=> ⟨o,es,ep,t,hk _ g,r⟩⟩
def Pv(K:a8)(H:Hp)(xs:List (List Int×Addr)):Prop:=∀k x,(k,x)∈xs→HU K H x (k.map V.int)
theorem ID{prog:Program}{w:World}:∀{k:List Int} {us:List Value},Vals (k.map V.int) us→ItemsAre (intKind prog w) k us
 | [],us,r=>by rw[kM] at r;cases r;exact .nil
 |n::k,us,r=>by
  rw[dv] at r
  cases r with
  |cons r1 r2=>
   obtain⟨t,rfl⟩:=r1
   exact .cons (intKind_is _ _ _ _) (ID r2)
theorem Inv.ik{x:Addr}{k:List Int}(I:Inv X pins σ H s)(h:HU X.K H x (k.map V.int)):StT.IK X.prog X.w s.heap k x:=by
 obtain⟨its,r,⟨o,ho,hc,n,hd⟩,hz⟩:=I.tuple h
 exact⟨o,its.toArray,n,ho,hc,hd,by simpa using ID r⟩
def aZ(X:Cx):List V→Hp→VK→Prop:=fun vs H Q=>∃a ps,vs=[.ref a]∧SqL X.K H a (ps.map fun p=>V.ref p.2)∧Pv X.K H ps∧ps.length≤300∧
 ∀p xs,H p=none→StT.Ir ps xs→(xs.map (·.1)).Nodup→Q (.ref p) (upd H p (SetO X.prog X.w p xs))
theorem IE:∀{ps:List (List Int×Addr)} {us:List Value},Vals (ps.map fun p=>V.ref p.2) us→us=ps.map fun p=>Value.ref p.2
 | [],us,r=>by rw[kM] at r;cases r;rfl
 |p::ps,us,r=>by
  rw[dv] at r
  cases r with
  |cons r1 r2=>
   rw[IE r2]
   have r1:_=Value.ref p.2:=r1
   rw[r1]
   rfl
theorem OK(hc:X.calm=true)(hu:X.A.units+8<cLine):BA X (.type "set") (aZ X):=by
 intro pins s σ H vs us Q I r h
 obtain⟨a,ps,rfl,hl,hk,hz,q⟩:=h
 obtain⟨u,rfl,ru⟩:=Vals.one r
 cases ru
 obtain⟨its,rv,p,_⟩:=I.list hl
 refine StT.Gi (ps:=ps) (I.ok.hd hc) p.isList (by simpa using IE rv) (fun k x hx=>I.ik (hk k x hx)) hz hu fun h' tk xs sx so kp=>?_
 have hf:H s.heap.objs.size=none:=I.hok.fresh (cW _)
 have nd:(xs.map (·.1)).Nodup:=by obtain⟨_,_,_,_,S⟩:=sx;exact S.nd
 exact⟨.ref s.heap.objs.size,upd H s.heap.objs.size (SetO X.prog X.w s.heap.objs.size xs),I.laid (t':=tk) (fun b u e=>kp b u (dc e) e) (cW _) (Sj sx),rfl,q _ _ hf so nd⟩
def Vv(X:Cx):List V→Hp→VK→Prop:=fun vs H Q=>∃p xs,vs=[.ref p]∧H p=some (SetO X.prog X.w p xs)∧Pv X.K H xs∧xs.length≤300∧(∀k x,(k,x)∈xs→∃i j,k=[i,j]∧0≤j∧j<65536)∧
 ∀(q:Addr) (ys:List (List Int×Addr)),H q=none→ys.Perm xs→ys.Pairwise (fun x y=>65536*x.1.getD 0 0+x.1.getD 1 0≤65536*y.1.getD 0 0+y.1.getD 1 0)→Q (.ref q) (upd H q (.lst (ys.map fun p=>V.ref p.2)))
theorem IF:∀(ps:List (List Int×Addr)),Vals (ps.map fun p=>V.ref p.2) (ps.map fun p=>Value.ref p.2)
 | []=> .nil
 |p::ps=> .cons rfl (IF ps)
theorem Iw(hc:X.calm=true):BA X (.builtin "sorted") (Vv X):=by
 intro pins s σ H vs us Q I r h
 obtain⟨p,xs,rfl,hp,hk,hz,h2,q⟩:=h
 obtain⟨u,rfl,ru⟩:=Vals.one r
 cases ru
 obtain⟨⟨o,es,ep,t,g1,g2,g3,g4,g5,g6,g7,g8,g9⟩,_,_⟩:=I.hok p _ hp
 refine StT.Ls (xs:=xs) (I.ok.hd hc) ⟨o,es,ep,t,g1,g2,g3,g4,fun i k x e=>I.ik (hk k x (cU e)),g5,g6,g7,g8,g9⟩ hz h2 fun h' tk ys D c hD hg kp pm pw=>?_
 have hf:H D=none:=I.hok.none_of hD
 refine⟨.ref D,upd H D (.lst (ys.map fun p=>V.ref p.2)),I.laidF (t':=tk) kp hD ⟨?_,_,c,IF ys,hg⟩,rfl,q D ys hf pm pw⟩
 rw[b8,pm.length_eq,eT]
 omega
end
end L2
namespace ZpT
open PySem PySem.Spec PyProof.Rows
section
variable{prog:Program}{w:World}
end
section
variable{prog:Program}{w:World}{A:de}{E:Value→Shared→Prop}{s:Shared}
variable{z TI TO i1 i2 l1 l2:Addr}{xs ys:Array Value}{S1 S2:Nat→Heap→Prop}
end
end ZpT
namespace L2
open PySem PySem.Spec PyProof.Rows
section
variable{X:Cx}
end
open PySem.Calls
section
variable{X:Cx}
def YQ(K:a8)(H:Hp)(a:Addr)(xs:List V):Prop:=SqL K H a xs∨HU K H a xs
theorem Inv.walk{pins:List (Addr×Obj)}{σ:St}{H:Hp}{s:Shared}{a:Addr}{xs:List V}(I:Inv X pins σ H s)(hq:YQ X.K H a xs):∃its:List Value,Vals xs its∧a<s.heap.objs.size∧∀(A:de) (E:Value→Shared→Prop) (Q:Value→Shared→Prop),A.handled=none→
  (∀(o:Obj) (St:Nat→Heap→Prop),Walks X.prog X.w A s.heap.objs.size [s.heap.objs.size,a] [s.heap.objs.size] its.length (fun i v=>its[i]?=some v) St→St 0 (s.heap.push o)→Q (.ref s.heap.objs.size) {s with heap:=s.heap.push o})→wpAny (model X.prog X.w) A (ng (.ref a)) Q E s:=by
 rcases hq with hq|hq
 ·obtain⟨its,rv,p,_⟩:=I.list hq
  have lt:a<s.heap.objs.size:=by obtain⟨_,_,e,_⟩:=p;exact dc e
  refine⟨its,rv,lt,fun A E Q hh h=>lz p.isList ?_⟩
  have W:=Walks.list (prog:=X.prog) (w:=X.w) (A:=A) hh s.heap.objs.size a (dF lt) its.toArray
  have W':Walks X.prog X.w A s.heap.objs.size [s.heap.objs.size,a] [s.heap.objs.size] its.length (fun i v=>its[i]?=some v) (fun i h=>h.IsListIter s.heap.objs.size a i∧h.IsList a its.toArray):=by simpa using W
  exact h _ _ W' ⟨⟨_,dy _ rfl,rfl,rfl⟩,p.isList.push _⟩
 ·obtain⟨its,rv,p,_⟩:=I.tuple hq
  have lt:a<s.heap.objs.size:=by obtain⟨_,e,_⟩:=p;exact dc e
  refine⟨its,rv,lt,fun A E Q hh h=>wpAny_pyIter_tuple (items:=its.toArray) p ?_⟩
  have W:=Walks.tuple (prog:=X.prog) (w:=X.w) (A:=A) hh s.heap.objs.size a (dF lt) its.toArray
  have W':Walks X.prog X.w A s.heap.objs.size [s.heap.objs.size,a] [s.heap.objs.size] its.length (fun i v=>its[i]?=some v) (fun i h=>h.IsTupleIter s.heap.objs.size a i∧h.IsTuple a its.toArray):=by simpa using W
  have p':s.heap.IsTuple a its.toArray:=p
  exact h _ _ W' ⟨⟨_,dy _ rfl,rfl,rfl⟩,p'.at fun o e=>cj _ e⟩
theorem Iy{s:Shared}{o:Obj}{h':Heap}(hk:∀b x,b∉[s.heap.objs.size]→(s.heap.push o).get? b=some x→h'.get? b=some x):∀b x,s.heap.get? b=some x→h'.get? b=some x:=fun b x e=>
 hk b x (by simpa using dF (dc e)) (cj _ e)
theorem Cg{ns:List Int}{us:List Value}(r:Vals (ns.map V.int) us)(i:Nat)(v:Value)(h:us[i]?=some v):∃t,v=.int (ns.getD i 0) t:=by
 have hl:=r.length
 have hi:i<ns.length:=by
  have:=(cw.mp h).1
  rw[b8] at hl;omega
 obtain⟨u,e,t,rfl⟩:=r.get (i:=i) (x:=.int ns[i]) (by simp[hi])
 rw[h] at e;cases e
 exact⟨t,by simp[jx,hi]⟩
def Pw(ns:List Int)(m:Int):Prop:=m∈ns∧∀n∈ns,m≤n
def YR(ns:List Int)(m:Int):Prop:=m∈ns∧∀n∈ns,n≤m
theorem Gj{ns:List Int}{i:Nat}(h:i<ns.length):ns.getD i 0∈ns:=by simp[jx,h]
theorem OL(hc:X.calm=true):BA X (.builtin "min") (fun vs H Q=>∃(a:Addr) (ns:List Int),vs=[.ref a]∧YQ X.K H a (ns.map V.int)∧0<ns.length∧∀m,Pw ns m→Q (.int m) H):=by
 intro pins s σ H vs us Q I r h
 obtain⟨a,ns,rfl,hq,h0,q⟩:=h
 obtain⟨u,rfl,ru⟩:=Di r
 cases ru
 obtain⟨its,rv,lt,wk⟩:=I.walk hq
 have hl:its.length=ns.length:=by have:=rv.length;rw[b8] at this;exact this.symm
 refine call_min_walk (wk X.A.in1 _ _ (I.ok.hd hc) fun o St W st=> ⟨_,_,_,_,_,_,_,rfl,W,st,fun b hb=>?_,by omega,CmpOf.ints_lt (fun i=>ns.getD i 0) (fun i v hv=>Cg rv i v hv),fun v h' tk hP hk=>?_⟩)
 ·show b< (s.heap.push o).objs.size
  rw[fH]
  simp only[da,gq,or_false] at hb
  rcases hb with rfl|rfl
  ·exact iU _
  ·exact gY lt
 ·obtain⟨t,rfl⟩:=Cg rv _ v hP
  obtain⟨b1,b2⟩:=argBest_lt (fun i=>ns.getD i 0) (its.length-1)
  exact⟨.int _,H,I.kept (t':=tk) (Iy hk),⟨t,rfl⟩,q _ ⟨Gj (by omega),fun n hn=>by
   obtain⟨j,hj,rfl⟩:=ie hn
   have:=b2 j (by omega)
   simpa[jx,hj] using this⟩⟩
theorem OM(hc:X.calm=true):BA X (.builtin "max") (fun vs H Q=>∃(a:Addr) (ns:List Int),vs=[.ref a]∧YQ X.K H a (ns.map V.int)∧0<ns.length∧∀m,YR ns m→Q (.int m) H):=by
 intro pins s σ H vs us Q I r h
 obtain⟨a,ns,rfl,hq,h0,q⟩:=h
 obtain⟨u,rfl,ru⟩:=Di r
 cases ru
 obtain⟨its,rv,lt,wk⟩:=I.walk hq
 have hl:its.length=ns.length:=by have:=rv.length;rw[b8] at this;exact this.symm
 refine call_max_walk (wk X.A.in1 _ _ (I.ok.hd hc) fun o St W st=> ⟨_,_,_,_,_,_,_,rfl,W,st,fun b hb=>?_,by omega,CmpOf.ints_gt (fun i=>ns.getD i 0) (fun i v hv=>Cg rv i v hv),fun v h' tk hP hk=>?_⟩)
 ·show b< (s.heap.push o).objs.size
  rw[fH]
  simp only[da,gq,or_false] at hb
  rcases hb with rfl|rfl
  ·exact iU _
  ·exact gY lt
 ·obtain⟨t,rfl⟩:=Cg rv _ v hP
  obtain⟨b1,b2⟩:=argBest_gt (fun i=>ns.getD i 0) (its.length-1)
  exact⟨.int _,H,I.kept (t':=tk) (Iy hk),⟨t,rfl⟩,q _ ⟨Gj (by omega),fun n hn=>by
   obtain⟨j,hj,rfl⟩:=ie hn
   have:=b2 j (by omega)
   simpa[jx,hj] using this⟩⟩
theorem FY:BA X (.type "tuple") (fun vs H Q=>∃a xs,vs=[.ref a]∧SqL X.K H a xs∧∀p,H p=none→Q (.ref p) (upd H p (.tup xs))):=by
 intro pins s σ H vs us Q I r h
 obtain⟨a,xs,rfl,hq,q⟩:=h
 obtain⟨u,rfl,ru⟩:=Di r
 cases ru
 obtain⟨its,rv,p,hz⟩:=I.list hq
 have hl:=rv.length
 refine call_tuple_list p.isList (fun h' hk=>?_) (by simpa[←hl] using hz)
 have hn:s.heap.get? h'.objs.size=none:=by
  cases e:s.heap.get? h'.objs.size with
  |none=>rfl
  |some o=>exact absurd (dc (hk _ _ e)) (fb _)
 exact⟨.ref h'.objs.size,upd H h'.objs.size (.tup xs),I.laidF (t':=s.toks) (fun b u e=>cj _ (hk b u e)) hn ⟨hz,its,rv,⟨_,dy _ rfl,rfl,_,rfl⟩⟩,rfl,q _ (I.hok.none_of hn)⟩
theorem Gk:BA X (.type "list") (fun vs H Q=>∃a xs,vs=[.ref a]∧YQ X.K H a xs∧∀p,H p=none→Q (.ref p) (upd H p (.lst xs))):=by
 intro pins s σ H vs us Q I r h
 obtain⟨a,xs,rfl,hq,q⟩:=h
 obtain⟨u,rfl,ru⟩:=Di r
 cases ru
 have hf:H s.heap.objs.size=none:=I.hok.fresh (cW _)
 have fin:∀(its:List Value) (h':Heap) (c:Nat),Vals xs its→xs.length≤sizeLine→(∀b o',s.heap.get? b=some o'→h'.get? b=some o')→h'.get? s.heap.objs.size=some {cls:=.type "list",dict:=none,data:=.seq its.toArray c,slots:=#[]}→EP X pins σ Q (.ref s.heap.objs.size) {s with heap:=h'}:=fun its h' c rv hz hk hD=>
  ⟨.ref s.heap.objs.size,upd H s.heap.objs.size (.lst xs),I.laid (t':=s.toks) hk (cW _) ⟨hz,its,c,rv,hD⟩,rfl,q _ hf⟩
 rcases hq with hq|hq
 ·obtain⟨its,rv,⟨o,n,ho,hc,hd,hdt⟩,hz⟩:=I.list hq
  have hl:=rv.length
  exact call_list_seq (hsz:=by simpa[←hl] using hz) a (.inl rfl) ho hc hdt fun h' c' hk hD=>fin its h' c' rv hz hk hD
 ·obtain⟨its,rv,⟨o,ho,hc,n,hdt⟩,hz⟩:=I.tuple hq
  have hl:=rv.length
  exact call_list_seq (hsz:=by simpa[←hl] using hz) a (.inr rfl) ho hc hdt fun h' c' hk hD=>fin its h' c' rv hz hk hD
theorem KI:BA X (.type "range") (fun vs H Q=>∃k:Int,vs=[.int k]∧∀p,H p=none→Q (.ref p) (upd H p (.rng 0 k))):=by
 intro pins s σ H vs us Q I r h
 obtain⟨k,rfl,q⟩:=h
 obtain⟨u,rfl,t,rfl⟩:=Di r
 have hf:H s.heap.objs.size=none:=I.hok.fresh (cW _)
 exact call_range_1 ⟨.ref s.heap.objs.size,upd H s.heap.objs.size (.rng 0 k),I.laid (fun b u e=>cj _ e) (cW _) ⟨_,_,_,dy _ rfl⟩,rfl,q _ hf⟩
theorem Lu(hc:X.calm=true):BA X (.type "list") (fun vs H Q=>∃(a:Addr) (k:Int),vs=[.ref a]∧H a=some (.rng 0 k)∧0≤k∧k≤1000∧∀p,H p=none→Q (.ref p) (upd H p (.lst ((dN k.toNat).map fun(i:Nat)=>V.int i)))):=by
 intro pins s σ H vs us Q I r h
 obtain⟨a,k,rfl,ha,k0,k1,q⟩:=h
 obtain⟨u,rfl,ru⟩:=Di r
 cases ru
 obtain⟨t,u,v,hr⟩:=I.hok a _ ha
 have hf:H s.heap.objs.size=none:=I.hok.fresh (cW _)
 have hn:Builtin.Range.rangeSize 0 k 1=k.toNat:=by rw[rangeSize_one];split<;>omega
 refine call_list_range (I.ok.hd hc) hr (small_one (by omega) (by omega) (by omega) (by omega)) hn (by omega) fun h' tk acc c hk hD hacc=>?_
 refine⟨.ref s.heap.objs.size,_,I.laid (o:=.lst ((dN k.toNat).map fun(i:Nat)=>V.int i)) (t':=tk) hk (cW _) ⟨?_,acc.toList,c,?_,by rw[Array.toArray_toList];exact hD⟩,rfl,q _ hf⟩
 ·rw[b8,iI,eT];omega
 ·have all:∀(l:List Value) (n m:Nat),l.length=n→(∀i v,l[i]?=some v→∃t,v=jM ((m+i:Nat):Int) t)→Vals ((List.range' m n).map fun(i:Nat)=>V.int i) l:=by
   intro l
   induction l with
   |nil=>intro n m e _;subst e;exact .nil
   |cons x l ih=>
    intro n m e hv
    subst e
    rw[c9,List.range'_succ,dv]
    refine .cons ?_ (ih l.length (m+1) rfl fun i v e=>?_)
    ·obtain⟨t,e⟩:=hv 0 x rfl
     exact⟨t,by rw[e];simp⟩
    ·obtain⟨t,e'⟩:=hv (i+1) v (by simpa using e)
     exact⟨t,by rw[e'];congr 1;omega⟩
  rw[List.range_eq_range']
  refine all acc.toList _ 0 (by rw[cZ];exact hacc.1) fun i v e=>?_
  obtain⟨t,e'⟩:=hacc.2 i v (by rw[←dG];exact e)
  exact⟨t,by rw[e'];congr 1;omega⟩
theorem Px(hu:X.A.units<cLine):DL X (gh .NotEq) (fun x y H Q=>∃a b xs,x=.ref a∧y=.ref b∧SqL X.K H a xs∧SqL X.K H b []∧Q (.bl (!xs.isEmpty)) H):=by
 intro pins s σ H x y v u Q I rx ry h
 obtain⟨a,b,xs,rfl,rfl,ha,hb,q⟩:=h
 cases rx;cases ry
 obtain⟨its,r1,p1,_⟩:=I.list ha
 obtain⟨its2,r2,p2,_⟩:=I.list hb
 cases r2
 cases xs with
 |nil=>
  cases r1
  exact SeqAt.RcNeAt.lists (e:=fun _=>true) p1.isList p2.isList rfl hu (fun j h1 _=>by simp at h1) _ _ _ _ ⟨.bl _,H,I,rfl,q⟩
 |cons x xs=>
  have hl:=r1.length
  exact SeqAt.RcNeAt.lists_lengths p1.isList p2.isList (by simp;intro e;rw[e] at hl;simp at hl) hu _ _ _ _ ⟨.bl _,H,I,rfl,q⟩
end
end L2
namespace HT
open PySem PySem.Spec PyProof.Rows
section
open PySem.SeqAt
open PySem.AutoSeq1 (wpAny_loadPart')
open PySem.MeetsSeq PySem.MeetsSeq2 PySem.MeetsSeq3
end
section
variable{prog:Program}{w:World}{A:de}{E:Value→Shared→Prop}{s:Shared}
theorem KJ(l b:Addr)(items items2:Array Value)(n n2:Nat)(dd dd2:Option Addr)(sl sl2:Array (Option Value))(hc0:items.isEmpty=true):
  Meets (Builtin.«tuple.__add__» ⟨[.ref l,.ref b],[]⟩) (fun _ R s=>s.heap.get? l=some ⟨.type "tuple",dd,.seq items n,sl⟩∧s.heap.get? b=some ⟨.type "tuple",dd2,.seq items2 n2,sl2⟩∧R (.ok (.ret (Value.ref b))) s):=
 .of_wp fun prog w A R s h=>by
  obtain⟨hp,g,d,tk,os⟩:=s
  obtain⟨hl,hb,h⟩:=h
  have f2:=AutoSeq1.sub_tuple_tuple
  wp_walk using AutoSeq1.wpAny_loadPart' hl,AutoSeq1.wpAny_loadPart' hb
  exact⟨_,rfl,h⟩
theorem Py{t b:Addr}{ws:List Value}{Q:Value→Shared→Prop}(ht:IsTup s.heap t #[])(hb:IsTup s.heap b ws.toArray)(h1:Q (.ref b) s):wpAny (model prog w) A (iE .Add (.ref t) (.ref b)) Q E s:=by
 obtain⟨⟨cls,dd,data,sl⟩,ho,hc,n,hd⟩:=id ht
 obtain⟨⟨cls2,dd2,data2,sl2⟩,ho2,hc2,n2,hd2⟩:=id hb
 simp only at hc hd hc2 hd2
 subst hc hd hc2 hd2
 exact ny ⟨_,ho,rfl⟩ ⟨_,ho2,rfl⟩ lP mT jS jN (jB _ _) (KJ t b _ ws.toArray n n2 dd dd2 sl sl2 rfl) ⟨ho,ho2,h1⟩
end
end HT
namespace L2
open PySem PySem.Spec PyProof.Rows
section
variable{X:Cx}{e:Expr}{te:TE}{pos p2 p3 p4:Pos}
def YS(K:a8):R2:=fun x y H Q=>∃a b xs ys,x=.ref a∧y=.ref b∧HU K H a xs∧HU K H b ys∧xs.length+ys.length≤sizeLine∧∀p H',((p=a∧H'=H∧ys=[])∨(p=b∧H'=H∧xs=[])∨(H p=none∧H'=upd H p (.tup (xs++ys))))→Q (.ref p) H'
theorem Sk:DL X (iE .Add) (YS X.K):=by
 intro pins s σ H x y v u Q I rx ry h
 obtain⟨a,b,xs,ys,rfl,rfl,ha,hb,hz,q⟩:=h
 cases xs with
 |cons x xs=>exact SL pins s σ H _ _ v u Q I rx ry ⟨a,b,x::xs,ys,rfl,rfl,ha,hb,by simp,hz,fun e=>q a H (.inl ⟨rfl,rfl,e⟩),fun _ p hp=>q p _ (.inr (.inr ⟨hp,rfl⟩))⟩
 |nil=>
  cases rx;cases ry
  obtain⟨its,r1,p1,_⟩:=I.tuple ha
  obtain⟨its2,r2,p2,_⟩:=I.tuple hb
  cases r1
  exact HT.Py p1 p2 ⟨.ref b,H,I,rfl,q b H (.inr (.inl ⟨rfl,rfl,rfl⟩))⟩
end
end L2
namespace L2.TL
open PySem PySem.Spec PyProof.Rows
inductive T where
 |non|bl (b:Bool)|int (i:Int)|str (x:Str)|tup (ts:List T)|lst (ts:List T)|frz (ts:List T)|dct|raw (v:V)
abbrev AG:=Addr→Option (List T)
def Aa(O:AG)(a:Addr)(ts:List T):AG:=fun b=>if b=a then some ts else O b
def CF(O:AG)(a:Addr):AG:=fun b=>if b=a then none else O b
theorem AD{O:AG}{a:Addr}{ts:List T}:Aa O a ts a=some ts:=by unfold Aa;rw[if_pos rfl]
theorem AO{O:AG}{a b:Addr}{ts:List T}(h:b≠a):Aa O a ts b=O b:=by unfold Aa;rw[if_neg h]
theorem BC{O:AG}{a:Addr}{ts us:List T}:Aa (Aa O a ts) a us=Aa O a us:=by
 funext b;unfold Aa;split<;>rfl
theorem Cv{O:AG}{a:Addr}:CF O a a=none:=by unfold CF;rw[if_pos rfl]
theorem DQ{O:AG}{a b:Addr}(h:b≠a):CF O a b=O b:=by unfold CF;rw[if_neg h]
mutual
inductive Rep (K:a8) (O:AG) (H:Hp):V→T→Prop
 |non:Rep K O H .non .non
 |bl (b:Bool):Rep K O H (.bl b) (.bl b)
 |int (i:Int):Rep K O H (.int i) (.int i)
 |str (x:Str):Rep K O H (.str x) (.str x)
 |tup {a:Addr} {xs:List V} {ts:List T}:H a=some (.tup xs)→Reps K O H xs ts→Rep K O H (.ref a) (.tup ts)
 |lst {a:Addr} {xs:List V} {ts:List T}:H a=some (.lst xs)→O a=none→Reps K O H xs ts→Rep K O H (.ref a) (.lst ts)
 |frz {a:Addr} {o:Obj} {xs:List V} {ts:List T}:H a=some (.frz o (.lst xs))→Reps K O H xs ts→Rep K O H (.ref a) (.frz ts)
 |dct {a:Addr}:H a=some (.dK [])→Rep K O H (.ref a) .dct
 |raw (v:V):Rep K O H v (.raw v)
inductive Reps (K:a8) (O:AG) (H:Hp):List V→List T→Prop
 |nil:Reps K O H [] []
 |cons {v:V} {t:T} {vs:List V} {ts:List T}:Rep K O H v t→Reps K O H vs ts→Reps K O H (v::vs) (t::ts)
end
section
variable{K:a8}{O O' O1:AG}{H H' H1:Hp}
mutual
theorem Rep.mono (hT:∀a o,H a=some o→(∀xs,o≠.lst xs)→H' a=some o) (hL:∀a xs,H a=some (.lst xs)→O a=none→H' a=some (.lst xs)∧O' a=none):∀{v:V} {t:T},Rep K O H v t→Rep K O' H' v t
 |_,_,.non=> .non
 |_,_,.bl b=> .bl b
 |_,_,.int i=> .int i
 |_,_,.str x=> .str x
 |_,_,.tup h r=> .tup (hT _ _ h fun _ z=>by cases z) (Reps.mono hT hL r)
 |_,_,.lst h o r=> .lst (hL _ _ h o).1 (hL _ _ h o).2 (Reps.mono hT hL r)
 |_,_,.frz h r=> .frz (hT _ _ h fun _ z=>by cases z) (Reps.mono hT hL r)
 |_,_,.dct h=> .dct (hT _ _ h fun _ z=>by cases z)
 |_,_,.raw v=> .raw v
theorem Reps.mono (hT:∀a o,H a=some o→(∀xs,o≠.lst xs)→H' a=some o) (hL:∀a xs,H a=some (.lst xs)→O a=none→H' a=some (.lst xs)∧O' a=none):∀{v:List V} {t:List T},Reps K O H v t→Reps K O' H' v t
 |_,_,.nil=> .nil
 |_,_,.cons h r=> .cons (Rep.mono hT hL h) (Reps.mono hT hL r)
end
theorem Reps.length:∀{vs:List V} {ts:List T},Reps K O H vs ts→vs.length=ts.length
 |_,_,.nil=>rfl
 |_,_,.cons _ r=>congrArg (· +1) r.length
theorem Reps.get:∀{vs:List V} {ts:List T} {i:Nat} {t:T},Reps K O H vs ts→ts[i]?=some t→∃v,vs[i]?=some v∧Rep K O H v t
 |_,_,_,_,.nil,e=>by simp at e
 |_,_,0,_,.cons h _,e=>by simp at e;subst e;exact⟨_,rfl,h⟩
 |_,_,i+1,t,.cons _ r,e=>by
  obtain⟨u,h1,h2⟩:=Reps.get (i:=i) (t:=t) r (by simpa using e)
  exact⟨u,by simpa using h1,h2⟩
theorem Reps.append:∀{vs ws:List V} {ts us:List T},Reps K O H vs ts→Reps K O H ws us→Reps K O H (vs++ws) (ts++us)
 |_,_,_,_,.nil,s=>s
 |_,_,_,_,.cons h r,s=> .cons h (r.append s)
theorem Reps.set{x:V}{t:T}(h:Rep K O H x t):∀{vs:List V} {ts:List T} (i:Nat),Reps K O H vs ts→Reps K O H (vs.set i x) (ts.set i t)
 |_,_,_,.nil=> .nil
 |_,_,0,.cons _ r=> .cons h r
 |_,_,i+1,.cons q r=> .cons q (Reps.set h i r)
theorem Reps.one{v:V}{t:T}(h:Rep K O H v t):Reps K O H [v] [t]:=.cons h .nil
theorem Reps.eraseIdx:∀{vs:List V} {ts:List T} (i:Nat),Reps K O H vs ts→Reps K O H (vs.eraseIdx i) (ts.eraseIdx i)
 |_,_,_,.nil=> .nil
 |_,_,0,.cons _ r=>r
 |_,_,i+1,.cons q r=> .cons q (Reps.eraseIdx i r)
def Kp(O:AG)(H:Hp)(O':AG)(H':Hp):Prop:=∀b o,H b=some o→O b=none→H' b=some o∧O' b=none
def OwnOk(K:a8)(O:AG)(H:Hp):Prop:=∀a ts,O a=some ts→∃xs,H a=some (.lst xs)∧Reps K O H xs ts
theorem OwnOk.free(w:OwnOk K O H){a:Addr}{o:HO}(h:H a=some o)(hn:∀xs,o≠.lst xs):O a=none:=by
 cases e:O a with
 |none=>rfl
 |some ts=>
  obtain⟨xs,e',_⟩:=w a ts e
  rw[h] at e'
  exact absurd (dQ.inj e') (hn xs)
theorem OwnOk.none_of(w:OwnOk K O H){a:Addr}(h:H a=none):O a=none:=by
 cases e:O a with
 |none=>rfl
 |some ts=>
  obtain⟨xs,e',_⟩:=w a ts e
  rw[h] at e';cases e'
theorem Kp.refl:Kp O H O H:=fun _ _ h n=> ⟨h,n⟩
theorem Kp.trans(a:Kp O H O1 H1)(b:Kp O1 H1 O' H'):Kp O H O' H':=fun c o h n=>b c o (a c o h n).1 (a c o h n).2
theorem Kp.oth(k:Kp O H O' H')(w:OwnOk K O H){a:Addr}{o:HO}(h:H a=some o)(hn:∀xs,o≠.lst xs):H' a=some o:=(k a _ h (w.free h hn)).1
theorem Kp.lst(k:Kp O H O' H'){a:Addr}{xs:List V}(h:H a=some (.lst xs))(n:O a=none):H' a=some (.lst xs)∧O' a=none:=k a _ h n
theorem Rep.kp(k:Kp O H O' H')(w:OwnOk K O H){v:V}{t:T}(r:Rep K O H v t):Rep K O' H' v t:=r.mono (fun _ _ h hn=>k.oth w h hn) fun _ _=>k.lst
theorem Reps.kp(k:Kp O H O' H')(w:OwnOk K O H){v:List V}{t:List T}(r:Reps K O H v t):Reps K O' H' v t:=r.mono (fun _ _ h hn=>k.oth w h hn) fun _ _=>k.lst
structure Frm(K:a8)(O:AG)(H:Hp)(O':AG)(H':Hp):Prop where
 kp:Kp O H O' H'
 own:∀b ts,O b=some ts→∃ts',O' b=some ts'
 ok:OwnOk K O' H'
theorem Frm.refl(w:OwnOk K O H):Frm K O H O H:=⟨.refl,fun _ ts e=> ⟨ts,e⟩,w⟩
theorem Frm.trans(a:Frm K O H O1 H1)(b:Frm K O1 H1 O' H'):Frm K O H O' H':=⟨a.kp.trans b.kp,fun c ts e=>by
 obtain⟨t1,e1⟩:=a.own c ts e
 exact b.own c t1 e1,b.ok⟩
theorem BW{p:Addr}{o:HO}(w:OwnOk K O H)(hp:H p=none):Kp O H O (upd H p o):=fun b u h n=> ⟨by rw[AH (AR h hp)];exact h,n⟩
theorem Frm.new{p:Addr}{o:HO}(w:OwnOk K O H)(hp:H p=none):Frm K O H O (upd H p o) where
 kp:=BW w hp
 own:=fun _ ts e=> ⟨ts,e⟩
 ok:=fun a ts e=>by
  obtain⟨xs,h,r⟩:=w a ts e
  exact⟨xs,by rw[AH (AR h hp)];exact h,r.kp (BW w hp) w⟩
theorem Iz{p:Addr}{o:HO}{ts:List T}(w:OwnOk K O H)(hp:H p=none):Kp O H (Aa O p ts) (upd H p o):=fun b u h n=>by
 have:=AR h hp
 rw[AH this,AO this]
 exact⟨h,n⟩
theorem Frm.newO{p:Addr}{xs:List V}{ts:List T}(w:OwnOk K O H)(hp:H p=none)(r:Reps K O H xs ts):Frm K O H (Aa O p ts) (upd H p (.lst xs)) where
 kp:=Iz w hp
 own:=fun b us e=>by
  by_cases hb:b=p
  ·exact⟨ts,by rw[hb,AD]⟩
  ·exact⟨us,by rw[AO hb];exact e⟩
 ok:=fun a us e=>by
  by_cases hb:a=p
  ·subst hb
   rw[AD] at e;cases e
   exact⟨xs,AI,r.kp (Iz w hp) w⟩
  ·rw[AO hb] at e
   obtain⟨ys,h,q⟩:=w a us e
   exact⟨ys,by rw[AH hb];exact h,q.kp (Iz w hp) w⟩
theorem JA{a:Addr}{o:HO}{ts us:List T}(ha:O a=some ts):Kp O H (Aa O a us) (upd H a o):=fun b u h n=>by
 have:b≠a:=fun z=>by rw[z,ha] at n;cases n
 rw[AH this,AO this]
 exact⟨h,n⟩
theorem Frm.put{a:Addr}{xs:List V}{ts us:List T}(w:OwnOk K O H)(ha:O a=some ts)(r:Reps K O H xs us):Frm K O H (Aa O a us) (upd H a (.lst xs)) where
 kp:=JA ha
 own:=fun b vs e=>by
  by_cases hb:b=a
  ·exact⟨us,by rw[hb,AD]⟩
  ·exact⟨vs,by rw[AO hb];exact e⟩
 ok:=fun b vs e=>by
  by_cases hb:b=a
  ·subst hb
   rw[AD] at e;cases e
   exact⟨xs,AI,r.kp (JA ha) w⟩
  ·rw[AO hb] at e
   obtain⟨ys,h,q⟩:=w b vs e
   exact⟨ys,by rw[AH hb];exact h,q.kp (JA ha) w⟩
theorem CH{a:Addr}:Kp O H (CF O a) H:=fun b u h n=> ⟨h,by
 by_cases hb:b=a
 ·rw[hb,Cv]
 ·rw[DQ hb];exact n⟩
theorem OwnOk.drop{a:Addr}(w:OwnOk K O H):OwnOk K (CF O a) H:=fun b ts e=>by
 by_cases hb:b=a
 ·rw[hb,Cv] at e;cases e
 ·rw[DQ hb] at e
  obtain⟨xs,h,r⟩:=w b ts e
  exact⟨xs,h,r.kp CH w⟩
theorem OwnOk.rep{a:Addr}{ts:List T}(w:OwnOk K O H)(e:O a=some ts):Rep K (CF O a) H (.ref a) (.lst ts):=by
 obtain⟨xs,h,r⟩:=w a ts e
 exact .lst h Cv (r.kp CH w)
end
def Rl(K:a8)(O:AG)(H:Hp)(σ:St)(ρ:List (Option T)):Prop:=σ.length=ρ.length∧∀(i:Nat) (t:T),ρ[i]?=some (some t)→∃v,σ[i]?=some (some v)∧Rep K O H v t
section
variable{K:a8}{O O':AG}{H H':Hp}{σ:St}{ρ:List (Option T)}
theorem Rl.kp(k:Kp O H O' H')(w:OwnOk K O H)(r:Rl K O H σ ρ):Rl K O' H' σ ρ:=⟨r.1,fun i t e=>by
 obtain⟨v,h1,h2⟩:=r.2 i t e
 exact⟨v,h1,h2.kp k w⟩⟩
theorem Rl.set{i:Nat}{v:V}{t:T}(r:Rl K O H σ ρ)(h:Rep K O H v t):Rl K O H (σ.set i (some v)) (ρ.set i (some t)):=⟨by simpa using r.1,fun j u e=>by
 by_cases hj:j=i
 ·subst hj
  have hl:j<ρ.length:=by
   have:=(cw.mp e).1
   simpa using this
  rw[dr hl] at e
  cases e
  exact⟨v,by rw[dr (by rw[r.1];exact hl)],h⟩
 ·rw[dz (Ne.symm hj)] at e ⊢
  exact r.2 j u e⟩
end
structure Zx where
 X:Cx
 Oe:AG
 He:Hp
 Xi:Value→AG→Prop
abbrev Zx.K(Z:Zx):a8:=Z.X.K
def Zx.W(Z:Zx):St→XK:=fun _ cls d H'=>d=none∧∃O',Z.Xi cls O'∧Frm Z.K Z.Oe Z.He O' H'
structure Asr(Z:Zx)(ρ:List (Option T))(O:AG)(σ:St)(H:Hp):Prop where
 rl:Rl Z.K O H σ ρ
 fr:Frm Z.K Z.Oe Z.He O H
section
variable{Z:Zx}{ρ:List (Option T)}{O O':AG}{σ:St}{H H':Hp}
theorem Asr.ok(a:Asr Z ρ O σ H):OwnOk Z.K O H:=a.fr.ok
theorem Asr.step(a:Asr Z ρ O σ H)(f:Frm Z.K O H O' H'):Asr Z ρ O' σ H':=⟨a.rl.kp f.kp a.ok,a.fr.trans f⟩
theorem Asr.refl(a:Asr Z ρ O σ H):Frm Z.K O H O H:=.refl a.ok
end
abbrev BL:=T→AG→Prop
abbrev Lv:=List T→AG→Prop
abbrev JB:=Bool→AG→Prop
def Acc(K:a8)(O:AG)(H:Hp)(Φ:BL)(Q:VK):Prop:=∀v H' t O',Φ t O'→Frm K O H O' H'→Rep K O' H' v t→Q v H'
def aa(K:a8)(O:AG)(H:Hp)(Φ:Lv)(Q:List V→Hp→Prop):Prop:=∀vs H' ts O',Φ ts O'→Frm K O H O' H'→Reps K O' H' vs ts→Q vs H'
def AccT(K:a8)(O:AG)(H:Hp)(Φ:JB)(Q:Bool→Hp→Prop):Prop:=∀b H' O',Φ b O'→Frm K O H O' H'→Q b H'
def tW(Z:Zx)(ρ:List (Option T))(O:AG)(Φ:BL):TE:=fun σ H Q=>Asr Z ρ O σ H∧Acc Z.K O H Φ Q
def bJ(Z:Zx)(ρ:List (Option T))(O:AG)(Φ:Lv):TA:=fun σ H Q=>Asr Z ρ O σ H∧aa Z.K O H Φ Q
def XW(Z:Zx)(ρ:List (Option T))(O:AG)(Φ:JB):TT:=fun σ H Q=>Asr Z ρ O σ H∧AccT Z.K O H Φ Q
def WE(Z:Zx)(ρ:List (Option T))(O:AG)(e:Expr)(Φ:BL):Prop:=PE Z.X e (tW Z ρ O Φ)
def WA(Z:Zx)(ρ:List (Option T))(O:AG)(es:List Expr)(Φ:Lv):Prop:=PA Z.X es (bJ Z ρ O Φ)
def WT(Z:Zx)(ρ:List (Option T))(O:AG)(e:Expr)(Φ:JB):Prop:=PT Z.X e (XW Z ρ O Φ)
def WW(Z:Zx)(ρ:List (Option T))(O:AG)(e:Expr)(Φ:JB):Prop:=PW Z.X e (XW Z ρ O Φ)
def ET(Z:Zx)(ρ:List (Option T))(O:AG)(e:Expr)(t:T):Prop:=∀Φ:BL,Φ t O→WE Z ρ O e Φ
def EA(Z:Zx)(ρ:List (Option T))(O:AG)(es:List Expr)(ts:List T):Prop:=∀Φ:Lv,Φ ts O→WA Z ρ O es Φ
def EB(Z:Zx)(ρ:List (Option T))(O:AG)(e:Expr)(b:Bool):Prop:=∀Φ:JB,Φ b O→WT Z ρ O e Φ
theorem PE.weak{X:Cx}{e:Expr}{t t':TE}(h:PE X e t)(w:∀σ H Q,t' σ H Q→t σ H Q):PE X e t':=fun pins s σ H Q I q=>h pins s σ H Q I (w σ H Q q)
theorem PA.weak{X:Cx}{e:List Expr}{t t':TA}(h:PA X e t)(w:∀σ H Q,t' σ H Q→t σ H Q):PA X e t':=fun pos pins s σ H Q I q=>h pos pins s σ H Q I (w σ H Q q)
theorem PT.weak{X:Cx}{e:Expr}{t t':TT}(h:PT X e t)(w:∀σ H Q,t' σ H Q→t σ H Q):PT X e t':=fun pins s σ H Q I q=>h pins s σ H Q I (w σ H Q q)
theorem PW.weak{X:Cx}{e:Expr}{t t':TT}(h:PW X e t)(w:∀σ H Q,t' σ H Q→t σ H Q):PW X e t':=fun whole pins s σ H Q I q=>h whole pins s σ H Q I (w σ H Q q)
theorem PS.weak{X:Cx}{e:Stmt}{t t':TS}(h:PS X e t)(w:∀D σ H,t' D σ H→t D σ H):PS X e t':=fun pins s σ H D I q=>h pins s σ H D I (w D σ H q)
theorem PSs.weak{X:Cx}{e:List Stmt}{t t':TS}(h:PSs X e t)(w:∀D σ H,t' D σ H→t D σ H):PSs X e t':=fun pins s σ H D I q=>h pins s σ H D I (w D σ H q)
def tX(Z:Zx)(ρ:List (Option T))(e:Expr):TE:=fun σ H Q=>∃O Φ,WE Z ρ O e Φ∧tW Z ρ O Φ σ H Q
theorem Bv{Z:Zx}{ρ:List (Option T)}{e:Expr}:PE Z.X e (tX Z ρ e):=fun pins s σ H Q I ⟨_,_,w,q⟩=>w pins s σ H Q I q
def bo(Z:Zx)(ρ:List (Option T))(e:List Expr):TA:=fun σ H Q=>∃O Φ,WA Z ρ O e Φ∧bJ Z ρ O Φ σ H Q
theorem Gm{Z:Zx}{ρ:List (Option T)}{e:List Expr}:PA Z.X e (bo Z ρ e):=fun pos pins s σ H Q I ⟨_,_,w,q⟩=>w pos pins s σ H Q I q
def bp(Z:Zx)(ρ:List (Option T))(e:Expr):TT:=fun σ H Q=>∃O Φ,WW Z ρ O e Φ∧XW Z ρ O Φ σ H Q
theorem YT{Z:Zx}{ρ:List (Option T)}{e:Expr}:PW Z.X e (bp Z ρ e):=fun whole pins s σ H Q I ⟨_,_,w,q⟩=>w whole pins s σ H Q I q
section
variable{Z:Zx}{ρ:List (Option T)}{O:AG}{e a b:Expr}{es:List Expr}{Φ Φ':BL}{pos:Pos}{t ta tb:T}{ts:List T}
theorem Acc.mono{K:a8}{H:Hp}{Q:VK}(h:Acc K O H Φ' Q)(w:∀t O',Φ t O'→Φ' t O'):Acc K O H Φ Q:=fun v H' t O' p=>h v H' t O' (w t O' p)
theorem Acc.step{K:a8}{H H1:Hp}{O1:AG}{Q:VK}(h:Acc K O H Φ Q)(f:Frm K O H O1 H1):Acc K O1 H1 Φ Q:=fun v H' t O' p f' r=>h v H' t O' p (f.trans f') r
theorem AccT.step{K:a8}{H H1:Hp}{O1:AG}{Φ:JB}{Q:Bool→Hp→Prop}(h:AccT K O H Φ Q)(f:Frm K O H O1 H1):AccT K O1 H1 Φ Q:=fun v H' O' p f'=>h v H' O' p (f.trans f')
theorem DZ(h:WE Z ρ O e Φ)(w:∀t O',Φ t O'→Φ' t O'):WE Z ρ O e Φ':=PE.weak h fun _ _ _ q=> ⟨q.1,q.2.mono w⟩
theorem ET.we(h:ET Z ρ O e t)(p:Φ t O):WE Z ρ O e Φ:=h Φ p
theorem Vw{i:Nat}{x:Str}(hN:Z.X.N[i]?=some x)(hv:XS Z.X.env.scope x)(e:ρ[i]?=some (some t))(p:Φ t O)(hd:(x==("__debug__" :Str))=false:=by decide)(hcd:(x==("__classdict__" :Str))=false:=by decide):WE Z ρ O (.Name x pos) Φ:=
 PE.weak (Oq hN hv hd hcd) fun σ H Q q=>by
  obtain⟨v,h1,h2⟩:=q.1.rl.2 i t e
  exact⟨v,h1,q.2 v H t O p q.1.refl h2⟩
theorem ev(i:Nat){x:Str}(e:ρ[i]?=some (some t):=by rfl)(hN:Z.X.N[i]?=some x:=by rfl)(hv:XS Z.X.env.scope x:=by first|exact ku rfl|exact k8 (ku rfl)|exact k8 (k8 rfl))(hd:(x==("__debug__" :Str))=false:=by decide)
  (hcd:(x==("__classdict__" :Str))=false:=by decide):ET Z ρ O (.Name x pos) t:=fun _ p=>Vw hN hv e p hd hcd
theorem ON{v:V}(h:PE Z.X e (tC v))(r:∀O H,Rep Z.K O H v t):ET Z ρ O e t:=fun _ p=>PE.weak h fun _ H _ q=>q.2 v H _ O p q.1.refl (r O H)
theorem AB{i:Int}{j:Nat}:ET Z ρ O (.Constant (.int i) j pos) (.int i):=ON LN fun _ _=> .int i
theorem YU{i:Bool}{j:Nat}:ET Z ρ O (.Constant (.bool i) j pos) (.bl i):=ON Os fun _ _=> .bl i
theorem FB{j:Nat}:ET Z ρ O (.Constant .none j pos) .non:=ON VG fun _ _=> .non
theorem Lw{x:Str}{j:Nat}:ET Z ρ O (.Constant (.str x) j pos) (.str x):=ON CQ fun _ _=> .str x
theorem Mx{x:Str}{i:Int}(hm:∃t:Tok,Z.X.mg x=some (.int i t))(hg:Gl Z.X x:=by rfl)(hd:(x==("__debug__" :Str))=false:=by decide):ET Z ρ O (.Name x pos) (.int i):=by
 cases hm with
 |intro t hm=>exact ON (Bh (v:=.int i) hg hm ⟨t,rfl⟩ hd) fun _ _=> .int i
theorem YV{x:Str}{n:String}(hm:Z.X.mg x=none)(hv:dY x=some (.type n))(hg:Gl Z.X x:=by rfl)(hn:x≠"__name__":=by decide)(hd:(x==("__debug__" :Str))=false:=by decide):ET Z ρ O (.Name x pos) (.raw (.ty n)):=
 ON (Ma (v:=.ty n) hg hm hv rfl hn hd) fun _ _=> .raw _
def RT(K:a8)(r:R2)(ta tb:T)(O:AG)(Φ:BL):Prop:=∀H v w Q,OwnOk K O H→Rep K O H v ta→Rep K O H w tb→Acc K O H Φ Q→r v w H Q
def RP(K:a8)(r:R2)(ta tb:T)(O:AG)(t:T):Prop:=∀Φ:BL,Φ t O→RT K r ta tb O Φ
theorem JC{r:R2}{σ:St}{H:Hp}{Q:VK}(q:tW Z ρ O Φ σ H Q)(h:WE Z ρ O a fun ta O1=>WE Z ρ O1 b fun tb O2=>RT Z.K r ta tb O2 Φ):Xo r (tX Z ρ a) (tX Z ρ b) σ H Q:=
 ⟨O,_,h,q.1,fun v H1 ta O1 p f1 r1=> ⟨O1,_,p,q.1.step f1,fun w H2 tb O2 p2 f2 r2=>p2 H2 v w Q f2.ok (r1.kp f2.kp f1.ok) r2 (q.2.step (f1.trans f2))⟩⟩
theorem FZ{op:mF}{r:R2}(ho:DL Z.X (iE op) r)(h:WE Z ρ O a fun ta O1=>WE Z ρ O1 b fun tb O2=>RT Z.K r ta tb O2 Φ):WE Z ρ O (.BinOp a op b pos) Φ:=
 PE.weak (UL ho Bv Bv) fun _ _ _ q=>JC q h
theorem Vx{op:CmpOp}{r:R2}(ho:DL Z.X (gh op) r)(hm:behindInMarks op b=false)(h:WE Z ρ O a fun ta O1=>WE Z ρ O1 b fun tb O2=>RT Z.K r ta tb O2 Φ):WE Z ρ O (.Compare a [op] [b] pos) Φ:=
 PE.weak (SH ho Bv Bv hm) fun _ _ _ q=>JC q h
theorem Fb{op:mF}{r:R2}(ho:DL Z.X (iE op) r)(hp:RP Z.K r ta tb O t)(ha:ET Z ρ O a ta)(hb:ET Z ρ O b tb):ET Z ρ O (.BinOp a op b pos) t:=fun Φ p=>FZ ho (ha _ (hb _ (hp Φ p)))
theorem Lx{op:CmpOp}{r:R2}(ho:DL Z.X (gh op) r)(hm:behindInMarks op b=false)(hp:RP Z.K r ta tb O t)(ha:ET Z ρ O a ta)(hb:ET Z ρ O b tb):ET Z ρ O (.Compare a [op] [b] pos) t:=fun Φ p=>Vx ho hm (ha _ (hb _ (hp Φ p)))
theorem UW{r:R2}(ho:YD Z.X r)(hs:DY b)(h:WE Z ρ O a fun ta O1=>WE Z ρ O1 b fun tb O2=>RT Z.K r ta tb O2 Φ):WE Z ρ O (.Subscript a b pos) Φ:=
 PE.weak (PK ho Bv Bv hs) fun _ _ _ q=>JC q h
theorem Pz{r:R2}(ho:YD Z.X r)(hs:DY b)(hp:RP Z.K r ta tb O t)(ha:ET Z ρ O a ta)(hb:ET Z ρ O b tb):ET Z ρ O (.Subscript a b pos) t:=fun Φ p=>UW ho hs (ha _ (hb _ (hp Φ p)))
theorem Ai{Φ:Lv}(p:Φ [] O):WA Z ρ O [] Φ:=PA.weak Ay fun _ H _ q=>q.2 [] H [] O p q.1.refl .nil
theorem BZ{Φ:Lv}(h:WE Z ρ O e fun t O1=>WA Z ρ O1 es fun ts O2=>Φ (t::ts) O2)(hs:cb (e::es) Z.X.env=(false,eval e Z.X.env)::cb es Z.X.env:=by rfl):WA Z ρ O (e::es) Φ:=
 PA.weak (AM Bv Gm hs) fun σ H Q q=> ⟨O,_,h,q.1,fun v H1 t O1 p f1 r1=> ⟨O1,_,p,q.1.step f1,fun vs H2 ts O2 p2 f2 r2=>q.2 _ H2 _ O2 p2 (f1.trans f2) (.cons (r1.kp f2.kp f1.ok) r2)⟩⟩
theorem AE:EA Z ρ O [] []:=fun _ p=>Ai p
theorem AL(h:ET Z ρ O e t)(hr:EA Z ρ O es ts)(hs:cb (e::es) Z.X.env=(false,eval e Z.X.env)::cb es Z.X.env:=by rfl):EA Z ρ O (e::es) (t::ts):=fun Φ p=>BZ (h _ (hr _ p)) hs
theorem Be{x1}(h:WA Z ρ O es fun ts O1=>ts.length≤sizeLine∧Φ (.tup ts) O1):WE Z ρ O (.Tuple es x1 pos) Φ:=
 PE.weak (Vd h) fun σ H Q q=> ⟨q.1,fun vs H1 ts O1 p f r=> ⟨by rw[r.length];exact p.1,fun a ha=>q.2 _ _ _ O1 p.2 (f.trans (.new f.ok ha)) (.tup AI (r.kp (BW f.ok ha) f.ok))⟩⟩
theorem BX{x1}(h:EA Z ρ O es ts)(hl:ts.length≤sizeLine:=by first| (show 1≤sizeLine;decide)| (show 2≤sizeLine;decide)| (show 3≤sizeLine;decide)| (show 0≤sizeLine;decide)):ET Z ρ O (.Tuple es x1 pos) (.tup ts):=fun _ p=>Be (h _ ⟨hl,p⟩)
theorem QA(h:WA Z ρ O es fun ts O1=>ts.length≤sizeLine∧Φ (.lst ts) O1):WE Z ρ O (.List es pos) Φ:=
 PE.weak (GP h) fun σ H Q q=> ⟨q.1,fun vs H1 ts O1 p f r=> ⟨by rw[r.length];exact p.1,fun a ha=>q.2 _ _ _ O1 p.2 (f.trans (.new f.ok ha)) (.lst AI (f.ok.none_of ha) (r.kp (BW f.ok ha) f.ok))⟩⟩
theorem Bw(h:EA Z ρ O es ts)(hl:ts.length≤sizeLine):ET Z ρ O (.List es pos) (.lst ts):=fun _ p=>QA (h _ ⟨hl,p⟩)
theorem ER(h:WA Z ρ O es fun ts O1=>ts.length≤sizeLine∧∀a,O1 a=none→Φ (.raw (.ref a)) (Aa O1 a ts)):WE Z ρ O (.List es pos) Φ:=
 PE.weak (GP h) fun σ H Q q=> ⟨q.1,fun vs H1 ts O1 p f r=> ⟨by rw[r.length];exact p.1,fun a ha=>q.2 _ _ _ _ (p.2 a (f.ok.none_of ha)) (f.trans (.newO f.ok ha r)) (.raw _)⟩⟩
end
section
variable{K:a8}{O:AG}{H:Hp}{v:V}
theorem Rep.int_inv{i:Int}(r:Rep K O H v (.int i)):v=.int i:=by cases r;rfl
theorem Rep.bl_inv{i:Bool}(r:Rep K O H v (.bl i)):v=.bl i:=by cases r;rfl
theorem Rep.non_inv(r:Rep K O H v .non):v=.non:=by cases r;rfl
theorem Rep.str_inv{i:Str}(r:Rep K O H v (.str i)):v=.str i:=by cases r;rfl
theorem Rep.raw_inv{i:V}(r:Rep K O H v (.raw i)):v=i:=by cases r;rfl
theorem Rep.tup_inv{ts:List T}(r:Rep K O H v (.tup ts)):∃a xs,v=.ref a∧H a=some (.tup xs)∧Reps K O H xs ts:=by
 cases r with
 |tup h r=>exact⟨_,_,rfl,h,r⟩
theorem Rep.lst_inv{ts:List T}(r:Rep K O H v (.lst ts)):∃a xs,v=.ref a∧H a=some (.lst xs)∧O a=none∧Reps K O H xs ts:=by
 cases r with
 |lst h o r=>exact⟨_,_,rfl,h,o,r⟩
theorem Reps.cons_inv{vs:List V}{t:T}{ts:List T}(r:Reps K O H vs (t::ts)):∃v vs',vs=v::vs'∧Rep K O H v t∧Reps K O H vs' ts:=by
 cases r with
 |cons h r=>exact⟨_,_,rfl,h,r⟩
theorem Reps.nil_inv{vs:List V}(r:Reps K O H vs []):vs=[]:=by cases r;rfl
theorem Reps.one_inv{vs:List V}{t:T}(r:Reps K O H vs [t]):∃v,vs=[v]∧Rep K O H v t:=by
 obtain⟨v,vs',rfl,h,r⟩:=r.cons_inv
 cases r.nil_inv
 exact⟨v,rfl,h⟩
theorem Reps.two_inv{vs:List V}{t u:T}(r:Reps K O H vs [t,u]):∃v w,vs=[v,w]∧Rep K O H v t∧Rep K O H w u:=by
 obtain⟨v,vs',rfl,h,r⟩:=r.cons_inv
 obtain⟨w,rfl,h2⟩:=r.one_inv
 exact⟨v,w,rfl,h,h2⟩
theorem Reps.ints:∀{vs:List V} {ns:List Int},Reps K O H vs (ns.map T.int)→vs=ns.map V.int
 |_,[],r=>r.nil_inv
 |_,n::ns,r=>by
  obtain⟨v,vs',rfl,h,r⟩:=Reps.cons_inv r
  rw[h.int_inv,Reps.ints r]
  rfl
end
section
variable{Z:Zx}{ρ:List (Option T)}{O:AG}{e a b c:Expr}{es:List Expr}{Φ Φ':BL}{pos:Pos}{t ta tb:T}{ts:List T}{K:a8}{i j:Int}
theorem IG{g:Int→Int→Int}:RP K (Rv fun i j=> .int (g i j)) (.int i) (.int j) O (.int (g i j)):=fun Φ p H v w Q ok r1 r2 q=> ⟨i,j,r1.int_inv,r2.int_inv,q _ H _ O p (.refl ok) (.int _)⟩
theorem KL{g:Int→Int→Bool}:RP K (Rv fun i j=> .bl (g i j)) (.int i) (.int j) O (.bl (g i j)):=fun Φ p H v w Q ok r1 r2 q=> ⟨i,j,r1.int_inv,r2.int_inv,q _ H _ O p (.refl ok) (.bl _)⟩
theorem QB{C:Int→Int→Prop}{g:Int→Int→Int}(hc:C i j):RP K (rI C fun i j=> .int (g i j)) (.int i) (.int j) O (.int (g i j)):=fun Φ p H v w Q ok r1 r2 q=> ⟨i,j,r1.int_inv,r2.int_inv,hc,q _ H _ O p (.refl ok) (.int _)⟩
theorem BM(ha:ET Z ρ O a (.int i))(hb:ET Z ρ O b (.int j)):ET Z ρ O (.BinOp a .Add b pos) (.int (i+j)):=Fb GM IG ha hb
theorem Dt(ha:ET Z ρ O a (.int i))(hb:ET Z ρ O b (.int j)):ET Z ρ O (.BinOp a .Sub b pos) (.int (i-j)):=Fb VW IG ha hb
theorem FD(ha:ET Z ρ O a (.int i))(hb:ET Z ρ O b (.int j))(h:CMul i j):ET Z ρ O (.BinOp a .Mult b pos) (.int (i*j)):=Fb VX (QB h) ha hb
theorem JD(ha:ET Z ρ O a (.int i))(hb:ET Z ρ O b (.int j))(h:Xr i j):ET Z ρ O (.BinOp a .FloorDiv b pos) (.int (i/j)):=Fb SF (QB h) ha hb
theorem FE(ha:ET Z ρ O a (.int i))(hb:ET Z ρ O b (.int j))(h:0<j):ET Z ρ O (.BinOp a .Mod b pos) (.int (i%j)):=Fb PB (QB h) ha hb
theorem Vy(ha:ET Z ρ O a (.int i))(hb:ET Z ρ O b (.int j))(h:Xs i j):ET Z ρ O (.BinOp a .Pow b pos) (.int (i^j.toNat)):=Fb VY (QB h) ha hb
theorem UX(ha:ET Z ρ O a (.int i))(hb:ET Z ρ O b (.int j)):ET Z ρ O (.Compare a [.Lt] [b] pos) (.bl (decide (i<j))):=Lx PC (Au _) KL ha hb
theorem YW(ha:ET Z ρ O a (.int i))(hb:ET Z ρ O b (.int j)):ET Z ρ O (.Compare a [.GtE] [b] pos) (.bl (decide (j≤i))):=Lx Xx (Au _) KL ha hb
theorem Ly:RP K aQ (.int i) (.int j) O (.bl (decide (i=j))):=fun Φ p H v w Q ok r1 r2 q=>by
 cases r1.int_inv;cases r2.int_inv
 refine⟨rfl,?_⟩
 have:decide (V.int i=V.int j)=decide (i=j):=by simp
 rw[this]
 exact q _ H _ O p (.refl ok) (.bl _)
theorem Vz:RP K Zr (.int i) (.int j) O (.bl (!decide (i=j))):=fun Φ p H v w Q ok r1 r2 q=>by
 cases r1.int_inv;cases r2.int_inv
 refine⟨rfl,?_⟩
 have:decide (V.int i=V.int j)=decide (i=j):=by simp
 rw[this]
 exact q _ H _ O p (.refl ok) (.bl _)
theorem WB{x y:Bool}:RP K Zr (.bl x) (.bl y) O (.bl (!(x==y))):=fun Φ p H v w Q ok r1 r2 q=>by
 cases r1.bl_inv;cases r2.bl_inv
 refine⟨rfl,?_⟩
 have:decide (V.bl x=V.bl y)=(x==y):=LR
 rw[this]
 exact q _ H _ O p (.refl ok) (.bl _)
theorem YX{op:UnaryOp}{g:Int→Int}(ho:Zp Z.X (unaryOp op) (rU fun i=> .int (g i)))(h:ET Z ρ O a (.int i)):ET Z ρ O (.UnaryOp op a pos) (.int (g i)):=fun Φ p=>
 PE.weak (Xp ho Bv) fun σ H Q q=> ⟨O,_,h (fun t O'=>t=.int i∧O'=O) ⟨rfl,rfl⟩,q.1,fun v H1 t O1 ⟨e1,e2⟩ f r=>by
  subst e1;subst e2
  exact⟨i,r.int_inv,q.2 _ H1 _ _ p f (.int _)⟩⟩
theorem QC(h:ET Z ρ O a (.int i)):ET Z ρ O (.UnaryOp .USub a pos) (.int (-i)):=YX VZ h
def TruT(O:AG):T→Bool→Prop
 | .non,k=>k=false
 | .bl b,k=>k=b
 | .int i,k=>k=(i !=0)
 | .str y,k=>y.length≤sizeLine∧k=((y.length:Int) !=0)
 | .tup ts,k=>k=!ts.isEmpty
 | .lst ts,k=>k=!ts.isEmpty
 | .frz ts,k=>k=!ts.isEmpty
 | .dct,_=>False
 | .raw (.ref a),k=>∃ts,O a=some ts∧k=!ts.isEmpty
 | .raw _,_=>False
theorem Reps.isEmpty{vs:List V}{ts:List T}{H:Hp}(r:Reps K O H vs ts):vs.isEmpty=ts.isEmpty:=by cases r<;>rfl
theorem TruT.v{H:Hp}{v:V}{k:Bool}(h:TruT O t k)(r:Rep K O H v t)(ok:OwnOk K O H):Vb K v H k:=by
 cases r with
 |non=>exact h
 |bl=>exact h
 |int=>exact h
 |str=>exact h
 |tup h1 r=>
  have h:k=!_:=h
  exact .inr (.inl ⟨_,.inl (.inl h1),by rw[h,r.isEmpty]⟩)
 |lst h1 o r=>
  have h:k=!_:=h
  exact .inl ⟨_,.inl (.inl h1),by rw[h,r.isEmpty]⟩
 |frz h1 r=>
  have h:k=!_:=h
  exact .inl ⟨_,.inl (.inr ⟨_,h1⟩),by rw[h,r.isEmpty]⟩
 |dct=>exact h.elim
 |raw v=>
  cases v with
  |ref a=>
   obtain⟨ts,e,h⟩:=h
   obtain⟨xs,h1,r⟩:=ok a ts e
   exact .inl ⟨xs,.inl (.inl h1),by rw[h,r.isEmpty]⟩
  |_=>exact h.elim
theorem KM{Φ:JB}(h:WE Z ρ O e fun t O'=>∃k,TruT O' t k∧Φ k O')(he:∀whole,isTrue e Z.X.env whole=(do let v←whole;standAt e.pos;holding [v] (truthy v)):=by intro _;rfl):WT Z ρ O e Φ:=
 PT.weak (Ji Bv he) fun σ H Q q=> ⟨O,_,h,q.1,fun v H1 t O1 ⟨k,tr,p⟩ f r=> ⟨k,tr.v r f.ok,q.2 k H1 O1 p f⟩⟩
theorem KN{k:Bool}(h:ET Z ρ O e t)(tr:TruT O t k)(he:∀whole,isTrue e Z.X.env whole=(do let v←whole;standAt e.pos;holding [v] (truthy v)):=by intro _;rfl):EB Z ρ O e k:=fun Φ p=>KM (h _ ⟨k,tr,p⟩) he
theorem KO{k:Bool}(h:ET Z ρ O e (.bl k))(he:∀whole,isTrue e Z.X.env whole=(do let v←whole;standAt e.pos;holding [v] (truthy v)):=by intro _;rfl):EB Z ρ O e k:=KN h rfl he
theorem Lz{Φ:JB}{op:CmpOp}{r:R2}(ho:DL Z.X (gh op) r)(hm:behindInMarks op b=false)(h:WE Z ρ O a fun ta O1=>WE Z ρ O1 b fun tb O2=>RT Z.K r ta tb O2 fun t O3=>∃k,t=.bl k∧Φ k O3):WT Z ρ O (.Compare a [op] [b] pos) Φ:=
 PT.weak (Ie ho Bv Bv hm) fun σ H Q q=>JC (Φ:=fun t O3=>∃k,t=.bl k∧Φ k O3) ⟨q.1,fun v H' t O' ⟨k,e,p⟩ f r=>by
  subst e
  exact⟨k,r.bl_inv,q.2 k H' O' p f⟩⟩ h
theorem BN{op:CmpOp}{r:R2}{k:Bool}(ho:DL Z.X (gh op) r)(hm:behindInMarks op b=false)(hp:RP Z.K r ta tb O (.bl k))(ha:ET Z ρ O a ta)(hb:ET Z ρ O b tb):EB Z ρ O (.Compare a [op] [b] pos) k:=fun Φ p=>
 Lz ho hm (ha _ (hb _ (hp _ ⟨k,rfl,p⟩)))
theorem QD(ha:ET Z ρ O a (.int i))(hb:ET Z ρ O b (.int j)):EB Z ρ O (.Compare a [.Lt] [b] pos) (decide (i<j)):=BN PC (Au _) KL ha hb
theorem YY(ha:ET Z ρ O a (.int i))(hb:ET Z ρ O b (.int j)):EB Z ρ O (.Compare a [.LtE] [b] pos) (decide (i≤j)):=BN Xv (Au _) KL ha hb
theorem KP(ha:ET Z ρ O a (.int i))(hb:ET Z ρ O b (.int j)):EB Z ρ O (.Compare a [.Gt] [b] pos) (decide (j<i)):=BN Xw (Au _) KL ha hb
theorem Du(ha:ET Z ρ O a (.int i))(hb:ET Z ρ O b (.int j)):EB Z ρ O (.Compare a [.Eq] [b] pos) (decide (i=j)):=BN Md (Au _) Ly ha hb
theorem WC(ha:ET Z ρ O a (.int i))(hb:ET Z ρ O b (.int j)):EB Z ρ O (.Compare a [.NotEq] [b] pos) (!decide (i=j)):=BN Me (Au _) Vz ha hb
theorem WD{x y:Bool}(ha:ET Z ρ O a (.bl x))(hb:ET Z ρ O b (.bl y)):EB Z ρ O (.Compare a [.NotEq] [b] pos) (!(x==y)):=BN Me (Au _) WB ha hb
theorem QE{Φ:JB}(h:WT Z ρ O a fun k O'=>Φ (!k) O'):WT Z ρ O (.UnaryOp .Not a pos) Φ:=PT.weak (Ou h) fun σ H Q q=> ⟨q.1,fun k H1 O1 p f=>q.2 _ H1 O1 p f⟩
theorem Gp{k:Bool}(h:EB Z ρ O a k):EB Z ρ O (.UnaryOp .Not a pos) (!k):=fun Φ p=>QE (h _ p)
def EW(Z:Zx)(ρ:List (Option T))(O:AG)(e:Expr)(b:Bool):Prop:=∀Φ:JB,Φ b O→WW Z ρ O e Φ
theorem EW.eb{k:Bool}(h:EW Z ρ O e k):EB Z ρ O e k:=fun Φ p=> (h Φ p).pt
theorem Sl{Φ:JB}(h:WT Z ρ O a Φ):WW Z ρ O (.BoolOp .And [a] pos) Φ:=SA h
theorem QF{Φ:JB}(h:WT Z ρ O a Φ):WW Z ρ O (.BoolOp .Or [a] pos) Φ:=Ot h
theorem WH{Φ:JB}(h:WT Z ρ O a fun k O1=>if k=true then WW Z ρ O1 (.BoolOp .And (b::es) pos) Φ else Φ false O1):WW Z ρ O (.BoolOp .And (a::b::es) pos) Φ:=
 PW.weak (VH h YT) fun σ H Q q=> ⟨q.1,fun k H1 O1 p f=>by
  cases k with
  |true=>rw[if_pos rfl] at p ⊢;exact⟨O1,_,p,q.1.step f,q.2.step f⟩
  |false=>rw[if_neg cf] at p ⊢;exact q.2 _ H1 O1 p f⟩
theorem UY{Φ:JB}(h:WT Z ρ O a fun k O1=>if k=true then Φ true O1 else WW Z ρ O1 (.BoolOp .Or (b::es) pos) Φ):WW Z ρ O (.BoolOp .Or (a::b::es) pos) Φ:=
 PW.weak (UJ h YT) fun σ H Q q=> ⟨q.1,fun k H1 O1 p f=>by
  cases k with
  |true=>rw[if_pos rfl] at p ⊢;exact q.2 _ H1 O1 p f
  |false=>rw[if_neg cf] at p ⊢;exact⟨O1,_,p,q.1.step f,q.2.step f⟩⟩
theorem Cw{k:Bool}(h:EB Z ρ O a k):EW Z ρ O (.BoolOp .And [a] pos) k:=fun Φ p=>Sl (h _ p)
theorem QG{k:Bool}(h:EB Z ρ O a k):EW Z ρ O (.BoolOp .Or [a] pos) k:=fun Φ p=>QF (h _ p)
theorem Dv{x y:Bool}(ha:EB Z ρ O a x)(hb:x=true→EW Z ρ O (.BoolOp .And (b::es) pos) y):EW Z ρ O (.BoolOp .And (a::b::es) pos) (x&&y):=fun Φ p=>WH (ha _ (by
 cases x with
 |true=>rw[if_pos rfl];exact hb rfl _ p
 |false=>rw[if_neg cf];exact p))
theorem My{x y:Bool}(ha:EB Z ρ O a x)(hb:x=false→EW Z ρ O (.BoolOp .Or (b::es) pos) y):EW Z ρ O (.BoolOp .Or (a::b::es) pos) (x||y):=fun Φ p=>UY (ha _ (by
 cases x with
 |true=>rw[if_pos rfl];exact p
 |false=>rw[if_neg cf];exact hb rfl _ p))
theorem QH{op}(h:ET Z ρ O a t):ET Z ρ O (.BoolOp op [a] pos) t:=fun Φ p=>VI (h Φ p)
theorem QI{x y:Bool}(ha:ET Z ρ O a (.bl x))(hb:x=true→ET Z ρ O (.BoolOp .And (b::es) pos) (.bl y)):ET Z ρ O (.BoolOp .And (a::b::es) pos) (.bl (x&&y)):=fun Φ p=>
 by
 refine PE.weak (VJ (Bv (ρ:=ρ)) (Bv (ρ:=ρ))) fun σ H Q q=>?_
 refine⟨O,_,ha (fun t O'=>t=.bl x∧O'=O) ⟨rfl,rfl⟩,q.1,?_⟩
 rintro v H1 _ _ ⟨rfl,rfl⟩ f r
 refine⟨x,r.bl_inv,?_⟩
 cases x with
 |true=>exact Ih ⟨_,_,hb rfl _ p,q.1.step f,q.2.step f⟩
 |false=>exact La (q.2 _ H1 _ _ p f (.bl _))
theorem QJ{x:Bool}(ha:ET Z ρ O a (.bl x)):ET Z ρ O (.UnaryOp .Not a pos) (.bl (!x)):=fun Φ p=>
 PE.weak (VL Bv) fun σ H Q q=> ⟨O,_,ha (fun t O'=>t=.bl x∧O'=O) ⟨rfl,rfl⟩,q.1,fun v H1 t O1 ⟨e1,e2⟩ f r=>by
  subst e1;subst e2
  exact⟨x,r.bl_inv,q.2 _ H1 _ _ p f (.bl _)⟩⟩
theorem YZ(h:WT Z ρ O c fun k O1=>if k=true then WE Z ρ O1 a Φ else WE Z ρ O1 b Φ):WE Z ρ O (.IfExp c a b pos) Φ:=
 PE.weak (Ov h Bv Bv) fun σ H Q q=> ⟨q.1,fun k H1 O1 p f=>by
  cases k with
  |true=>rw[if_pos rfl] at p ⊢;exact⟨O1,_,p,q.1.step f,q.2.step f⟩
  |false=>rw[if_neg cf] at p ⊢;exact⟨O1,_,p,q.1.step f,q.2.step f⟩⟩
theorem Mz{x:Bool}(hc:EB Z ρ O c x)(ha:x=true→ET Z ρ O a ta)(hb:x=false→ET Z ρ O b tb):ET Z ρ O (.IfExp c a b pos) (if x=true then ta else tb):=fun Φ p=>YZ (hc _ (by
 cases x with
 |true=>rw[if_pos rfl] at p ⊢;exact ha rfl _ p
 |false=>rw[if_neg cf] at p ⊢;exact hb rfl _ p))
theorem Reps.atI{vs:List V}{H:Hp}(r:Reps K O H vs ts)(e:L2.atI ts i=some t):∃v,L2.atI vs i=some v∧Rep K O H v t:=by
 unfold L2.atI at e ⊢
 rw[r.length]
 cases hx:Nw ts.length i with
 |none=>rw[hx] at e;cases e
 |some j=>rw[hx] at e;exact r.get e
theorem WJ(e:atI ts i=some t):RP K (YE K) (.tup ts) (.int i) O t:=fun Φ p H v w Q ok r1 r2 q=>by
 obtain⟨a,xs,rfl,h1,r1⟩:=r1.tup_inv
 obtain⟨x,ex,rx⟩:=r1.atI e
 exact⟨a,xs,i,x,rfl,r2.int_inv,.inl (.inl h1),ex,q _ H _ O p (.refl ok) rx⟩
theorem QK(e:atI ts i=some t):RP K (Ve K) (.lst ts) (.int i) O t:=fun Φ p H v w Q ok r1 r2 q=>by
 obtain⟨a,xs,rfl,h1,o1,r1⟩:=r1.lst_inv
 obtain⟨x,ex,rx⟩:=r1.atI e
 exact⟨a,xs,i,x,rfl,r2.int_inv,.inl (.inl h1),ex,q _ H _ O p (.refl ok) rx⟩
theorem WK{a:Addr}(ha:O a=some ts)(e:atI ts i=some t):RP K (Ve K) (.raw (.ref a)) (.int i) O t:=fun Φ p H v w Q ok r1 r2 q=>by
 cases r1.raw_inv
 obtain⟨xs,h1,r1⟩:=ok a ts ha
 obtain⟨x,ex,rx⟩:=r1.atI e
 exact⟨a,xs,i,x,rfl,r2.int_inv,.inl (.inl h1),ex,q _ H _ O p (.refl ok) rx⟩
theorem Af(ha:ET Z ρ O a (.tup ts))(hb:ET Z ρ O b (.int i))(e:atI ts i=some t:=by rfl)(hs:DY b:=by exact fun _ _=>rfl):ET Z ρ O (.Subscript a b pos) t:=Pz Vf hs (WJ e) ha hb
theorem Dw(ha:ET Z ρ O a (.lst ts))(hb:ET Z ρ O b (.int i))(e:atI ts i=some t:=by rfl)(hs:DY b:=by exact fun _ _=>rfl):ET Z ρ O (.Subscript a b pos) t:=Pz EJ hs (QK e) ha hb
theorem BR{p:Addr}(hp:O p=some ts)(ha:ET Z ρ O a (.raw (.ref p)))(hb:ET Z ρ O b (.int i))(e:atI ts i=some t:=by rfl)(hs:DY b:=by exact fun _ _=>rfl):ET Z ρ O (.Subscript a b pos) t:=Pz EJ hs (WK hp e) ha hb
end
abbrev DR:=List T→AG→BL→(Value→AG→Prop)→Prop
def Dl(K:a8)(s:DR):Sp:=fun vs H Q E=>∃ts O Φ Ξ,Reps K O H vs ts∧OwnOk K O H∧s ts O Φ Ξ∧Acc K O H Φ Q∧∀cls O' H',Ξ cls O'→Frm K O H O' H'→E cls none H'
structure FnT(P:Program)(w:World)(K:a8)(mg:Str→Option Value)(base:Heap)(x:Str)(k:Nat)(ps:List Str)(s:DR):Prop where
 ex:∃f fd,FnOk P w K mg base (CXe P w) k f fd ps (Dl K s)∧mg x=some (.ref f)∧eM K (.ref f)=true∧Binds K fd ps []
def Ry(φ:List T→T→Prop):DR:=fun ts O Φ _=>∃t,φ ts t∧Φ t O
section
variable{Z:Zx}{ρ:List (Option T)}{O:AG}{e a b c:Expr}{es:List Expr}{Φ Φ':BL}{pos p:Pos}{t ta tb:T}{ts:List T}{K:a8}{i j:Int}{x:Str}
theorem Ac{k:Nat}{ps:List Str}{s:DR}(G:FnT Z.X.prog Z.X.w Z.X.K Z.X.mg Z.X.base x k ps s)(hr:Room k Z.X.A)(xf:XFly Z.X Z.W)(h:WA Z ρ O (e::es) fun ts O1=>s ts O1 Φ Z.Xi)(hg:Gl Z.X x:=by rfl)
  (hdb:(x==("__debug__" :Str))=false:=by decide) (he:cb (e::es) Z.X.env=(false,eval e Z.X.env)::cb es Z.X.env:=by rfl) (hpl:(fY pos (cb es Z.X.env)).any (·.1)=false:=by rfl):WE Z ρ O (.Call (.Name x p) (e::es) [] pos) Φ:=by
 obtain⟨f,fd,F,hm,hk,hb⟩:=G.ex
 refine PE.weak (GT xf F hr hg hm hk hb (Gm (ρ:=ρ)) hdb he hpl) fun σ H Q q=>?_
 exact⟨O,_,h,q.1,fun vs H1 ts O1 p f r=> ⟨ts,O1,Φ,Z.Xi,r,f.ok,p,q.2.step f,fun cls O' H' x f'=> ⟨rfl,O',x,(q.1.fr.trans f).trans f'⟩⟩⟩
theorem Sm{k:Nat}{ps:List Str}{s:DR}(G:FnT Z.X.prog Z.X.w Z.X.K Z.X.mg Z.X.base x k ps s)(hr:Room k Z.X.A)(xf:XFly Z.X Z.W)(h:EA Z ρ O (e::es) ts)(hs:∀Φ:BL,Φ t O→s ts O Φ Z.Xi)(hg:Gl Z.X x:=by rfl)
  (hdb:(x==("__debug__" :Str))=false:=by decide) (he:cb (e::es) Z.X.env=(false,eval e Z.X.env)::cb es Z.X.env:=by rfl) (hpl:(fY pos (cb es Z.X.env)).any (·.1)=false:=by rfl):ET Z ρ O (.Call (.Name x p) (e::es) [] pos) t:=
 fun Φ p=>Ac G hr xf (h _ (hs Φ p)) hg hdb he hpl
theorem Fc{k:Nat}{ps:List Str}{φ:List T→T→Prop}(G:FnT Z.X.prog Z.X.w Z.X.K Z.X.mg Z.X.base x k ps (Ry φ))(hr:Room k Z.X.A)(xf:XFly Z.X Z.W)(h:EA Z ρ O (e::es) ts)(hs:φ ts t)(hg:Gl Z.X x:=by rfl)
  (hdb:(x==("__debug__" :Str))=false:=by decide) (he:cb (e::es) Z.X.env=(false,eval e Z.X.env)::cb es Z.X.env:=by rfl) (hpl:(fY pos (cb es Z.X.env)).any (·.1)=false:=by rfl):ET Z ρ O (.Call (.Name x p) (e::es) [] pos) t:=
 Sm G hr xf h (fun Φ p=> ⟨t,hs,p⟩) hg hdb he hpl
def CT(K:a8)(r:List V→Hp→VK→Prop)(ts:List T)(O:AG)(Φ:BL):Prop:=∀H vs Q,OwnOk K O H→Reps K O H vs ts→Acc K O H Φ Q→r vs H Q
def CP(K:a8)(r:List V→Hp→VK→Prop)(ts:List T)(O:AG)(t:T):Prop:=∀Φ:BL,Φ t O→CT K r ts O Φ
theorem Gq{id:String}{r:List V→Hp→VK→Prop}(hc:BA Z.X (.builtin id) r)(hm:Z.X.mg x=none)(hv:dY x=some (.builtin id))(h:WA Z ρ O (e::es) fun ts O1=>CT Z.K r ts O1 Φ)(hg:Gl Z.X x:=by rfl)(hn:x≠"__name__":=by decide)(hdb:(x==("__debug__" :Str))=false:=by decide)
  (he:cb (e::es) Z.X.env=(false,eval e Z.X.env)::cb es Z.X.env:=by rfl) (hpl:(fY pos (cb es Z.X.env)).any (·.1)=false:=by rfl):WE Z ρ O (.Call (.Name x p) (e::es) [] pos) Φ:=
 PE.weak (Aw hc hg hm hv (Gm (ρ:=ρ)) hn hdb he hpl) fun σ H Q q=> ⟨O,_,h,q.1,fun vs H1 ts O1 p f r=>p H1 vs Q f.ok r (q.2.step f)⟩
theorem Da{id:String}{r:List V→Hp→VK→Prop}(hc:BA Z.X (.type id) r)(hm:Z.X.mg x=none)(hv:dY x=some (.type id))(h:WA Z ρ O (e::es) fun ts O1=>CT Z.K r ts O1 Φ)(hg:Gl Z.X x:=by rfl)(hn:x≠"__name__":=by decide)(hdb:(x==("__debug__" :Str))=false:=by decide)
  (he:cb (e::es) Z.X.env=(false,eval e Z.X.env)::cb es Z.X.env:=by rfl) (hpl:(fY pos (cb es Z.X.env)).any (·.1)=false:=by rfl):WE Z ρ O (.Call (.Name x p) (e::es) [] pos) Φ:=
 PE.weak (DX hc hg hm hv (Gm (ρ:=ρ)) hn hdb he hpl) fun σ H Q q=> ⟨O,_,h,q.1,fun vs H1 ts O1 p f r=>p H1 vs Q f.ok r (q.2.step f)⟩
theorem BI{id:String}{r:List V→Hp→VK→Prop}(hc:BA Z.X (.builtin id) r)(hm:Z.X.mg x=none)(hv:dY x=some (.builtin id))(h:EA Z ρ O (e::es) ts)(hp:CP Z.K r ts O t)(hg:Gl Z.X x:=by rfl)(hn:x≠"__name__":=by decide)(hdb:(x==("__debug__" :Str))=false:=by decide)
  (he:cb (e::es) Z.X.env=(false,eval e Z.X.env)::cb es Z.X.env:=by rfl) (hpl:(fY pos (cb es Z.X.env)).any (·.1)=false:=by rfl):ET Z ρ O (.Call (.Name x p) (e::es) [] pos) t:=fun Φ q=>Gq hc hm hv (h _ (hp Φ q)) hg hn hdb he hpl
theorem IH{id:String}{r:List V→Hp→VK→Prop}(hc:BA Z.X (.type id) r)(hm:Z.X.mg x=none)(hv:dY x=some (.type id))(h:EA Z ρ O (e::es) ts)(hp:CP Z.K r ts O t)(hg:Gl Z.X x:=by rfl)(hn:x≠"__name__":=by decide)(hdb:(x==("__debug__" :Str))=false:=by decide)
  (he:cb (e::es) Z.X.env=(false,eval e Z.X.env)::cb es Z.X.env:=by rfl) (hpl:(fY pos (cb es Z.X.env)).any (·.1)=false:=by rfl):ET Z ρ O (.Call (.Name x p) (e::es) [] pos) t:=fun Φ q=>Da hc hm hv (h _ (hp Φ q)) hg hn hdb he hpl
def MT(K:a8)(ty:String)(r:V→List V→Hp→VK→Prop)(t:T)(ts:List T)(O:AG)(Φ:BL):Prop:=∀H v vs Q,OwnOk K O H→Rep K O H v t→Reps K O H vs ts→Acc K O H Φ Q→r v vs H Q
def bK(K:a8)(ty:String)(O:AG)(t:T):Prop:=∀H v,OwnOk K O H→Rep K O H v t→aV K ty v H
theorem UZ{o:Expr}{name:Str}{apos cpos:Pos}{ty id:String}{r:V→List V→Hp→VK→Prop}(pa:PlainAttrs ty)(slot:Slot ty name id)(hty:nQ (.builtin id)=pure (.type "method_descriptor"))(hm:bI Z.X id r)
  (h:WE Z ρ O o fun t O1=>bK Z.K ty O1 t∧WA Z ρ O1 (e::es) fun ts O2=>MT Z.K ty r t ts O2 Φ)
  (hbase:jd o name Z.X.env (eval o Z.X.env)=eval o Z.X.env:=by rfl)
  (hfew:((fY cpos (cb (e::es) Z.X.env)).all (fun x=>!x.1)&&(nX cpos (mx [] Z.X.env)).all (fun x=>x.1.isSome)
   &&decide ((e::es).length+([]:List lH).length+(if([]:List lH).isEmpty then 0 else 1)<30))=true:=by rfl)
  (hline:(apos.endLine==cpos.line)=true:=by rfl) (hs:cb (e::es) Z.X.env=(false,eval e Z.X.env)::cb es Z.X.env:=by rfl) (hplain:(fY cpos (cb es Z.X.env)).any (·.1)=false:=by rfl):WE Z ρ O (.Call (.Attribute o name apos) (e::es) [] cpos) Φ:=
 PE.weak (PM pa slot hty hm (Bv (ρ:=ρ)) (Gm (ρ:=ρ)) hbase hfew hline hs hplain) fun σ H Q q=> ⟨O,_,h,q.1,fun v H1 t O1 ⟨ty,p⟩ f1 r1=> ⟨ty H1 v f1.ok r1,O1,_,p,q.1.step f1,fun vs H2 ts O2 p2 f2 r2=>
  p2 H2 v vs Q f2.ok (r1.kp f2.kp f1.ok) r2 (q.2.step (f1.trans f2))⟩⟩
theorem NA{a:Addr}(ha:O a=some ts):bK K "list" O (.raw (.ref a)):=fun H v ok r=>by
 cases r.raw_inv
 obtain⟨xs,h,_⟩:=ok a ts ha
 exact .inl ⟨rfl,xs,.inl (.inl h)⟩
theorem MA{a:Addr}{u:T}(ha:O a=some ts)(hl:ts.length<sizeLine)(p:Φ .non (Aa O a (ts++[u]))):MT K "list" Mj (.raw (.ref a)) [u] O Φ:=fun H v vs Q ok r1 r2 q=>by
 cases r1.raw_inv
 obtain⟨w,rfl,r3⟩:=r2.one_inv
 obtain⟨xs,h,r⟩:=ok a ts ha
 exact⟨a,xs,w,rfl,rfl,h,by rw[r.length];exact hl,q _ _ _ _ p (.put ok ha (r.append (.one r3))) .non⟩
theorem Bo{o:Expr}{apos cpos:Pos}(h:WE Z ρ O o fun t O1=>∃a,t=.raw (.ref a)∧(∃ts,O1 a=some ts)∧WE Z ρ O1 e fun u O2=>∃ts,O2 a=some ts∧ts.length<sizeLine∧Φ .non (Aa O2 a (ts++[u])))
  (hbase:jd o "append" Z.X.env (eval o Z.X.env)=eval o Z.X.env:=by rfl)
  (hfew:((fY cpos (cb [e] Z.X.env)).all (fun x=>!x.1)&&(nX cpos (mx [] Z.X.env)).all (fun x=>x.1.isSome)
   &&decide ([e].length+([]:List lH).length+(if([]:List lH).isEmpty then 0 else 1)<30))=true:=by rfl)
  (hline:(apos.endLine==cpos.line)=true:=by rfl) (hs:cb [e] Z.X.env=(false,eval e Z.X.env)::cb [] Z.X.env:=by rfl) (hplain:(fY cpos (cb [] Z.X.env)).any (·.1)=false:=by rfl):WE Z ρ O (.Call (.Attribute o "append" apos) [e] [] cpos) Φ:=by
 refine UZ iS PySem.F.slot_list_append PySem.F.type_list_append Hs (DZ h ?_) hbase hfew hline hs hplain
 rintro t O1 ⟨a,rfl,⟨ts,hts⟩,w⟩
 refine⟨NA hts,BZ (DZ w ?_) hs⟩
 rintro u O2 ⟨us,h1,h2,p⟩
 exact Ai (MA h1 h2 p)
end
abbrev Fv:=List (Option T)→AG→Prop
structure Es where
 nx:Fv
 rt:BL
 bk:Fv:=fun _ _=>False
 ct:Fv:=fun _ _=>False
def AccN(Z:Zx)(O:AG)(H:Hp)(N:Fv)(D:St→Hp→Prop):Prop:=∀ρ' O' σ' H',N ρ' O'→Asr Z ρ' O' σ' H'→Kp O H O' H'→D σ' H'
structure AccS(Z:Zx)(O:AG)(H:Hp)(Ψ:Es)(D:Ends):Prop where
 nx:AccN Z O H Ψ.nx D.nx
 rt:∀v H' t O',Ψ.rt t O'→Frm Z.K Z.Oe Z.He O' H'→Rep Z.K O' H' v t→D.rt v H'
 bk:AccN Z O H Ψ.bk D.bk
 ct:AccN Z O H Ψ.ct D.ct
def tS(Z:Zx)(ρ:List (Option T))(O:AG)(Ψ:Es):TS:=fun D σ H=>Asr Z ρ O σ H∧AccS Z O H Ψ D
def WS(Z:Zx)(ρ:List (Option T))(O:AG)(s:Stmt)(Ψ:Es):Prop:=PS Z.X s (tS Z ρ O Ψ)
def DS(Z:Zx)(ρ:List (Option T))(O:AG)(s:List Stmt)(Ψ:Es):Prop:=PSs Z.X s (tS Z ρ O Ψ)
def bw(Z:Zx)(ss:List Stmt):TS:=fun D σ H=>∃ρ O Ψ,DS Z ρ O ss Ψ∧tS Z ρ O Ψ D σ H
theorem KQ{Z:Zx}{ss:List Stmt}:PSs Z.X ss (bw Z ss):=fun pins s σ H D I ⟨_,_,_,w,q⟩=>w pins s σ H D I q
section
variable{Z:Zx}{ρ:List (Option T)}{O O1:AG}{e a b c:Expr}{es:List Expr}{Ψ:Es}{pos p:Pos}{t ta tb:T}{ts:List T}{i j:Nat}{x:Str}{s:Stmt}{ss:List Stmt}{H H1:Hp}{D:Ends}
theorem AccN.step{N:Fv}{D:St→Hp→Prop}(h:AccN Z O H N D)(k:Kp O H O1 H1):AccN Z O1 H1 N D:=fun ρ' O' σ' H' n a k'=>h ρ' O' σ' H' n a (k.trans k')
theorem AccS.step(h:AccS Z O H Ψ D)(k:Kp O H O1 H1):AccS Z O1 H1 Ψ D:=⟨h.nx.step k,h.rt,h.bk.step k,h.ct.step k⟩
theorem BS(h:Ψ.nx ρ O):DS Z ρ O [] Ψ:=PSs.weak Ia fun D σ H q=>q.2.nx ρ O σ H h q.1 .refl
theorem AF(h:WS Z ρ O s {Ψ with nx:=fun ρ' O'=>DS Z ρ' O' ss Ψ}):DS Z ρ O (s::ss) Ψ:=
 PSs.weak (Cd h KQ) fun D σ H q=> ⟨q.1,fun ρ' O' σ' H' w a k=> ⟨ρ',O',Ψ,w,a,q.2.step k⟩,q.2.rt,q.2.bk,q.2.ct⟩
theorem AJ(h:WS Z ρ O s Ψ):DS Z ρ O [s] Ψ:=PSs.weak (DW h) fun _ _ _ q=>q
theorem NB{Ψ':Es}(h:WS Z ρ O s Ψ)(n:∀ρ' O',Ψ.nx ρ' O'→Ψ'.nx ρ' O')(r:∀t O',Ψ.rt t O'→Ψ'.rt t O')(bk:∀ρ' O',Ψ.bk ρ' O'→Ψ'.bk ρ' O')(ct:∀ρ' O',Ψ.ct ρ' O'→Ψ'.ct ρ' O'):WS Z ρ O s Ψ':=
 PS.weak h fun D σ H q=> ⟨q.1,fun ρ' O' σ' H' w=>q.2.nx ρ' O' σ' H' (n ρ' O' w),fun v H' t O' w=>q.2.rt v H' t O' (r t O' w),fun ρ' O' σ' H' w=>q.2.bk ρ' O' σ' H' (bk ρ' O' w),fun ρ' O' σ' H' w=>q.2.ct ρ' O' σ' H' (ct ρ' O' w)⟩
theorem Bx{p:Addr}{n:Nat}(hp:O p=some ts)(he:Z.Oe p=none)(hn:ρ[n]?=some (some (.raw (.ref p))))(h:DS Z (ρ.set n (some (.lst ts))) (CF O p) ss Ψ):DS Z ρ O ss Ψ:=PSs.weak h fun D σ H q=>by
 refine⟨⟨?_,⟨q.1.fr.kp.trans CH,fun b us e=>?_,q.1.ok.drop⟩⟩,q.2.step CH⟩
 ·have r1:=q.1.rl.kp (CH (a:=p)) q.1.ok
  obtain⟨v,e1,e2⟩:=q.1.rl.2 n _ hn
  cases e2.raw_inv
  have r2:=r1.set (i:=n) (q.1.ok.rep hp)
  have:σ.set n (some (.ref p))=σ:=by
   apply fv
   intro m
   by_cases hm:m=n
   ·subst hm
    have hl:m<σ.length:=(cw.mp e1).1
    rw[dr hl,e1]
   ·rw[dz (Ne.symm hm)]
  rw[this] at r2
  exact r2
 ·obtain⟨us',e'⟩:=q.1.fr.own b us e
  have:b≠p:=fun z=>by rw[z,he] at e;cases e
  exact⟨us',by rw[DQ this];exact e'⟩
theorem AW(h:WE Z ρ O e Ψ.rt):WS Z ρ O (.Return (some e) pos) Ψ:=PS.weak (Ep h) fun D σ H q=> ⟨q.1,fun v H' t O' p f r=>q.2.rt v H' t O' p (q.1.fr.trans f) r⟩
theorem Cy(h:WE Z ρ O e fun _ O'=>Ψ.nx ρ O')(hs:ju e none pos.line Z.X.env=pure false:=by rfl):WS Z ρ O (.Expr e pos) Ψ:=
 PS.weak (SB h hs) fun D σ H q=> ⟨q.1,fun v H' t O' p f r=>q.2.nx ρ O' σ H' p (q.1.step f) f.kp⟩
theorem AV(i:Nat)(h:WE Z ρ O e fun t O'=>Ψ.nx (ρ.set i (some t)) O')(hN:Z.X.N.Nodup){pos':Pos}(hi:Z.X.N[i]?=some x:=by rfl)(hx:Ol Z.X.env.scope x:=by first|exact ku rfl|exact k8 rfl)(hs:ju e (some (.Name x pos')) pos.line Z.X.env=pure false:=by rfl)
  (hf:Z.X.fn x=true∨Z.X.env.scope.names.lookup x=some .local:=by first|exact .inl rfl|exact .inr rfl):WS Z ρ O (.Assign [.Name x pos'] e pos) Ψ:=
 PS.weak (LO hN hi hx h hs hf) fun D σ H q=> ⟨q.1,fun v H' t O' p f r=>q.2.nx _ O' _ H' p ⟨(q.1.step f).rl.set r,(q.1.step f).fr⟩ f.kp⟩
theorem WL{op:mF}{ti:Xe}(i:Nat){pos':Pos}(ho:aG Z.X op ti)(hρ:ρ[i]?=some (some ta))(h:WE Z ρ O e fun tb O1=>RT Z.K ti ta tb O1 fun t O2=>Ψ.nx (ρ.set i (some t)) O2)(hN:Z.X.N.Nodup)(hi:Z.X.N[i]?=some x:=by rfl)(hx:Ol Z.X.env.scope x:=by first|exact ku rfl|exact k8 rfl)
  (hf:Z.X.fn x=true∨Z.X.env.scope.names.lookup x=some .local:=by first|exact .inl rfl|exact .inr rfl):WS Z ρ O (.AugAssign (.Name x pos') op e pos) Ψ:=
 PS.weak (VQ hN hi hx h ho hf) fun D σ H q=>by
  obtain⟨v,e1,r1⟩:=q.1.rl.2 i _ hρ
  exact⟨v,e1,q.1,fun w H1 tb O1 p f r=>p H1 v w _ f.ok (r1.kp f.kp q.1.ok) r fun z H2 t O2 p2 f2 r2=>q.2.nx _ O2 _ H2 p2 ⟨(q.1.step (f.trans f2)).rl.set r2,(q.1.step (f.trans f2)).fr⟩ (f.trans f2).kp⟩
theorem Ua{ea eb:List Stmt}(h:WT Z ρ O c fun k O1=>if k=true then DS Z ρ O1 ea Ψ else DS Z ρ O1 eb Ψ):WS Z ρ O (.If c ea eb pos) Ψ:=
 PS.weak (Ow h KQ KQ) fun D σ H q=> ⟨q.1,fun k H1 O1 p f=>by
  cases k with
  |true=>rw[if_pos rfl] at p ⊢;exact⟨ρ,O1,Ψ,p,q.1.step f,q.2.step f.kp⟩
  |false=>rw[if_neg cf] at p ⊢;exact⟨ρ,O1,Ψ,p,q.1.step f,q.2.step f.kp⟩⟩
theorem BY{ea eb:List Stmt}{k:Bool}(hc:EB Z ρ O c k)(h1:k=true→DS Z ρ O ea Ψ)(h2:k=false→DS Z ρ O eb Ψ):WS Z ρ O (.If c ea eb pos) Ψ:=Ua (hc _ (by
 cases k with
 |true=>rw[if_pos rfl];exact h1 rfl
 |false=>rw[if_neg cf];exact h2 rfl))
def tG(Z:Zx)(n:Nat)(ρ:List (Option T))(O:AG)(t:T)(ρ':List (Option T)):TG:=fun v σ H Q=>Asr Z ρ O σ H∧Rep Z.K O H v t∧∀σ',Asr Z ρ' O σ' H→(σ'.length=σ.length∧∀j,n≤j→σ'[j]?=σ[j]?)→Q σ' H
def WG(Z:Zx)(n:Nat)(ρ:List (Option T))(O:AG)(tg:Expr)(t:T)(ρ':List (Option T)):Prop:=PG Z.X tg (tG Z n ρ O t ρ')
theorem PG.weak{X:Cx}{e:Expr}{t t':TG}(h:PG X e t)(w:∀v σ H Q,t' v σ H Q→t v σ H Q):PG X e t':=fun pins s σ H v u Q I r q=>h pins s σ H v u Q I r (w v σ H Q q)
def bz(Z:Zx)(n:Nat)(tg:Expr):TG:=fun v σ H Q=>∃ρ O t ρ',WG Z n ρ O tg t ρ'∧tG Z n ρ O t ρ' v σ H Q
theorem Yb{n:Nat}{tg:Expr}:PG Z.X tg (bz Z n tg):=fun pins s σ H v u Q I r ⟨_,_,_,_,w,q⟩=>w pins s σ H v u Q I r q
theorem AU(i:Nat){n:Nat}(hN:Z.X.N.Nodup)(hn:i<n)(hi:Z.X.N[i]?=some x:=by rfl)(hx:Ol Z.X.env.scope x:=by first|exact ku rfl|exact k8 rfl)
  (hf:Z.X.fn x=true∨Z.X.env.scope.names.lookup x=some .local:=by first|exact .inl rfl|exact .inr rfl):WG Z n ρ O (.Name x pos) t (ρ.set i (some t)):=
 PG.weak (Ib hN hi hx hf) fun v σ H Q q=>q.2.2 _ ⟨q.1.rl.set q.2.1,q.1.fr⟩ ⟨by simp,fun j hj=>by rw[dz (by omega)]⟩
theorem BD(i j:Nat){n:Nat}{y:Str}{p1 p2:Pos}{k:Nat}(hc:Z.X.calm=true)(hN:Z.X.N.Nodup)(hni:i<n)(hnj:j<n)(hi:Z.X.N[i]?=some x:=by rfl)(hj:Z.X.N[j]?=some y:=by rfl)(hx:Ol Z.X.env.scope x:=by first|exact ku rfl|exact k8 rfl)(hy:Ol Z.X.env.scope y:=by first|exact ku rfl|exact k8 rfl)
  (hf:Z.X.fn x=true∨Z.X.env.scope.names.lookup x=some .local:=by first|exact .inl rfl|exact .inr rfl) (hf2:Z.X.fn y=true∨Z.X.env.scope.names.lookup y=some .local:=by first|exact .inl rfl|exact .inr rfl)
  (hs:(gM [.Name x p1,.Name y p2] Z.X.env).map (·.2)=assign (.Name x p1) Z.X.env::(gM [.Name y p2] Z.X.env).map (·.2):=by rfl) (hs2:(gM [.Name y p2] Z.X.env).map (·.2)=assign (.Name y p2) Z.X.env::(gM [] Z.X.env).map (·.2):=by rfl)
  (hl:(gM [.Name x p1,.Name y p2] Z.X.env).length=2:=by rfl) (hst:(gM [.Name x p1,.Name y p2] Z.X.env).findIdx? (·.1)=none:=by rfl):
  WG Z n ρ O (.Tuple [.Name x p1,.Name y p2] k pos) (.tup [ta,tb]) ((ρ.set i (some ta)).set j (some tb)):=
 PG.weak (VO hc (Jg (Ib hN hi hx hf) (Jg (Ib hN hj hy hf2) SC hs2) hs) hl hst) fun v σ H Q q=>by
  obtain⟨q1,q2,q3⟩:=q
  obtain⟨a,xs,rfl,h1,r⟩:=q2.tup_inv
  obtain⟨v,w,rfl,r1,r2⟩:=r.two_inv
  exact⟨a,_,rfl,.inl (.inl h1),rfl,v,_,rfl,w,_,rfl,rfl,q3 _ ⟨(q1.rl.set r1).set r2,q1.fr⟩ ⟨by simp,fun m hm=>by rw[dz (by omega),dz (by omega)]⟩⟩
theorem WM{n:Nat}{tg:Expr}(h:WE Z ρ O e fun t O'=>∃ρ',WG Z n ρ O' tg t ρ'∧Ψ.nx ρ' O')(hs:mQ [tg] e pos.line Z.X.env=pure false:=by rfl)(hw:mS [tg] e Z.X.env=pure none:=by rfl)
  (h1:(gM [tg] Z.X.env).map (·.2)=[assign tg Z.X.env]:=by rfl):WS Z ρ O (.Assign [tg] e pos) Ψ:=
 PS.weak (Ox h (Yb (n:=n)) hs hw h1) fun D σ H q=> ⟨q.1,fun v H' t O' ⟨ρ',wg,p⟩ f r=> ⟨ρ,O',t,ρ',wg,q.1.step f,r,fun σ' a _=>q.2.nx _ O' _ H' p a f.kp⟩⟩
theorem Dx{o ix:Expr}{px:Pos}(h:WE Z ρ O e fun t O1=>WE Z ρ O1 o fun u O2=>∃a,u=.raw (.ref a)∧WE Z ρ O2 ix fun w O3=>∃ts k m,w=.int k∧O3 a=some ts∧Nw ts.length k=some m∧Ψ.nx ρ (Aa O3 a (ts.set m t)))
  (ha:∀v,assign (.Subscript o ix px) Z.X.env v=(do
   let ov←holding [v] (eval o Z.X.env)
   let iv←holding [v,ov] (eval ix Z.X.env)
   standAt px
   holding [v,ov,iv] (setItem ov iv v)
   release [v,ov,iv] []):=by intro _;rfl)
  (hs:mQ [.Subscript o ix px] e pos.line Z.X.env=pure false:=by rfl) (hw:mS [.Subscript o ix px] e Z.X.env=pure none:=by rfl)
  (h1:(gM [.Subscript o ix px] Z.X.env).map (·.2)=[assign (.Subscript o ix px) Z.X.env]:=by rfl):WS Z ρ O (.Assign [.Subscript o ix px] e pos) Ψ:=by
 refine PS.weak (Ox h (VP (Bv (ρ:=ρ)) (Bv (ρ:=ρ)) PL ha) hs hw h1) fun D σ H q=> ⟨q.1,fun v H1 t O1 p1 f1 r1=>?_⟩
 refine⟨O1,_,p1,q.1.step f1,?_⟩
 rintro vo H2 _ O2 ⟨a,rfl,p2⟩ f2 r2
 refine⟨O2,_,p2,q.1.step (f1.trans f2),?_⟩
 rintro vi H3 _ O3 ⟨ts,k,m,rfl,ho,hm,p3⟩ f3 r3
 cases r2.raw_inv
 obtain⟨xs,hx,rx⟩:=f3.ok a ts ho
 have r1':=(r1.kp f2.kp f1.ok).kp f3.kp f2.ok
 have f:=f1.trans (f2.trans (f3.trans (Frm.put f3.ok ho (rx.set r1' m))))
 exact⟨a,xs,k,m,rfl,r3.int_inv,hx,by rw[rx.length];exact hm,q.2.nx ρ _ σ _ p3 (q.1.step f) f.kp⟩
def OO(K:a8)(J:It)(O:AG)(H:Hp)(ts:List T):Prop:=∀O' H',Kp O H O' H'→OwnOk K O' H'→
 (∀i,i<ts.length→J.go i H')∧(∀i x H'',J.yld i H' x H''→∀t,ts[i]?=some t→Frm K O' H' O' H''∧Rep K O' H'' x t)∧∀i,ts.length≤i→J.stop i H'
def WI(Z:Zx)(ρ:List (Option T))(O:AG)(tg iter:Expr)(Φ:Lv):Prop:=PI Z.X tg iter fun σ H R=>Asr Z ρ O σ H∧∀J H' ts O',Φ ts O'→Frm Z.K O H O' H'→OO Z.K J O' H' ts→R J H'
theorem PI.weak{X:Cx}{tg e:Expr}{t t':TI}(h:PI X tg e t)(w:∀σ H R,t' σ H R→t σ H R):PI X tg e t':=fun pins s σ H R I q=>h pins s σ H R I (w σ H R q)
theorem OP{K:a8}{a:Addr}{xs:List V}(ok:OwnOk K O H)(h:H a=some (.lst xs))(n:O a=none)(r:Reps K O H xs ts):OO K (aL K a) O H ts:=fun O' H' k ok'=>by
 have h':=(k.lst h n).1
 have r':=r.kp k ok
 refine⟨fun i hi=>?_,fun i x H'' y t e=>?_,fun i hi=> ⟨xs,.inl (.inl h'),by rw[r.length];exact hi⟩⟩
 ·obtain⟨v,e,_⟩:=r'.get (i:=i) (t:=ts[i]) (by simp[hi])
  exact⟨xs,v,.inl (.inl h'),e⟩
 ·obtain⟨rfl,y⟩:=y
  obtain⟨v,e',q⟩:=r'.get e
  have:=y xs (.inl (.inl h'))
  rw[e'] at this;cases this
  exact⟨.refl ok',q⟩
theorem QL{K:a8}{a:Addr}{xs:List V}(ok:OwnOk K O H)(h:H a=some (.tup xs))(r:Reps K O H xs ts):OO K (aM K a) O H ts:=fun O' H' k ok'=>by
 have h':HU K H' a xs:=.inl (.inl (k.oth ok h fun _ z=>by cases z))
 have r':=r.kp k ok
 refine⟨fun i hi=>?_,fun i x H'' y t e=>?_,fun i hi=> ⟨xs,h',by rw[r.length];exact hi⟩⟩
 ·obtain⟨v,e,_⟩:=r'.get (i:=i) (t:=ts[i]) (by simp[hi])
  exact⟨xs,v,h',e⟩
 ·obtain⟨rfl,y⟩:=y
  obtain⟨v,e',q⟩:=r'.get e
  have:=y xs h'
  rw[e'] at this;cases this
  exact⟨.refl ok',q⟩
def JE(lo:Int)(n:Nat):List T:=(dN n).map fun(i:Nat)=>T.int (lo+i)
theorem Ad{lo:Int}{n:Nat}:(JE lo n).length=n:=by simp[JE]
theorem Ao{lo:Int}{n i:Nat}(h:(JE lo n)[i]?=some t):i<n∧t=.int (lo+i):=by
 unfold JE at h
 rw[cg] at h
 by_cases hi:i<n
 ·rw[kB hi] at h
  cases h
  exact⟨hi,rfl⟩
 ·rw[gi (by simpa using hi)] at h
  cases h
theorem KR{K:a8}{lo:Int}{n:Nat}:OO K (Xj lo n) O H (JE lo n):=fun O' H' k ok'=>by
 refine⟨fun i hi=>by rwa[Ad] at hi,fun i x H'' y t e=>?_,fun i hi=>by rwa[Ad] at hi⟩
 obtain⟨rfl,rfl⟩:=y
 obtain⟨_,rfl⟩:=Ao e
 exact⟨.refl ok',.int _⟩
theorem NC{tg:Expr}{Φ:Lv}(h:WE Z ρ O e fun t O'=>∃ts,t=.lst ts∧Φ ts O'):WI Z ρ O tg e Φ:=PI.weak (SD h) fun σ H R q=> ⟨q.1,by
 rintro v H' _ O' ⟨ts,rfl,p⟩ f r
 obtain⟨a,xs,rfl,h1,n,r⟩:=r.lst_inv
 exact⟨a,rfl,⟨xs,.inl (.inl h1)⟩,q.2 _ H' ts O' p f (OP f.ok h1 n r)⟩⟩
theorem WN{tg:Expr}{Φ:Lv}(h:WE Z ρ O e fun t O'=>∃ts,t=.tup ts∧Φ ts O'):WI Z ρ O tg e Φ:=PI.weak (VT h) fun σ H R q=> ⟨q.1,by
 rintro v H' _ O' ⟨ts,rfl,p⟩ f r
 obtain⟨a,xs,rfl,h1,r⟩:=r.tup_inv
 exact⟨a,rfl,⟨xs,.inl (.inl h1)⟩,q.2 _ H' ts O' p f (QL f.ok h1 r)⟩⟩
theorem OQ{tg:Expr}{Φ:Lv}(hm:Z.X.mg "range" =none)(h:WA Z ρ O [a] fun ts O'=>∃j:Int,ts=[.int j]∧-(2^62)≤j∧j<2^62∧Φ (JE 0 j.toNat) O')(hg:Gl Z.X "range":=by rfl)(hs:cb [a] Z.X.env=[(false,eval a Z.X.env)]:=by rfl):WI Z ρ O tg (.Call (.Name "range" p) [a] [] pos) Φ:=
 PI.weak (Nm hg hm h hs) fun σ H R q=> ⟨q.1,by
  rintro vs H' _ O' ⟨j,rfl,h1,h2,p⟩ f r
  obtain⟨v,rfl,r'⟩:=r.one_inv
  exact⟨j,by rw[r'.int_inv],h1,h2,q.2 _ H' _ O' p f KR⟩⟩
theorem OR{tg:Expr}{Φ:Lv}(hm:Z.X.mg "range" =none)(h:WA Z ρ O [a,b] fun ts O'=>∃i j:Int,ts=[.int i,.int j]∧(-(2^62)≤i∧i<2^62∧-(2^62)≤j∧j<2^62)∧Φ (JE i (j-i).toNat) O')(hg:Gl Z.X "range":=by rfl)(hs:cb [a,b] Z.X.env=[(false,eval a Z.X.env),(false,eval b Z.X.env)]:=by rfl)(hs2:cb [b] Z.X.env=[(false,eval b Z.X.env)]:=by rfl):WI Z ρ O tg (.Call (.Name "range" p) [a,b] [] pos) Φ:=
 PI.weak (Nn hg hm h hs hs2) fun σ H R q=> ⟨q.1,by
  rintro vs H' _ O' ⟨i,j,rfl,h1,p⟩ f r
  obtain⟨v,w,rfl,r1,r2⟩:=r.two_inv
  exact⟨i,j,by rw[r1.int_inv,r2.int_inv],h1,q.2 _ H' _ O' p f KR⟩⟩
def EI(Z:Zx)(ρ:List (Option T))(O:AG)(tg iter:Expr)(ts:List T):Prop:=∀Φ:Lv,Φ ts O→WI Z ρ O tg iter Φ
theorem Av{tg:Expr}(h:ET Z ρ O e (.lst ts)):EI Z ρ O tg e ts:=fun Φ p=>NC (h _ ⟨ts,rfl,p⟩)
theorem Cz{tg:Expr}(h:ET Z ρ O e (.tup ts)):EI Z ρ O tg e ts:=fun Φ p=>WN (h _ ⟨ts,rfl,p⟩)
theorem Ap{tg:Expr}{k:Int}(hm:Z.X.mg "range" =none)(h:ET Z ρ O a (.int k))(h1: -(2^62)≤k∧k<2^62)(hg:Gl Z.X "range":=by rfl)(hs:cb [a] Z.X.env=[(false,eval a Z.X.env)]:=by rfl):EI Z ρ O tg (.Call (.Name "range" p) [a] [] pos) (JE 0 k.toNat):=fun Φ q=>OQ hm (AL h AE hs _ ⟨k,rfl,h1.1,h1.2,q⟩) hg hs
theorem Ci{tg:Expr}{k l:Int}(hm:Z.X.mg "range" =none)(h:ET Z ρ O a (.int k))(h2:ET Z ρ O b (.int l))(h1: -(2^62)≤k∧k<2^62∧-(2^62)≤l∧l<2^62)(hg:Gl Z.X "range":=by rfl)(hs:cb [a,b] Z.X.env=[(false,eval a Z.X.env),(false,eval b Z.X.env)]:=by rfl)(hs2:cb [b] Z.X.env=[(false,eval b Z.X.env)]:=by rfl):EI Z ρ O tg (.Call (.Name "range" p) [a,b] [] pos) (JE k (l-k).toNat):=
 fun Φ q=>OR hm (AL h (AL h2 AE hs2) (by rw[hs,hs2]) _ ⟨k,l,rfl,h1,q⟩) hg hs hs2
theorem BF{tg iter:Expr}{body:List Stmt}(hp:kP (model Z.X.prog Z.X.w) Z.X.A Z.X.env Z.X.xe)(hc:Z.X.calm=true)
  (h:WI Z ρ O tg iter fun ts O1=>∃I:Nat→Fv,I 0 ρ O1∧(∀i t ρ' O',ts[i]?=some t→I i ρ' O'→∃ρ2,WG Z Z.X.N.length ρ' O' tg t ρ2∧DS Z ρ2 O' body {nx:=I (i+1),rt:=Ψ.rt,bk:=Ψ.nx,ct:=I (i+1)})∧∀ρ' O',I ts.length ρ' O'→Ψ.nx ρ' O')
  (hs:∀x,fP iter Z.X.env x=pure x:=by intro _;rfl):WS Z ρ O (.For tg iter body [] pos) Ψ:=by
 refine PS.weak (VU hp hc h (Yb (n:=Z.X.N.length)) KQ hs) fun D σ H q=> ⟨q.1,?_⟩
 rintro J H1 ts O1 ⟨I,i0,step,fin⟩ f1 it
 refine⟨fun i m σ' H'=>m=ts.length-i∧i≤ts.length∧∃ρ' O',I i ρ' O'∧Asr Z ρ' O' σ' H'∧Kp O1 H1 O' H',⟨ts.length,by simp,eS _,ρ,O1,i0,q.1.step f1,.refl⟩,?_⟩
 rintro i m σ2 H2 ⟨rfl,hi,ρ2,O2,i2,a2,k2⟩
 obtain⟨g1,g2,g3⟩:=it O2 H2 k2 a2.ok
 by_cases hlt:i<ts.length
 ·refine .inr ⟨g1 i hlt,fun σ' H'=>∃ρ' O',I (i+1) ρ' O'∧Asr Z ρ' O' σ' H'∧Kp O1 H1 O' H',fun σ' H' w=> ⟨_,by omega,rfl,by omega,w⟩,fun x H3 y=>?_⟩
  obtain⟨f3,r3⟩:=g2 i x H3 y ts[i] (by simp[hlt])
  obtain⟨ρ3,wg,wb⟩:=step i ts[i] ρ2 O2 (by simp[hlt]) i2
  refine⟨ρ2,O2,_,ρ3,wg,a2.step f3,r3,fun σ3 a3 _=> ⟨ρ3,O2,_,wb,a3,?_⟩⟩
  have kk:=(k2.trans f3.kp)
  exact⟨fun ρ' O' σ' H' w a k=> ⟨ρ',O',w,a,kk.trans k⟩,q.2.rt,fun ρ' O' σ' H' w a k=>q.2.nx ρ' O' σ' H' w a (f1.kp.trans (kk.trans k)),fun ρ' O' σ' H' w a k=> ⟨ρ',O',w,a,kk.trans k⟩⟩
 ·have:i=ts.length:=by omega
  subst this
  exact .inl ⟨g3 _ (cW _),q.2.nx ρ2 O2 σ2 H2 (fin ρ2 O2 i2) a2 (f1.kp.trans k2)⟩
end
def zc(X:Cx)(Oe:AG)(He:Hp):Zx:=⟨X,Oe,He,fun _ _=>False⟩
def Ha(nc:List Str)(ρ:List (Option T))(cap:List (Str×Nat)):List (Option T):=cY nc.length none++cap.map fun q=> (ρ[q.2]?).join
def Zu(Z:Zx)(ρ:List (Option T))(O:AG)(ifs:List Expr)(Φ:JB):Prop:=Vn Z.X ifs (XW Z ρ O Φ)
theorem Ax{O:AG}{p:Addr}{ts:List T}(h:O p=none):CF (Aa O p ts) p=O:=by
 funext b
 by_cases hb:b=p
 ·rw[hb,Cv,h]
 ·rw[DQ hb,AO hb]
theorem BJ{O:AG}{p a:Addr}{ts us:List T}(h:a≠p):Aa (Aa O p ts) a us=Aa (Aa O a us) p ts:=by
 funext b
 unfold Aa
 by_cases h1:b=a
 ·subst h1;rw[if_pos rfl,if_neg h,if_pos rfl]
 ·rw[if_neg h1,if_neg h1]
section
variable{Z:Zx}{ρ:List (Option T)}{O:AG}{elt tg iter:Expr}{ifs:List Expr}{csc:Scope}{nc:List Str}{cap:List (Str×Nat)}{Φ:BL}{pos:Pos}
theorem Dc{Φ:JB}(h:Φ true O):Zu Z ρ O [] Φ:=fun pins s σ H Q I q=>SU pins s σ H Q I (q.2 true H O h q.1.refl)
theorem JF{Φ:JB}{c:Expr}(h:WT Z ρ O c Φ):Zu Z ρ O [c] Φ:=SV h
theorem Yc{K:a8}{H:Hp}{σ:St}(r:Rl K O H σ ρ):Rl K O H (HY nc σ cap) (Ha nc ρ cap):=by
 refine⟨by simp[CC,Ha],fun i t e=>?_⟩
 unfold Ha at e
 have hi:nc.length≤i:=by
  by_cases hi:i<nc.length
  ·rw[dM (by simpa using hi),fm] at e
   split at e<;>cases e
  ·omega
 rw[dB (by simpa using hi),cg] at e
 simp only[e9] at e
 cases hc:cap[i-nc.length]? with
 |none=>rw[hc] at e;cases e
 |some q=>
  rw[hc] at e
  have e:(ρ[q.2]?).join=some t:=dQ.inj e
  have e':ρ[q.2]?=some (some t):=by
   cases h:ρ[q.2]? with
   |none=>rw[h] at e;cases e
   |some w=>rw[h] at e;exact congrArg some e
  obtain⟨v,h1,h2⟩:=r.2 q.2 t e'
  refine⟨v,?_,h2⟩
  show(cY nc.length (none:Option V)++CC σ cap)[i]?=some (some v)
  rw[dB (by simpa using hi)]
  simp only[e9]
  unfold CC
  rw[cg,hc]
  show some (σ[q.2]?).join=_
  rw[h1]
  rfl
theorem JG{X X':Cx}{Oe:AG}{He:Hp}{Xi Xi':Value→AG→Prop}{σ:St}{H:Hp}(hK:X'.K=X.K)(a:Asr ⟨X,Oe,He,Xi⟩ ρ O σ H):Asr ⟨X',Oe,He,Xi'⟩ ρ O σ H:=by
 obtain⟨r,f⟩:=a
 refine⟨?_,?_⟩
 ·show Rl X'.K O H σ ρ
  rw[hK];exact r
 ·show Frm X'.K Oe He O H
  rw[hK];exact f
def gA(Z:Zx)(csc:Scope)(nc:List Str)(cap:List (Str×Nat))(tg:Expr):TG:=fun v σ H Q=>∃Oe He ρ O t ρ',(∀X',LcCx Z.X csc (Ak nc cap) X'→WG (zc X' Oe He) nc.length ρ O tg t ρ')∧tG (zc Z.X Oe He) nc.length ρ O t ρ' v σ H Q
def ae(Z:Zx)(csc:Scope)(nc:List Str)(cap:List (Str×Nat))(ifs:List Expr):TT:=fun σ H Q=>∃Oe He ρ O Φ,(∀X',LcCx Z.X csc (Ak nc cap) X'→Zu (zc X' Oe He) ρ O ifs Φ)∧XW (zc Z.X Oe He) ρ O Φ σ H Q
def eA(Z:Zx)(csc:Scope)(nc:List Str)(cap:List (Str×Nat))(e:Expr):TE:=fun σ H Q=>∃Oe He ρ O Φ,(∀X',LcCx Z.X csc (Ak nc cap) X'→WE (zc X' Oe He) ρ O e Φ)∧tW (zc Z.X Oe He) ρ O Φ σ H Q
theorem WO{X X':Cx}{N':List Str}(h:LcCx X csc N' X'):X'.K=X.K:=by
 obtain⟨_,_,_,_,rfl⟩:=h
 rfl
theorem WQ:∀X',LcCx Z.X csc (Ak nc cap) X'→PG X' tg (gA Z csc nc cap tg):=by
 rintro X' is pins s σ H v u Q I r ⟨Oe,He,ρ,O,t,ρ',w,a,rp,k⟩
 refine w X' is pins s σ H v u Q I r ⟨JG (WO is) a,?_,fun σ' a' h=>k σ' (JG (WO is).symm a') h⟩
 show Rep X'.K O H v t
 rw[WO is];exact rp
theorem QM:∀X',LcCx Z.X csc (Ak nc cap) X'→Vn X' ifs (ae Z csc nc cap ifs):=by
 rintro X' is pins s σ H Q I ⟨Oe,He,ρ,O,Φ,w,a,k⟩
 refine w X' is pins s σ H Q I ⟨JG (WO is) a,?_⟩
 intro b H' O' p f
 refine k b H' O' p ?_
 have f:Frm X'.K O H O' H':=f
 rw[WO is] at f;exact f
theorem WR:∀X',LcCx Z.X csc (Ak nc cap) X'→PE X' elt (eA Z csc nc cap elt):=by
 rintro X' is pins s σ H Q I ⟨Oe,He,ρ,O,Φ,w,a,k⟩
 refine w X' is pins s σ H Q I ⟨JG (WO is) a,?_⟩
 intro v H' t O' p f r
 have f:Frm X'.K O H O' H':=f
 have r:Rep X'.K O' H' v t:=r
 rw[WO is] at f r
 exact k v H' t O' p f r
def Sn(Z:Zx)(ρ:List (Option T))(elt tg:Expr)(ifs:List Expr)(csc:Scope)(nc:List Str)(cap:List (Str×Nat))(F:List T→AG→Prop)(ts:List T)(O1:AG):Prop:=
 ∃I:Nat→List T→AG→Prop,I 0 [] O1∧(∀i t acc O' p,ts[i]?=some t→I i acc O'→O' p=none→∃ρ4,∀X' Oe He,LcCx Z.X csc (Ak nc cap) X'→WG (zc X' Oe He) nc.length (Ha nc ρ cap) (Aa O' p acc) tg t ρ4∧
   Zu (zc X' Oe He) ρ4 (Aa O' p acc) ifs fun b O2=>if b=true then∀X' Oe He,LcCx Z.X csc (Ak nc cap) X'→WE (zc X' Oe He) ρ4 O2 elt fun y O3=>∃O4,O3=Aa O4 p acc∧O4 p=none∧acc.length<sizeLine∧I (i+1) (acc++[y]) O4
    else∃O4,O2=Aa O4 p acc∧O4 p=none∧I (i+1) acc O4)∧∀acc O',I ts.length acc O'→F acc O'
theorem QN{F:List T→AG→Prop}{σ:St}{H:Hp}{Q:VK}(a:Asr Z ρ O σ H)(h:WI Z ρ O tg iter (Sn Z ρ elt tg ifs csc nc cap F))
  (fin:∀acc O' p H',F acc O'→O' p=none→Frm Z.K O H (Aa O' p acc) H'→(∀b us,O b=some us→b≠p)→Q (.ref p) H'):
  Zt (fun σ H R=>Asr Z ρ O σ H∧∀J H' ts O',Sn Z ρ elt tg ifs csc nc cap F ts O'→Frm Z.K O H O' H'→OO Z.K J O' H' ts→R J H') nc cap (gA Z csc nc cap tg) (ae Z csc nc cap ifs) (eA Z csc nc cap elt) σ H Q:=by
 refine⟨a,?_⟩
 rintro J H1 ts O1 ⟨I,i0,step,done⟩ f1 it p hp
 have np:O1 p=none:=f1.ok.none_of hp
 have nb:∀b us,O1 b=some us→b≠p:=fun b us e z=>by rw[z,np] at e;cases e
 have fn:=Frm.newO (ts:=[]) (xs:=[]) f1.ok hp .nil
 refine⟨fun i m H2=>m=ts.length-i∧i≤ts.length∧∃acc O',I i acc O'∧O' p=none∧Frm Z.K O1 H1 (Aa O' p acc) H2,⟨ts.length,by simp,eS _,[],O1,i0,np,fn⟩,?_⟩
 rintro i m H2 ⟨rfl,hi,acc,O2,i2,n2,f2⟩
 obtain⟨g1,g2,g3⟩:=it _ H2 f2.kp f2.ok
 by_cases hlt:i<ts.length
 ·refine .inr ⟨g1 i hlt,fun H'=>∃acc O',I (i+1) acc O'∧O' p=none∧Frm Z.K O1 H1 (Aa O' p acc) H',fun H' w=> ⟨_,by omega,rfl,by omega,w⟩,fun x H3 y=>?_⟩
  obtain⟨f3,r3⟩:=g2 i x H3 y ts[i] (by simp[hlt])
  obtain⟨ρ4,st⟩:=step i ts[i] acc O2 p (by simp[hlt]) i2 n2
  have a3:Asr (zc Z.X (Aa O2 p acc) H3) (Ha nc ρ cap) (Aa O2 p acc) (HY nc σ cap) H3:=⟨Yc ((a.rl.kp f1.kp a.ok).kp (f2.kp.trans f3.kp) f1.ok),.refl f3.ok⟩
  refine⟨Aa O2 p acc,H3,Ha nc ρ cap,Aa O2 p acc,ts[i],ρ4,fun X' is=> (st X' _ _ is).1,a3,r3,fun σ4 a4 hag=> ⟨?_,?_⟩⟩
  ·refine⟨σ4.take nc.length,?_,?_⟩
   ·rw[dI,hag.1]
    simp
   ·have e1:σ4.drop nc.length=CC σ cap:=by
     apply fv
     intro m
     rw[fD,hag.2 _ (by omega)]
     show(cY nc.length (none:Option V)++CC σ cap)[nc.length+m]?=_
     rw[dB (by simp)]
     simp
    rw[←e1,fM]
  ·refine⟨Aa O2 p acc,H3,ρ4,Aa O2 p acc,_,fun X' is=> (st X' _ _ is).2,a4,?_⟩
   intro b H5 O5 q5 f5
   cases b with
   |false=>
    rw[if_neg cf] at q5 ⊢
    obtain⟨O4,rfl,n4,i4⟩:=q5
    exact⟨acc,O4,i4,n4,f2.trans (f3.trans f5)⟩
   |true=>
    rw[if_pos rfl] at q5 ⊢
    refine⟨Aa O2 p acc,H3,ρ4,O5,_,fun X' is=>q5 X' _ _ is,a4.step f5,?_⟩
    rintro y H6 t6 O6 ⟨O4,rfl,n4,hlen,i4⟩ f6 r6
    obtain⟨ys,hys,rys⟩:=f6.ok p acc AD
    refine⟨ys,hys,by rw[rys.length];exact hlen,acc++[t6],O4,i4,n4,?_⟩
    have fp:=Frm.put (a:=p) f6.ok AD (rys.append (.one r6))
    rw[BC] at fp
    exact f2.trans (f3.trans (f5.trans (f6.trans fp)))
 ·have:i=ts.length:=by omega
  subst this
  refine .inl ⟨g3 _ (cW _),fin acc O2 p H2 (done acc O2 i2) n2 (f1.trans f2) fun b us e=>?_⟩
  obtain⟨us',e'⟩:=f1.own b us e
  exact nb b us' e'
theorem Ub{σ:St}{H:Hp}{Q:VK}(h:WI Z ρ O tg iter (Sn Z ρ elt tg ifs csc nc cap fun acc O'=>Φ (.lst acc) O'))(q:tW Z ρ O Φ σ H Q):
  Zt (fun σ H R=>Asr Z ρ O σ H∧∀J H' ts O',Sn Z ρ elt tg ifs csc nc cap (fun acc O'=>Φ (.lst acc) O') ts O'→Frm Z.K O H O' H'→OO Z.K J O' H' ts→R J H') nc cap (gA Z csc nc cap tg) (ae Z csc nc cap ifs) (eA Z csc nc cap elt) σ H Q:=by
 refine QN q.1 h fun acc O' p H' p1 n f nb=>q.2 _ H' _ O' p1 ?_ ?_
 ·have e:=Ax (ts:=acc) n
  refine⟨fun b o e1 e2=>?_,fun b us e1=>?_,?_⟩
  ·have:=f.kp.trans (CH (a:=p)) b o e1 e2
   rw[e] at this;exact this
  ·obtain⟨us',e2⟩:=f.own b us e1
   rw[AO (nb b us e1)] at e2
   exact⟨us',e2⟩
  ·have:=f.ok.drop (a:=p)
   rw[e] at this;exact this
 ·have:=f.ok.rep (a:=p) AD
  rw[Ax n] at this
  exact this
theorem II(hc:Z.X.calm=true)(ok:LcOk Z.X csc nc cap)(h:WI Z ρ O tg iter (Sn Z ρ elt tg ifs csc nc cap fun acc O'=>Φ (.lst acc) O'))
  (hs:∀x,fP iter Z.X.env x=pure x:=by intro _;rfl):WE Z ρ O (.ListComp elt [⟨tg,iter,ifs,0⟩] csc pos) Φ:=
 PE.weak (YI hc ok h WQ QM WR hs) fun σ H Q q=>Ub h q
theorem QO{i:Nat}{x:Str}{px spos:Pos}{Ψ:Es}(hsw:ju (.ListComp elt [⟨tg,iter,ifs,0⟩] csc pos) (some (.Name x px)) spos.line Z.X.env=pure true)(hN:Z.X.N.Nodup)(hc:Z.X.calm=true)(ok:LcOk Z.X csc nc cap)
  (h:WI Z ρ O tg iter (Sn Z ρ elt tg ifs csc nc cap fun acc O'=>Ψ.nx (ρ.set i (some (.lst acc))) O')) (hx:Z.X.N[i]?=some x:=by rfl) (hk:Z.X.env.scope.names.lookup x=some .local:=by rfl)
  (hs:∀x,fP iter Z.X.env x=pure x:=by intro _;rfl):WS Z ρ O (.Assign [.Name x px] (.ListComp elt [⟨tg,iter,ifs,0⟩] csc pos) spos) Ψ:=
 PS.weak (Jp hN hx hk hsw hc ok h WQ QM WR hs) fun D σ H q=>Ub (Φ:=fun t O'=>Ψ.nx (ρ.set i (some t)) O') h ⟨q.1,fun v H' t O' p f r=>q.2.nx _ O' _ H' p ⟨(q.1.step f).rl.set r,(q.1.step f).fr⟩ f.kp⟩
end
def af:T→String
 | .non=> "NoneType" | .bl _=> "bool" | .int _=> "int" | .str _=> "str" | .tup _=> "tuple" | .lst _=> "list" | .frz _=> "list" | .dct=> "dict" | .raw _=> "object"
def Fd:T→Bool
 | .raw _=>true
 |_=>false
def Uc:T→Bool
 | .int _=>true
 | .bl _=>true
 |_=>false
def QP:T→Bool
 | .bl _=>true
 |_=>false
def So(K:a8)(c:String)(g:T→Bool):Prop:=∀t,Fd t=false→du K (.type (af t)) (.type c)=some (g t)
section
variable{K:a8}{O:AG}{H:Hp}{v:V}{t:T}
theorem Rep.ty(r:Rep K O H v t)(hp:Fd t=false):TyOf K H v (.type (af t)):=by
 cases r with
 |non=>exact .non
 |bl b=>exact .bl b
 |int i=>exact .int i
 |str i=>exact .str i
 |tup h=>exact .tup h
 |lst h=>exact .lst h
 |frz h=>exact .frz h
 |dct h=>exact .dK h
 |raw v=>cases hp
theorem cA(K:a8):du K (.type "NoneType") (.type "int")=some false:=by kernel_rfl
theorem cB(K:a8):du K (.type "bool") (.type "int")=some true:=by kernel_rfl
theorem cC(K:a8):du K (.type "int") (.type "int")=some true:=by rfl
theorem cD(K:a8):du K (.type "str") (.type "int")=some false:=by kernel_rfl
theorem cE(K:a8):du K (.type "tuple") (.type "int")=some false:=by kernel_rfl
theorem bL(K:a8):du K (.type "list") (.type "int")=some false:=by kernel_rfl
theorem cF(K:a8):du K (.type "dict") (.type "int")=some false:=by kernel_rfl
theorem ND:So K "int" Uc:=fun t h=>by
 cases t with
 |non=>exact cA K
 |bl b=>exact cB K
 |int i=>exact cC K
 |str i=>exact cD K
 |tup i=>exact cE K
 |lst i=>exact bL K
 |frz i=>exact bL K
 |dct=>exact cF K
 |raw v=>cases h
theorem cG(K:a8):du K (.type "NoneType") (.type "bool")=some false:=by kernel_rfl
theorem cH(K:a8):du K (.type "bool") (.type "bool")=some true:=by rfl
theorem cI(K:a8):du K (.type "int") (.type "bool")=some false:=by kernel_rfl
theorem cJ(K:a8):du K (.type "str") (.type "bool")=some false:=by kernel_rfl
theorem cK(K:a8):du K (.type "tuple") (.type "bool")=some false:=by kernel_rfl
theorem bM(K:a8):du K (.type "list") (.type "bool")=some false:=by kernel_rfl
theorem cL(K:a8):du K (.type "dict") (.type "bool")=some false:=by kernel_rfl
theorem KS:So K "bool" QP:=fun t h=>by
 cases t with
 |non=>exact cG K
 |bl b=>exact cH K
 |int i=>exact cI K
 |str i=>exact cJ K
 |tup i=>exact cK K
 |lst i=>exact bM K
 |frz i=>exact bM K
 |dct=>exact cL K
 |raw v=>cases h
theorem WU{c:String}{g:T→Bool}(hk:So K c g)(hp:Fd t=false):CP K (YJ K) [t,.raw (.ty c)] O (.bl (g t)):=fun Φ p H vs Q ok r q=>by
 obtain⟨v,w,rfl,r1,r2⟩:=r.two_inv
 cases r2.raw_inv
 exact⟨v,.ty c,.type (af t),.type c,g t,rfl,rfl,.inl (r1.ty hp),hk t hp,q _ H _ O p (.refl ok) (.bl _)⟩
theorem WV:dY "int" =some (.type "int"):=by decide+kernel
theorem Ud:dY "bool" =some (.type "bool"):=by decide+kernel
theorem QQ:dY "tuple" =some (.type "tuple"):=by decide+kernel
theorem QR:dY "list" =some (.type "list"):=by decide+kernel
theorem ag:dY "set" =some (.type "set"):=by decide+kernel
theorem WX:dY "range" =some (.type "range"):=by decide+kernel
theorem Hb:dY "isinstance" =some (.builtin "isinstance"):=by decide+kernel
theorem Yd:dY "max" =some (.builtin "max"):=by decide+kernel
theorem WY:dY "min" =some (.builtin "min"):=by decide+kernel
theorem Ye:dY "len" =some (.builtin "len"):=by decide+kernel
theorem JH:dY "sorted" =some (.builtin "sorted"):=by decide+kernel
end
section
variable{Z:Zx}{ρ:List (Option T)}{O:AG}{e a b c:Expr}{es:List Expr}{Φ:BL}{pos p:Pos}{t ta tb:T}{ts us:List T}{i j:Int}{x:Str}{lo hi:Expr}
theorem JI{cn:String}{g:T→Bool}(mI:Z.X.mg "isinstance" =none)(mC:Z.X.mg x=none)(bC:dY x=some (.type cn))(hk:So Z.K cn g)(h:ET Z ρ O e t)(hp:Fd t=false){p1:Pos}(hgi:Gl Z.X "isinstance":=by rfl)(hgc:Gl Z.X x:=by rfl)
  (hn:x≠"__name__":=by decide) (hd:(x==("__debug__" :Str))=false:=by decide)
  (he:cb [e,.Name x p1] Z.X.env=(false,eval e Z.X.env)::cb [.Name x p1] Z.X.env:=by rfl):ET Z ρ O (.Call (.Name "isinstance" p) [e,.Name x p1] [] pos) (.bl (g t)):=
 BI BH mI Hb (AL h (AL (YV mC bC hgc hn hd) AE) he) (WU hk hp) hgi (by decide) (by decide) he
theorem NF{l:Addr}(m:Z.X.mg "len" =none)(h:ET Z ρ O e (.raw (.ref l)))(ho:O l=some ts)(hg:Gl Z.X "len":=by rfl)(he:cb [e] Z.X.env=(false,eval e Z.X.env)::cb [] Z.X.env:=by rfl):ET Z ρ O (.Call (.Name "len" p) [e] [] pos) (.int ts.length):=
 BI EK m Ye (AL h AE he) (fun Φ q H vs Q ok r k=>by
  obtain⟨v,rfl,r1⟩:=r.one_inv
  cases r1.raw_inv
  obtain⟨xs,h1,r1⟩:=ok l ts ho
  refine⟨l,xs,rfl,.inl (.inl (.inl h1)),?_⟩
  rw[r1.length]
  exact k _ H _ O q (.refl ok) (.int _)) hg (by decide) (by decide) he
theorem NG(m:Z.X.mg "min" =none)(hc:Z.X.calm=true)(h:ET Z ρ O a (.int i))(h2:ET Z ρ O b (.int j))(hg:Gl Z.X "min":=by rfl)(he:cb [a,b] Z.X.env=(false,eval a Z.X.env)::cb [b] Z.X.env:=by rfl)(he2:cb [b] Z.X.env=(false,eval b Z.X.env)::cb [] Z.X.env:=by rfl)(hpl:(fY pos (cb [b] Z.X.env)).any (·.1)=false:=by rfl):ET Z ρ O (.Call (.Name "min" p) [a,b] [] pos) (.int (min i j)):=
 BI (Nr hc) m WY (AL h (AL h2 AE he2) he) (fun Φ q H vs Q ok r k=>by
  obtain⟨v,w,rfl,r1,r2⟩:=r.two_inv
  cases r1.int_inv;cases r2.int_inv
  refine⟨i,j,rfl,?_⟩
  have:(if j<i then j else i)=min i j:=by split<;>omega
  rw[this]
  exact k _ H _ O q (.refl ok) (.int _)) hg (by decide) (by decide) he hpl
theorem JJ(m:Z.X.mg "max" =none)(hc:Z.X.calm=true)(h:ET Z ρ O a (.int i))(h2:ET Z ρ O b (.int j))(hg:Gl Z.X "max":=by rfl)(he:cb [a,b] Z.X.env=(false,eval a Z.X.env)::cb [b] Z.X.env:=by rfl)(he2:cb [b] Z.X.env=(false,eval b Z.X.env)::cb [] Z.X.env:=by rfl)(hpl:(fY pos (cb [b] Z.X.env)).any (·.1)=false:=by rfl):ET Z ρ O (.Call (.Name "max" p) [a,b] [] pos) (.int (max i j)):=
 BI (Nq hc) m Yd (AL h (AL h2 AE he2) he) (fun Φ q H vs Q ok r k=>by
  obtain⟨v,w,rfl,r1,r2⟩:=r.two_inv
  cases r1.int_inv;cases r2.int_inv
  refine⟨i,j,rfl,?_⟩
  have:(if j>i then j else i)=max i j:=by split<;>omega
  rw[this]
  exact k _ H _ O q (.refl ok) (.int _)) hg (by decide) (by decide) he hpl
theorem Sq(m:Z.X.mg "min" =none)(hc:Z.X.calm=true)(h:ET Z ρ O e (.tup [.int i,.int j]))(hg:Gl Z.X "min":=by rfl)(he:cb [e] Z.X.env=(false,eval e Z.X.env)::cb [] Z.X.env:=by rfl):ET Z ρ O (.Call (.Name "min" p) [e] [] pos) (.int (min i j)):=
 BI (OL hc) m WY (AL h AE he) (fun Φ q H vs Q ok r k=>by
  obtain⟨v,rfl,r1⟩:=r.one_inv
  obtain⟨a,xs,rfl,h1,r1⟩:=r1.tup_inv
  cases Reps.ints (ns:=[i,j]) r1
  refine⟨a,[i,j],rfl,.inr (.inl (.inl h1)),kK _,fun n ⟨h1,h2⟩=>?_⟩
  have e1:=h2 i (by simp)
  have e2:=h2 j (by simp)
  have:n=min i j:=by
   rcases da.mp h1 with rfl|h1
   ·omega
   ·have:=cq.mp h1
    omega
  rw[this]
  exact k _ H _ O q (.refl ok) (.int _)) hg (by decide) (by decide) he
theorem Sr(m:Z.X.mg "max" =none)(hc:Z.X.calm=true)(h:ET Z ρ O e (.tup [.int i,.int j]))(hg:Gl Z.X "max":=by rfl)(he:cb [e] Z.X.env=(false,eval e Z.X.env)::cb [] Z.X.env:=by rfl):ET Z ρ O (.Call (.Name "max" p) [e] [] pos) (.int (max i j)):=
 BI (OM hc) m Yd (AL h AE he) (fun Φ q H vs Q ok r k=>by
  obtain⟨v,rfl,r1⟩:=r.one_inv
  obtain⟨a,xs,rfl,h1,r1⟩:=r1.tup_inv
  cases Reps.ints (ns:=[i,j]) r1
  refine⟨a,[i,j],rfl,.inr (.inl (.inl h1)),kK _,fun n ⟨h1,h2⟩=>?_⟩
  have e1:=h2 i (by simp)
  have e2:=h2 j (by simp)
  have:n=max i j:=by
   rcases da.mp h1 with rfl|h1
   ·omega
   ·have:=cq.mp h1
    omega
  rw[this]
  exact k _ H _ O q (.refl ok) (.int _)) hg (by decide) (by decide) he
theorem Ss{k:Bool}(m:Z.X.mg "int" =none)(h:ET Z ρ O e (.bl k))(hg:Gl Z.X "int":=by rfl)(he:cb [e] Z.X.env=(false,eval e Z.X.env)::cb [] Z.X.env:=by rfl):ET Z ρ O (.Call (.Name "int" p) [e] [] pos) (.int (if k then 1 else 0)):=
 IH Nt m WV (AL h AE he) (fun Φ q H vs Q ok r k=>by
  obtain⟨v,rfl,r1⟩:=r.one_inv
  cases r1.bl_inv
  exact .inr ⟨_,rfl,k _ H _ O q (.refl ok) (.int _)⟩) hg (by decide) (by decide) he
theorem Ba(m:Z.X.mg "tuple" =none)(h:WE Z ρ O e fun t O'=>∃ts,t=.lst ts∧Φ (.tup ts) O')(hg:Gl Z.X "tuple":=by rfl)(he:cb [e] Z.X.env=(false,eval e Z.X.env)::cb [] Z.X.env:=by rfl):WE Z ρ O (.Call (.Name "tuple" p) [e] [] pos) Φ:=
 Da FY m QQ (BZ (DZ h (by
  rintro t O' ⟨ts,rfl,q⟩
  refine Ai fun H vs Q ok r k=>?_
  obtain⟨v,rfl,r1⟩:=r.one_inv
  obtain⟨a,xs,rfl,h1,_,r1⟩:=r1.lst_inv
  exact⟨a,xs,rfl,.inl (.inl h1),fun p hp=>k _ _ _ O' q (.new ok hp) (.tup AI (r1.kp (BW ok hp) ok))⟩)) he) hg (by decide) (by decide) he
theorem Gu(m:Z.X.mg "tuple" =none)(h:ET Z ρ O e (.lst ts))(hg:Gl Z.X "tuple":=by rfl)(he:cb [e] Z.X.env=(false,eval e Z.X.env)::cb [] Z.X.env:=by rfl):ET Z ρ O (.Call (.Name "tuple" p) [e] [] pos) (.tup ts):=fun Φ q=>Ba m (h _ ⟨ts,rfl,q⟩) hg he
theorem OS(m:Z.X.mg "list" =none)(h:ET Z ρ O e (.tup ts))(q:∀a,O a=none→Φ (.raw (.ref a)) (Aa O a ts))(hg:Gl Z.X "list":=by rfl)(he:cb [e] Z.X.env=(false,eval e Z.X.env)::cb [] Z.X.env:=by rfl):WE Z ρ O (.Call (.Name "list" p) [e] [] pos) Φ:=
 Da Gk m QR (AL h AE he _ (fun H vs Q ok r k=>by
  obtain⟨v,rfl,r1⟩:=r.one_inv
  obtain⟨a,xs,rfl,h1,r1⟩:=r1.tup_inv
  exact⟨a,xs,rfl,.inr (.inl (.inl h1)),fun p hp=>k _ _ _ _ (q p (ok.none_of hp)) (.newO ok hp r1) (.raw _)⟩)) hg (by decide) (by decide) he
theorem Reps.rngs{K:a8}{H:Hp}:∀(ns:List Nat),Reps K O H (ns.map fun(i:Nat)=>V.int i) (ns.map fun(i:Nat)=>T.int i)
 | []=> .nil
 |n::ns=> .cons (.int _) (Reps.rngs ns)
theorem QS{p1 p2 pos1:Pos}(m:Z.X.mg "list" =none)(m2:Z.X.mg "range" =none)(hc:Z.X.calm=true)(h:ET Z ρ O e (.int i))(h0:0≤i)(h1:i≤1000)(q:∀a,O a=none→Φ (.raw (.ref a)) (Aa O a ((dN i.toNat).map fun(i:Nat)=>T.int i)))
  (hg:Gl Z.X "list":=by rfl) (hg2:Gl Z.X "range":=by rfl) (he:cb [e] Z.X.env=(false,eval e Z.X.env)::cb [] Z.X.env:=by rfl) (he2:cb [Expr.Call (.Name "range" p2) [e] [] pos1] Z.X.env=(false,eval (.Call (.Name "range" p2) [e] [] pos1) Z.X.env)::cb [] Z.X.env:=by rfl):WE Z ρ O (.Call (.Name "list" p) [.Call (.Name "range" p2) [e] [] pos1] [] pos) Φ:=by
 refine PE.weak (DX (Lu hc) hg m QR (AM (DX KI hg2 m2 WX (Gm (ρ:=ρ)) (by decide) (by decide) he) Ay he2) (by decide) (by decide) he2) fun σ H Q k=>?_
 refine⟨O,_,AL h AE he (fun ts O'=>ts=[.int i]∧O'=O) ⟨rfl,rfl⟩,k.1,?_⟩
 rintro vs H1 _ _ ⟨rfl,rfl⟩ f r
 obtain⟨v,rfl,r1⟩:=r.one_inv
 cases r1.int_inv
 refine⟨i,rfl,fun p hp=> ⟨p,i,rfl,AI,h0,h1,fun l hl=>?_⟩⟩
 have f1:=Frm.new (o:=.rng 0 i) f.ok hp
 exact k.2 _ _ _ _ (q l (f1.ok.none_of hl)) (f.trans (f1.trans (.newO f1.ok hl (Reps.rngs _)))) (.raw _)
end
section
variable{K:a8}{O:AG}{H:Hp}
end
section
variable{Z:Zx}{ρ:List (Option T)}{O:AG}{e a b c:Expr}{es:List Expr}{Φ:BL}{pos p p2:Pos}{t ta tb:T}{ts us:List T}{i j:Int}{x:Str}{lo hi:Expr}
theorem Su(ha:ET Z ρ O a (.tup ts))(hb:ET Z ρ O b (.tup us))(hl:ts.length+us.length≤sizeLine):ET Z ρ O (.BinOp a .Add b pos) (.tup (ts++us)):=Fb Sk (fun Φ p H v w Q ok r1 r2 q=>by
 obtain⟨a,xs,rfl,h1,g1⟩:=r1.tup_inv
 obtain⟨b,ys,rfl,h2,g2⟩:=r2.tup_inv
 clear r1 r2
 refine⟨a,b,xs,ys,rfl,rfl,.inl (.inl h1),.inl (.inl h2),by rw[g1.length,g2.length];exact hl,fun l H' hq=>?_⟩
 rcases hq with⟨rfl,rfl,rfl⟩| ⟨rfl,rfl,rfl⟩| ⟨hq,rfl⟩
 ·have:us=[]:=iV.mp g2.length.symm
  subst this
  rw[eZ] at p
  exact q _ _ _ O p (.refl ok) (.tup h1 g1)
 ·have:ts=[]:=iV.mp g1.length.symm
  subst this
  exact q _ _ _ O p (.refl ok) (.tup h2 g2)
 ·exact q _ _ _ O p (.new ok hq) (.tup AI ((g1.append g2).kp (BW ok hq) ok))) ha hb
theorem NH(hl:ts.length+us.length≤sizeLine){K:a8}:RP K YG (.lst ts) (.lst us) O (.lst (ts++us)):=fun Φ p H v w Q ok r1 r2 q=>by
 obtain⟨a,xs,rfl,h1,_,r1⟩:=r1.lst_inv
 obtain⟨b,ys,rfl,h2,_,r2⟩:=r2.lst_inv
 exact⟨a,b,xs,ys,rfl,rfl,h1,h2,by rw[r1.length,r2.length];exact hl,fun l hq=>q _ _ _ O p (.new ok hq) (.lst AI (ok.none_of hq) ((r1.append r2).kp (BW ok hq) ok))⟩
theorem Dd(ha:ET Z ρ O a (.lst ts))(hb:ET Z ρ O b (.lst us))(hl:ts.length+us.length≤sizeLine):ET Z ρ O (.BinOp a .Add b pos) (.lst (ts++us)):=Fb LZ (NH hl) ha hb
theorem QT{l:Addr}(hu:Z.X.A.units<cLine)(ho:O l=some ts)(ha:ET Z ρ O a (.raw (.ref l))){p1:Pos}:EB Z ρ O (.Compare a [.NotEq] [.List [] p1] pos) (!ts.isEmpty):=BN (Px hu) (Au _) (fun Φ p H v w Q ok r1 r2 q=>by
 cases r1.raw_inv
 obtain⟨b,ys,rfl,h2,_,r2⟩:=r2.lst_inv
 cases r2.nil_inv
 obtain⟨xs,h1,r1⟩:=ok l ts ho
 refine⟨l,b,xs,rfl,rfl,.inl (.inl h1),.inl (.inl h2),?_⟩
 rw[r1.isEmpty]
 exact q _ H _ O p (.refl ok) (.bl _)) ha (Bw AE (eS _))
theorem Yg{n:Nat}(h0:0≤i)(h1:i<n):mK i n=some i.toNat:=by
 unfold mK
 have:¬i<0:=by omega
 simp only[if_neg this]
 rw[if_pos]
 simp
 omega
theorem KU{o:Expr}{apos cpos:Pos}(h:WE Z ρ O o fun t O1=>∃l,t=.raw (.ref l)∧(∃ts,O1 l=some ts)∧WE Z ρ O1 e fun u O2=>∃ts i y,u=.int i∧O2 l=some ts∧0≤i∧i<2^63∧i<ts.length∧ts[i.toNat]?=some y∧Φ y (Aa O2 l (ts.eraseIdx i.toNat)))
  (hbase:jd o "pop" Z.X.env (eval o Z.X.env)=eval o Z.X.env:=by rfl)
  (hfew:((fY cpos (cb [e] Z.X.env)).all (fun x=>!x.1)&&(nX cpos (mx [] Z.X.env)).all (fun x=>x.1.isSome)
   &&decide ([e].length+([]:List lH).length+(if([]:List lH).isEmpty then 0 else 1)<30))=true:=by rfl)
  (hline:(apos.endLine==cpos.line)=true:=by rfl) (hs:cb [e] Z.X.env=(false,eval e Z.X.env)::cb [] Z.X.env:=by rfl) (hplain:(fY cpos (cb [] Z.X.env)).any (·.1)=false:=by rfl):WE Z ρ O (.Call (.Attribute o "pop" apos) [e] [] cpos) Φ:=by
 refine UZ iS PySem.F.slot_list_pop PySem.F.type_list_pop PN (DZ h ?_) hbase hfew hline hs hplain
 rintro t O1 ⟨l,rfl,⟨ts,hts⟩,w⟩
 refine⟨NA hts,BZ (DZ w ?_) hs⟩
 rintro u O2 ⟨us,i,y,rfl,h1,i0,i1,i2,hy,p⟩
 refine Ai fun H v vs Q ok r1 r2 q=>?_
 cases r1.raw_inv
 obtain⟨w,rfl,r3⟩:=r2.one_inv
 cases r3.int_inv
 obtain⟨xs,hx,r⟩:=ok l us h1
 obtain⟨v,hv,rv⟩:=r.get hy
 exact⟨l,xs,i,i.toNat,v,rfl,rfl,hx,by omega,i1,by rw[r.length];exact Yg i0 i2,hv,q _ _ _ _ p (.put ok h1 (r.eraseIdx _)) (rv.kp (JA h1) ok)⟩
end
def AC(p:Int×Int):T:=.tup [.int p.1,.int p.2]
def FF(p q:Int×Int):Prop:=p.1<q.1∨(p.1=q.1∧p.2<q.2)
section
variable{K:a8}{O:AG}{H:Hp}
theorem Gv:∀{ps:List (Int×Int)} {xs:List V},Reps K O H xs (ps.map AC)→∃qs:List (List Int×Addr),xs=qs.map (fun p=>V.ref p.2)∧qs.map (·.1)=ps.map (fun p=> [p.1,p.2])∧∀k x,(k,x)∈qs→H x=some (.tup (k.map V.int))
 | [],xs,r=> ⟨[],r.nil_inv,rfl,fun _ _ h=>by cases h⟩
 |p::ps,xs,r=>by
  obtain⟨v,vs',rfl,h,r'⟩:=Reps.cons_inv r
  obtain⟨a,ys,rfl,ha,r2⟩:=h.tup_inv
  cases Reps.ints (ns:=[p.1,p.2]) r2
  obtain⟨qs,rfl,e,hk⟩:=Gv r'
  refine⟨([p.1,p.2],a)::qs,rfl,by rw[dv,dv,e],fun k x h=>?_⟩
  rcases da.mp h with h|h
  ·cases h;exact ha
  ·exact hk k x h
theorem Gw:∀{qs:List (List Int×Addr)} {ps:List (Int×Int)},qs.map (·.1)=ps.map (fun p=> [p.1,p.2])→(∀k x,(k,x)∈qs→H x=some (.tup (k.map V.int)))→Reps K O H (qs.map fun p=>V.ref p.2) (ps.map AC)
 | [],[],_,_=> .nil
 | [],p::ps,e,_=>by cases e
 |q::qs,[],e,_=>by cases e
 | (k,x)::qs,p::ps,e,h=>by
  rw[dv,dv] at e
  injection e with e1 e2
  have e1:k=[p.1,p.2]:=e1
  have hx:=h k x (dw ..)
  rw[e1] at hx
  exact .cons (.tup hx (.cons (.int _) (.cons (.int _) .nil))) (Gw e2 fun k x hk=>h k x (cX _ hk))
end
theorem NI:∀{ys:List (List Int×Addr)},(∀k x,(k,x)∈ys→∃i j:Int,k=[i,j])→∃ps:List (Int×Int),ys.map (·.1)=ps.map (fun p=> [p.1,p.2])
 | [],_=> ⟨[],rfl⟩
 | (k,x)::ys,h=>by
  obtain⟨i,j,e⟩:=h k x (dw ..)
  obtain⟨ps,e2⟩:=NI fun k x hk=>h k x (cX _ hk)
  exact⟨(i,j)::ps,by rw[dv,dv,e,e2]⟩
section
variable{Z:Zx}{ρ:List (Option T)}{O:AG}{e:Expr}{Φ:BL}{pos p p1 pos1:Pos}
theorem DA{ps:List (Int×Int)}(m:Z.X.mg "sorted" =none)(m2:Z.X.mg "set" =none)(hc:Z.X.calm=true)(hu:Z.X.A.units+8<cLine)(h:ET Z ρ O e (.lst (ps.map AC)))(hl:ps.length≤300)(hb:∀q∈ps,0≤q.2∧q.2<65536)
  (k:∀qs:List (Int×Int),qs.Pairwise FF→(∀q,q∈qs↔q∈ps)→qs.length≤ps.length→Φ (.lst (qs.map AC)) O) (hg:Gl Z.X "sorted":=by rfl) (hg2:Gl Z.X "set":=by rfl) (he:cb [e] Z.X.env=(false,eval e Z.X.env)::cb [] Z.X.env:=by rfl)
  (he2:cb [Expr.Call (.Name "set" p1) [e] [] pos1] Z.X.env=(false,eval (.Call (.Name "set" p1) [e] [] pos1) Z.X.env)::cb [] Z.X.env:=by rfl):WE Z ρ O (.Call (.Name "sorted" p) [.Call (.Name "set" p1) [e] [] pos1] [] pos) Φ:=by
 refine PE.weak (Aw (Iw hc) hg m JH (AM (DX (OK hc hu) hg2 m2 ag (Gm (ρ:=ρ)) (by decide) (by decide) he) Ay he2) (by decide) (by decide) he2) fun σ H Q q=>?_
 refine⟨O,_,AL h AE he (fun ts O'=>ts=[.lst (ps.map AC)]∧O'=O) ⟨rfl,rfl⟩,q.1,?_⟩
 rintro vs H1 _ _ ⟨rfl,rfl⟩ f r
 obtain⟨v,rfl,r1⟩:=r.one_inv
 obtain⟨a,xs,rfl,h1,_,r1⟩:=r1.lst_inv
 obtain⟨qs,rfl,eq,hk⟩:=Gv r1
 have lq:qs.length=ps.length:=by
  have:=congrArg List.length eq
  simpa using this
 refine⟨a,qs,rfl,.inl (.inl h1),fun k x hx=> .inl (.inl (hk k x hx)),by omega,fun l xs hl1 so nd=>?_⟩
 obtain⟨s1,s2,s3⟩:=so
 have f1:=Frm.new (o:=SetO Z.X.prog Z.X.w l xs) f.ok hl1
 have hk2:∀k x,(k,x)∈xs→upd H1 l (SetO Z.X.prog Z.X.w l xs) x=some (.tup (k.map V.int)):=fun k x hx=>by
  have:=hk k x (s1 _ hx)
  rw[AH (AR this hl1)];exact this
 have mem1:∀k x,(k,x)∈qs→∃q∈ps,k=[q.1,q.2]:=fun k x hx=>by
  have:k∈qs.map (·.1):=df.mpr ⟨(k,x),hx,rfl⟩
  rw[eq] at this
  obtain⟨q,h1,h2⟩:=df.mp this
  exact⟨q,h1,h2.symm⟩
 have two:∀k x,(k,x)∈xs→∃i j,k=[i,j]∧0≤j∧j<65536:=fun k x hx=>by
  obtain⟨q,h1,h2⟩:=mem1 k x (s1 _ hx)
  exact⟨q.1,q.2,h2,hb q h1⟩
 refine⟨l,xs,rfl,AI,fun k x hx=> .inl (.inl (hk2 k x hx)),by omega,two,fun d ys hd pm pw=>?_⟩
 obtain⟨rs,er⟩:=NI (ys:=ys) fun k x hx=>by
  obtain⟨i,j,e,_⟩:=two k x (pm.mem_iff.mp hx)
  exact⟨i,j,e⟩
 have f2:=Frm.new (o:=.lst (ys.map fun p=>V.ref p.2)) f1.ok hd
 have hk3:∀k x,(k,x)∈ys→upd (upd H1 l (SetO Z.X.prog Z.X.w l xs)) d (.lst (ys.map fun p=>V.ref p.2)) x=some (.tup (k.map V.int)):=fun k x hx=>by
  have:=hk2 k x (pm.mem_iff.mp hx)
  rw[AH (AR this hd)];exact this
 have memr:∀z,z∈rs↔∃x,([z.1,z.2],x)∈ys:=fun z=>by
  constructor
  ·intro hz
   have:[z.1,z.2]∈ys.map (·.1):=by rw[er];exact df.mpr ⟨z,hz,rfl⟩
   obtain⟨⟨k,x⟩,h1,h2⟩:=df.mp this
   have h2:k=_:=h2
   subst h2
   exact⟨x,h1⟩
  ·rintro⟨x,hx⟩
   have:[z.1,z.2]∈ys.map (·.1):=df.mpr ⟨_,hx,rfl⟩
   rw[er] at this
   obtain⟨w,h1,h2⟩:=df.mp this
   injection h2 with e1 e2
   injection e2 with e2 _
   have:w=z:=fR e1 e2
   rw[←this];exact h1
 have ndy:(ys.map (·.1)).Nodup:=(pm.map _).nodup_iff.mpr nd
 refine q.2 _ _ _ _ (k rs ?_ (fun z=>?_) ?_) (f.trans (f1.trans f2)) (.lst AI (f1.ok.none_of hd) (Gw er hk3))
 ·--strictly rising
  have pw':rs.Pairwise fun x y=>65536*x.1+x.2≤65536*y.1+y.2:=by
   have h3:(ys.map (·.1)).Pairwise fun x y=>65536*x.getD 0 0+x.getD 1 0≤65536*y.getD 0 0+y.getD 1 0:=eJ.mpr pw
   rw[er] at h3
   exact(eJ (f:=fun(p:Int×Int)=> [p.1,p.2]) (R:=fun x y=>65536*x.getD 0 0+x.getD 1 0≤65536*y.getD 0 0+y.getD 1 0)).mp h3
  have nd':rs.Pairwise fun x y=>x≠y:=by
   have h3:(ys.map (·.1)).Pairwise (·≠·):=ndy
   rw[er] at h3
   exact(eJ.mp h3).imp fun hxy z=>hxy (by rw[z])
  refine(pw'.and nd').imp_of_mem fun{x y} hx hy ⟨h1,h2⟩=>?_
  have bnd:∀z,z∈rs→0≤z.2∧z.2<65536:=fun z hz=>by
   obtain⟨v,hv⟩:=(memr z).mp hz
   obtain⟨i,j,e,hj⟩:=two _ v (pm.mem_iff.mp hv)
   injection e with e1 e2
   injection e2 with e2 _
   omega
  have b1:=bnd x hx
  have b2:=bnd y hy
  unfold FF
  have:¬(x.1=y.1∧x.2=y.2):=fun z=>h2 (fR z.1 z.2)
  omega
 ·rw[memr]
  constructor
  ·rintro⟨x,hx⟩
   obtain⟨w,h1,h2⟩:=mem1 _ x (s1 _ (pm.mem_iff.mp hx))
   injection h2 with e1 e2
   injection e2 with e2 _
   have:z=w:=fR e1 e2
   rw[this];exact h1
  ·intro hz
   have:[z.1,z.2]∈qs.map (·.1):=by rw[eq];exact df.mpr ⟨z,hz,rfl⟩
   obtain⟨⟨k,x⟩,h1,h2⟩:=df.mp this
   have h2:k=_:=h2
   subst h2
   obtain⟨x',hx'⟩:=s2 _ _ h1
   exact⟨x',pm.mem_iff.mpr hx'⟩
 ·have e1:rs.length=ys.length:=by
   have:=congrArg List.length er
   simpa using this.symm
  have e2:=pm.length_eq
  omega
end
theorem XFly.mono{X:Cx}{W W':St→XK}(x:XFly X W)(h:∀σ cls H',W' σ cls none H'→W σ cls none H'):XFly X W':=⟨fun pins σ H s e s' I c=>x.fly pins σ H s e s' I (by
 obtain⟨y,cls,H',e1,f,q⟩:=c
 exact⟨y,cls,H',e1,f,h σ cls H' q⟩)⟩
theorem ES{X:Cx}{Oe:AG}{He:Hp}:XFly X (zc X Oe He).W:=⟨fun pins σ H s e s' I c=>by
 obtain⟨y,cls,H',e1,f,_,O',z,_⟩:=c
 exact z.elim⟩
abbrev zB(P:Program)(w:World)(K:a8)(mg:Str→Option Value)(base:Heap)(N:List Str)(qual:Str)(sc:Scope)(f:Addr)(cdv:Value)(A:de)(outer:List Env)(s:Shared)(H:Hp)(E:XK)(O:AG)(Ξ:Value→AG→Prop):Zx:=
 ⟨Bq (CXe P w) P w K mg base N qual sc f cdv A outer s H E,O,H,Ξ⟩
def CY(N:List Str)(ts:List T):List (Option T):=ts.map some++cY (N.length-ts.length) none
theorem EU{K:a8}{O:AG}{H:Hp}{N:List Str}{vs:List V}{ts:List T}(r:Reps K O H vs ts):Rl K O H (start N vs) (CY N ts):=by
 refine⟨by simp[start,CY,r.length],fun i t e=>?_⟩
 unfold CY at e
 by_cases hi:i<ts.length
 ·rw[dM (by simpa using hi),cg] at e
  cases ht:ts[i]? with
  |none=>rw[ht] at e;cases e
  |some u=>
   rw[ht] at e
   cases e
   obtain⟨v,h1,h2⟩:=r.get ht
   refine⟨v,?_,h2⟩
   unfold start
   rw[dM (by simpa[r.length] using hi),cg,h1]
   rfl
 ·rw[dB (by simpa using hi),fm] at e
  split at e<;>cases e
theorem Aj{P:Program}{w:World}{K:a8}{mg:Str→Option Value}{base:Heap}{x qual:Str}{st:Stmt}{f:Addr}{fd:dA}{N ps:List Str}{k:Nat}{sp:DR}(F:Fun K x qual st f fd)(S:FnScope N ps (AA st))(len:∀ts O Φ Ξ,sp ts O Φ Ξ→ts.length=ps.length)
  (h:∀(cdv:Value) (A:de) (outer:List Env) (s:Shared) (H:Hp) (E:XK) (O:AG) (Ξ:Value→AG→Prop),Room k (A.deeper (hZ qual (AA st) s.heap.objs.size f cdv))→XFly (zB P w K mg base N qual (AA st) f cdv A outer s H E O Ξ).X (zB P w K mg base N qual (AA st) f cdv A outer s H E O Ξ).W→
   ∀ts Φ,sp ts O Φ Ξ→DS (zB P w K mg base N qual (AA st) f cdv A outer s H E O Ξ) (CY N ts) O (AY st) {nx:=fun _ O'=>Φ .non O',rt:=Φ}):FnOk P w K mg base (CXe P w) (k+1) f fd ps (Dl K sp):=by
 refine F.okX S (fun vs H Q E h=>?_) (fun cdv A outer s H vs Q E hr h1=>?_)
 ·obtain⟨ts,O,Φ,Ξ,r,_,q,_⟩:=h
  rw[r.length];exact len ts O Φ Ξ q
 ·obtain⟨ts,O,Φ,Ξ,r,ok,q,acc,ex⟩:=h1
  refine⟨_,h cdv A outer s H E O Ξ hr (XFly.mono Ae.f ?_) ts Φ q,⟨EU r,.refl ok⟩,?_⟩
  ·rintro σ cls H' ⟨_,O',x,f⟩
   exact ex cls O' H' x f
  ·exact⟨fun ρ' O' σ' H' p a _=>acc _ _ _ O' p a.fr .non,fun v H' t O' p f r=>acc v H' t O' p f r,fun _ _ _ _ z=>z.elim,fun _ _ _ _ z=>z.elim⟩
structure Fi(K:a8)(x:Str)(st:Stmt)(f:Addr)(fd:dA):Prop where
 F:Fun K x x st f fd
 a:jw K fJ x=some (some (.ref f))
def Fx(K:a8)(x:Str)(st:Stmt):Prop:=∃f fd,Fi K x st f fd
def Zn(K:a8)(x:Str):Prop:=jw K fJ x=some none
def Cn(K:a8)(x:Str)(C:Addr):Prop:=jw K fJ x=some (some (.ref C))
structure Mg(P:Program)(w:World)(K:a8)(mg:Str→Option Value)(base:Heap):Prop where
 mm:∀{x:Str} {v:Value},jw K fJ x=some (some v)→mg x=some v
section
variable{P:Program}{w:World}{K:a8}{mg:Str→Option Value}{base:Heap}{x:Str}{st:Stmt}{f:Addr}{fd:dA}{ps:List Str}{k:Nat}
theorem fi{oc:Value}{od:Option Addr}{kV doc pm:Value}{an:Option Addr}{cdv ct:Value}{osl:Array (Option Value)}(a:jw K fJ x=some (some (.ref f)))(l:K.lookup f=some ⟨oc,od,.func (il x x (CB st) (AY st) (AA st) .none kV doc pm an cdv ct),osl⟩)(q:kY K cdv x=true)(h:eM K (.ref f)=true):
  Fx K x st:=⟨f,_,⟨⟨⟨oc,od,kV,doc,pm,an,cdv,ct,osl,rfl,l,q⟩,h⟩,a⟩⟩
abbrev Bi(x:Str)(st:Stmt)(ps:List Str)(us:List Value):Prop:=∀(kV doc pm:Value) (an:Option Addr) (cdv ct:Value),nV (il x x (CB st) (AY st) (AA st) .none kV doc pm an cdv ct) ⟨us,[]⟩=pure (ps.zip us)
theorem Fi.b1(h:Fi K x st f fd)(hl:ps.length=1)(q:∀a,Bi x st ps [a]):Binds K fd ps []:=h.F.binds fun _ _ _ _ _ _ us e=>match us,e.trans hl with| [a],_=>q a ..
theorem Fi.b2(h:Fi K x st f fd)(hl:ps.length=2)(q:∀a b,Bi x st ps [a,b]):Binds K fd ps []:=h.F.binds fun _ _ _ _ _ _ us e=>match us,e.trans hl with| [a,b],_=>q a b ..
theorem Fi.b3(h:Fi K x st f fd)(hl:ps.length=3)(q:∀a b c,Bi x st ps [a,b,c]):Binds K fd ps []:=h.F.binds fun _ _ _ _ _ _ us e=>match us,e.trans hl with| [a,b,c],_=>q a b c ..
theorem Fi.t{s:DR}(h:Fi K x st f fd)(M:Mg P w K mg base)(ok:FnOk P w K mg base (CXe P w) k f fd ps (Dl K s))(b:Binds K fd ps []):FnT P w K mg base x k ps s:=⟨f,fd,ok,M.mm h.a,h.F.kp,b⟩
structure Xk(K:a8)(C CR c0 c1 c2 c3 c4 c5 c6 c7:Addr)(b0 b1 b2 b3 b4 b5 b6 b7:Bool):Prop where
 e0:du K (.ref C) (.ref c0)=some b0
 e1:du K (.ref C) (.ref c1)=some b1
 e2:du K (.ref C) (.ref c2)=some b2
 e3:du K (.ref C) (.ref c3)=some b3
 e4:du K (.ref C) (.ref c4)=some b4
 e5:du K (.ref C) (.ref c5)=some b5
 e6:du K (.ref C) (.ref c6)=some b6
 e7:du K (.ref C) (.ref c7)=some b7
 kR:du K (.ref C) (.ref CR)=some true
 nR:(Value.ref C==Value.ref CR)=false
 ve:du K (.ref C) (.type "ValueError")=some true
 g1:dJ K (.ref C) "__getattribute__" =some (some (.builtin "BaseException.__getattribute__"))
 g2:dJ K (.ref C) "__getattr__" =some none
 g3:fU K C (.type "BaseException")=some true
 g4:fU K C (.type "object")=some true
 g5:dJ K (.ref C) "__class__" =some (some (.builtin "object.__class__"))
structure Xg(K:a8)(CR:Addr):Prop where
 bR:fU K CR (.type "BaseException")=some true
 g6:lB K (.builtin "object.__class__") "__get__" =some (some (.builtin "getset_descriptor.__get__"))
 g7:l9 K (.builtin "object.__class__")=some true
theorem Xk.kit{C CR c0 c1 c2 c3 c4 c5 c6 c7:Addr}{b0 b1 b2 b3 b4 b5 b6 b7:Bool}(x:Xk K C CR c0 c1 c2 c3 c4 c5 c6 c7 b0 b1 b2 b3 b4 b5 b6 b7):fE K (.ref C) (.ref CR)=some true:=by
 have h:=x.kR
 unfold du at h
 rw[x.nR,if_neg cf] at h
 exact h
end
def Ue(S:Scope)(N:List Str)(csc:Scope)(cap:List (Str×Nat)):Bool:=
 decide (csc.kind=.function)&&csc.names.all (fun y=>decide (y.2=.cell→csc.names.lookup y.1=some .cell))&&csc.names.all (fun y=>decide (y.2=.local→csc.names.lookup y.1=some .local))&&csc.names.all (fun y=>decide (y.2=.free→S.names.lookup y.1=some .cell∨S.names.lookup y.1=some .free))&&cap.all (fun p=>decide (N[p.2]?=some p.1∧csc.names.lookup p.1=some .free))
theorem Bl{X:Cx}{csc:Scope}{nc:List Str}{cap:List (Str×Nat)}(S:Scope)(N:List Str)(chk:Ue S N csc cap=true)(h1:X.env.scope=S:=by rfl)(h2:X.N=N:=by rfl):LcOk X csc nc cap:=by
 unfold Ue at chk
 simp only[eX,kh,decide_eq_true_eq] at chk
 obtain⟨⟨⟨⟨c1,c2⟩,c3⟩,c4⟩,c5⟩:=chk
 exact⟨c1,c2,c3,by rw[h1];exact c4,by rw[h2];exact c5⟩
section
variable{Z:Zx}{ρ:List (Option T)}{O:AG}{elt tg iter:Expr}{ifs:List Expr}{csc:Scope}{nc:List Str}{cap:List (Str×Nat)}{Φ:BL}{pos:Pos}{α:Type}
theorem KW{F:List T→AG→Prop}(xs:List α)(f g:α→T)(hl:xs.length≤sizeLine)(h:∀x,x∈xs→∃ρ4,∀X' Oe He,LcCx Z.X csc (Ak nc cap) X'→∀O',(WG (zc X' Oe He) nc.length (Ha nc ρ cap) O' tg (f x) ρ4∧ET (zc X' Oe He) ρ4 O' elt (g x)))(fin:F (xs.map g) O):Sn Z ρ elt tg [] csc nc cap F (xs.map f) O:=by
 refine⟨fun i acc O'=>O'=O∧acc=(xs.take i).map g,⟨rfl,by simp⟩,?_,?_⟩
 ·rintro i t acc O' p e ⟨rfl,rfl⟩ np
  rw[cg] at e
  cases ex:xs[i]? with
  |none=>rw[ex] at e;cases e
  |some x=>
   rw[ex] at e
   cases e
   obtain⟨ρ4,w⟩:=h x (cU ex)
   have hi:=(cw.mp ex).1
   refine⟨ρ4,fun X' Oe He is=> ⟨(w X' Oe He is _).1,Dc (Ih fun X' Oe He is=> (w X' Oe He is _).2 _ ⟨_,rfl,np,?_,rfl,?_⟩)⟩⟩
   ·simp;omega
   ·rw[fu,ex];simp
 ·rintro acc O' ⟨rfl,rfl⟩
  rw[b8,fj]
  exact fin
theorem KY{F:List T→AG→Prop}{c:Expr}(xs:List α)(f g:α→T)(q:α→Bool)(hl:xs.length≤sizeLine)(h:∀x,x∈xs→∃ρ4,∀X' Oe He,LcCx Z.X csc (Ak nc cap) X'→∀O',(WG (zc X' Oe He) nc.length (Ha nc ρ cap) O' tg (f x) ρ4∧EB (zc X' Oe He) ρ4 O' c (q x)∧(q x=true→ET (zc X' Oe He) ρ4 O' elt (g x))))(fin:F ((xs.filter q).map g) O):Sn Z ρ elt tg [c] csc nc cap F (xs.map f) O:=by
 refine⟨fun i acc O'=>O'=O∧acc=((xs.take i).filter q).map g,⟨rfl,by simp⟩,?_,?_⟩
 ·rintro i t acc O' p e ⟨rfl,rfl⟩ np
  rw[cg] at e
  cases ex:xs[i]? with
  |none=>rw[ex] at e;cases e
  |some x=>
   rw[ex] at e
   cases e
   obtain⟨ρ4,w⟩:=h x (cU ex)
   have hi:=(cw.mp ex).1
   refine⟨ρ4,fun X' Oe He is=> ⟨(w X' Oe He is _).1,JF ((w X' Oe He is _).2.1 _ ?_)⟩⟩
   cases hq:q x with
   |true=>
    refine Ih fun X' Oe He is=> (w X' Oe He is _).2.2 hq _ ⟨_,rfl,np,?_,rfl,?_⟩
    ·have:=j4 q (xs.take i)
     simp at this ⊢;omega
    ·rw[fu,ex];simp[hq]
   |false=>
    refine La ⟨_,rfl,np,rfl,?_⟩
    rw[fu,ex];simp[hq]
 ·rintro acc O' ⟨rfl,rfl⟩
  rw[b8,fj]
  exact fin
theorem By(nc:List Str)(cap:List (Str×Nat))(xs:List α)(f g:α→T)(hc:Z.X.calm=true)(ok:LcOk Z.X csc nc cap)(hi:EI Z ρ O tg iter (xs.map f))(hl:xs.length≤sizeLine)(h:∀x,x∈xs→∃ρ4,∀X' Oe He,LcCx Z.X csc (Ak nc cap) X'→∀O',(WG (zc X' Oe He) nc.length (Ha nc ρ cap) O' tg (f x) ρ4∧ET (zc X' Oe He) ρ4 O' elt (g x)))
  (hs:∀x,fP iter Z.X.env x=pure x:=by intro _;rfl):ET Z ρ O (.ListComp elt [⟨tg,iter,[],0⟩] csc pos) (.lst (xs.map g)):=fun Φ p=>II hc ok (hi _ (KW xs f g hl h p)) hs
theorem Gx(nc:List Str)(cap:List (Str×Nat)){c:Expr}(xs:List α)(f g:α→T)(q:α→Bool)(hc:Z.X.calm=true)(ok:LcOk Z.X csc nc cap)(hi:EI Z ρ O tg iter (xs.map f))(hl:xs.length≤sizeLine)(h:∀x,x∈xs→∃ρ4,∀X' Oe He,LcCx Z.X csc (Ak nc cap) X'→∀O',(WG (zc X' Oe He) nc.length (Ha nc ρ cap) O' tg (f x) ρ4∧EB (zc X' Oe He) ρ4 O' c (q x)∧(q x=true→ET (zc X' Oe He) ρ4 O' elt (g x))))
  (hs:∀x,fP iter Z.X.env x=pure x:=by intro _;rfl):ET Z ρ O (.ListComp elt [⟨tg,iter,[c],0⟩] csc pos) (.lst ((xs.filter q).map g)):=fun Φ p=>II hc ok (hi _ (KY xs f g q hl h p)) hs
end
section
variable{Z:Zx}{ρ:List (Option T)}{O:AG}{e:Expr}{es:List Expr}{Φ:BL}{Ψ:Es}{pos p:Pos}{ts:List T}{x:Str}
theorem EA.wa{Φ:Lv}(h:EA Z ρ O es ts)(p:Φ ts O):WA Z ρ O es Φ:=h Φ p
theorem EI.wi{tg iter:Expr}{Φ:Lv}(h:EI Z ρ O tg iter ts)(p:Φ ts O):WI Z ρ O tg iter Φ:=h Φ p
theorem NJ{l:Addr}(hl:Z.Oe l=none)(h:WE Z ρ O e fun t O'=>Ψ.rt t (CF O' l)):WS Z ρ O (.Return (some e) pos) Ψ:=PS.weak (Ep h) fun D σ H q=> ⟨q.1,fun v H' t O' p f r=>by
 have f':=q.1.fr.trans f
 refine q.2.rt v H' t _ p ⟨f'.kp.trans CH,fun b us e=>?_,f'.ok.drop⟩ (r.kp CH f'.ok)
 obtain⟨us',e'⟩:=f'.own b us e
 have:b≠l:=fun z=>by rw[z,hl] at e;cases e
 exact⟨us',by rw[DQ this];exact e'⟩⟩
theorem OT{l:Addr}(m:Z.X.mg "tuple" =none)(ho:O l=some ts)(h:ET Z ρ O e (.raw (.ref l)))(hg:Gl Z.X "tuple":=by rfl)(he:cb [e] Z.X.env=(false,eval e Z.X.env)::cb [] Z.X.env:=by rfl):ET Z ρ O (.Call (.Name "tuple" p) [e] [] pos) (.tup ts):=
 IH FY m QQ (AL h AE he) (fun Φ q H vs Q ok r k=>by
  obtain⟨v,rfl,r1⟩:=r.one_inv
  cases r1.raw_inv
  obtain⟨xs,h1,r1⟩:=ok l ts ho
  exact⟨l,xs,rfl,.inl (.inl h1),fun p hp=>k _ _ _ O q (.new ok hp) (.tup AI (r1.kp (BW ok hp) ok))⟩) hg (by decide) (by decide) he
theorem QU{k:Nat}{f:Addr}{fd:dA}{ps:List Str}{sp:Sp}(F:FnOk Z.X.prog Z.X.w Z.X.K Z.X.mg Z.X.base (CXe Z.X.prog Z.X.w) k f fd ps sp)(hm:Z.X.mg x=some (.ref f))(hk:eM Z.X.K (.ref f)=true)(hb:Binds Z.X.K fd ps [])(hr:Room k Z.X.A)(xf:XFly Z.X Z.W)(h:EA Z ρ O (e::es) ts)
  (w:∀σ H vs Q,Asr Z ρ O σ H→Reps Z.K O H vs ts→Acc Z.K O H Φ Q→sp vs H Q (Z.W σ)) (hg:Gl Z.X x:=by rfl)
  (hdb:(x==("__debug__" :Str))=false:=by decide) (he:cb (e::es) Z.X.env=(false,eval e Z.X.env)::cb es Z.X.env:=by rfl) (hpl:(fY pos (cb es Z.X.env)).any (·.1)=false:=by rfl):WE Z ρ O (.Call (.Name x p) (e::es) [] pos) Φ:=by
 refine PE.weak (GT xf F hr hg hm hk hb (Gm (ρ:=ρ)) hdb he hpl) fun σ H Q q=>?_
 refine⟨O,_,h (fun us O'=>us=ts∧O'=O) ⟨rfl,rfl⟩,q.1,?_⟩
 rintro vs H1 _ _ ⟨rfl,rfl⟩ f r
 exact w σ H1 vs Q (q.1.step f) r (q.2.step f)
end
def CI:Expr→Bool
 | .Starred .. =>false
 |_=>true
theorem FG{e:Expr}{es:List Expr}{env:Env}(h:CI e=true):cb (e::es) env=(false,eval e env)::cb es env:=by
 cases e<;>first|rfl|cases h
section
variable{Z:Zx}{ρ:List (Option T)}{O:AG}{e:Expr}{es:List Expr}{t:T}{ts:List T}
theorem AZ(h:ET Z ρ O e t)(hr:EA Z ρ O es ts)(hn:CI e=true:=by rfl):EA Z ρ O (e::es) (t::ts):=AL h hr (FG hn)
theorem Bm{Φ:Lv}(h:WE Z ρ O e fun t O1=>WA Z ρ O1 es fun ts O2=>Φ (t::ts) O2)(hn:CI e=true:=by rfl):WA Z ρ O (e::es) Φ:=BZ h (FG hn)
theorem BG{a b:Expr}{i j:Int}{k:Nat}{pos:Pos}(ha:ET Z ρ O a (.int i))(hb:ET Z ρ O b (.int j))(h1:CI a=true:=by rfl)(h2:CI b=true:=by rfl):ET Z ρ O (.Tuple [a,b] k pos) (AC (i,j)):=BX (AZ ha (AZ hb AE h2) h1) (by show 2≤sizeLine;decide)
theorem Yh{p:Int×Int}{ps:List (Int×Int)}(h:ET Z ρ O e (AC p))(hr:EA Z ρ O es (ps.map AC))(hn:CI e=true:=by rfl):EA Z ρ O (e::es) ((p::ps).map AC):=AZ h hr hn
theorem Yi:EA Z ρ O [] (([]:List (Int×Int)).map AC):=AE
end
theorem IJ{O:AG}{p l:Addr}{xs ys:List T}(h:O l=none)(hp:p≠l):CF (Aa (Aa O p xs) l ys) l=Aa O p xs:=by
 refine Ax ?_
 rw[AO (Ne.symm hp)];exact h
theorem KZ{O:AG}{p:Addr}{xs:List T}(h:O p=some xs):Aa O p xs=O:=by
 funext b
 by_cases hb:b=p
 ·rw[hb,AD,h]
 ·rw[AO hb]
theorem MB{O:AG}{p l:Addr}{xs:List T}(h:O p=some xs)(hl:O l=none):p≠l:=fun z=>by rw[z,hl] at h;cases h
def WZ:Expr→Bool
 | .ListComp .. =>false
 | .SetComp .. =>false
 | .DictComp .. =>false
 |_=>true
theorem QV{e:Expr}{t:Option Expr}{l:Nat}{env:Env}(h:WZ e=true):ju e t l env=pure false:=by
 cases e<;>first|rfl|cases h
section
variable{Z:Zx}{ρ:List (Option T)}{O:AG}{e:Expr}{es:List Expr}{t:T}{ts:List T}{Φ:BL}{Ψ:Es}{pos p2:Pos}{x:Str}
theorem Sv(i:Nat)(h:EA Z ρ O es ts)(hl:ts.length≤sizeLine)(k:Ψ.nx (ρ.set i (some (.lst ts))) O)(hN:Z.X.N.Nodup){pos':Pos}(hi:Z.X.N[i]?=some x:=by rfl)(hx:Ol Z.X.env.scope x:=by first|exact ku rfl|exact k8 rfl)
  (hf:Z.X.fn x=true∨Z.X.env.scope.names.lookup x=some .local:=by first|exact .inl rfl|exact .inr rfl):WS Z ρ O (.Assign [.Name x pos'] (.List es p2) pos) Ψ:=
 AV i (ET.we (Bw h hl) k) hN hi hx (QV rfl) hf
inductive CPs:List Expr→List (Int×Int)→Prop
 |nil:CPs [] []
 |cons {a b:Int} {k1 k2 k3:Nat} {q1 q2 q3:Pos} {es:List Expr} {ps:List (Int×Int)}:CPs es ps→CPs (.Tuple [.Constant (.int a) k1 q1,.Constant (.int b) k2 q2] k3 q3::es) ((a,b)::ps)
theorem CPs.ea{ps:List (Int×Int)}(h:CPs es ps):EA Z ρ O es (ps.map AC):=by
 induction h with
 |nil=>exact AE
 |cons _ ih=>exact Yh (BG AB AB) ih
structure HEA(Z:Zx)(ρ:List (Option T))(O:AG)(es:List Expr)(ts:List T):Prop where
 out:EA Z ρ O es ts
structure HET(Z:Zx)(ρ:List (Option T))(O:AG)(e:Expr)(t:T):Prop where
 out:ET Z ρ O e t
theorem CPs.hea{ps:List (Int×Int)}(h:CPs es ps):HEA Z ρ O es (ps.map AC):=⟨h.ea⟩
theorem Sw(i:Nat)(h:HEA Z ρ O es ts)(hl:ts.length≤sizeLine)(k:Ψ.nx (ρ.set i (some (.lst ts))) O)(hN:Z.X.N.Nodup){pos':Pos}(hi:Z.X.N[i]?=some x)(hx:Ol Z.X.env.scope x)
  (hf:Z.X.fn x=true∨Z.X.env.scope.names.lookup x=some .local):WS Z ρ O (.Assign [.Name x pos'] (.List es p2) pos) Ψ:=Sv i h.out hl k hN hi hx hf
structure HS(Z:Zx)(ρ:List (Option T))(O:AG)(ss:List Stmt)(Ψ:Es):Prop where
 out:DS Z ρ O ss Ψ
theorem CJ{s:Stmt}{ss:List Stmt}(h:WS Z ρ O s {Ψ with nx:=fun ρ' O'=>HS Z ρ' O' ss Ψ}):HS Z ρ O (s::ss) Ψ:=
 ⟨AF (NB h (fun _ _ z=>z.out) (fun _ _ z=>z) (fun _ _ z=>z) (fun _ _ z=>z))⟩
theorem QW{s:Stmt}(h:WS Z ρ O s Ψ):HS Z ρ O [s] Ψ:=⟨AJ h⟩
theorem Ka{k:Bool}{c:Expr}{ea ss:List Stmt}(hc:EB Z ρ O c k)(h1:k=true→HS Z ρ O ea {Ψ with nx:=fun ρ' O'=>HS Z ρ' O' ss Ψ})(h2:k=false→HS Z ρ O ss Ψ):HS Z ρ O (.If c ea [] pos::ss) Ψ:=
 CJ (BY hc (fun h=> (h1 h).out) (fun h=>BS (h2 h)))
theorem Sx{P:Program}{w:World}{K:a8}{mg:Str→Option Value}{base:Heap}{x qual:Str}{st:Stmt}{f:Addr}{fd:dA}{N ps:List Str}{k:Nat}{sp:DR}(F:Fun K x qual st f fd)(S:FnScope N ps (AA st))(len:∀ts O Φ Ξ,sp ts O Φ Ξ→ts.length=ps.length)
  (h:∀(cdv:Value) (A:de) (outer:List Env) (s:Shared) (H:Hp) (E:XK) (O:AG) (Ξ:Value→AG→Prop),Room k (A.deeper (hZ qual (AA st) s.heap.objs.size f cdv))→XFly (zB P w K mg base N qual (AA st) f cdv A outer s H E O Ξ).X (zB P w K mg base N qual (AA st) f cdv A outer s H E O Ξ).W→
   ∀ts Φ,sp ts O Φ Ξ→HS (zB P w K mg base N qual (AA st) f cdv A outer s H E O Ξ) (CY N ts) O (AY st) {nx:=fun _ O'=>Φ .non O',rt:=Φ}):FnOk P w K mg base (CXe P w) (k+1) f fd ps (Dl K sp):=
 Aj F S len fun cdv A outer s H E O Ξ hr xf ts Φ q=> (h cdv A outer s H E O Ξ hr xf ts Φ q).out
end
section
variable{X:Cx}{a b c d:Expr}{ta tb tc td:TE}{pos:Pos}
end
section
variable{Z:Zx}{ρ:List (Option T)}{O:AG}{a b c d:Expr}{pos:Pos}{i j k l:Int}
end
end L2.TL
namespace L2
open PySem PySem.Spec PySem.Calls PyProof.Rows
section
variable{prog:Program}{w:World}{A:de}{E:Value→Shared→Prop}{s:Shared}
end
section
variable{X:Cx}
end
end L2
namespace L2.TL
open PySem PySem.Spec PySem.Calls PyProof.Rows
mutual
def dT:T→PyData
 | .non=> .none
 | .bl b=> .bool b
 | .int i=> .int i
 | .str x=> .str x
 | .tup ts=> .tuple (dTs ts)
 | .lst ts=> .list (dTs ts)
 | .frz _=> .none
 | .dct=> .none
 | .raw _=> .none
def dTs:List T→List PyData
 | []=> []
 |t::ts=>dT t::dTs ts
end
mutual
def EV:T→Bool
 | .non=>true
 | .bl _=>true
 | .int i=>decide (i.natAbs<10^12)
 | .str _=>false
 | .tup ts=>shBs ts
 | .lst ts=>shBs ts
 | .frz _=>false
 | .dct=>false
 | .raw _=>false
def shBs:List T→Bool
 | []=>true
 |t::ts=>EV t&&shBs ts
end
mutual
theorem JK:∀(t:T),EV t=true→(dT t).showable=true∧(dT t).hasDict=false∧(dT t).leavesShort 13=true
 | .non,_=> ⟨rfl,rfl,rfl⟩
 | .bl _,_=> ⟨rfl,rfl,rfl⟩
 | .int i,h=>by
  have hb:i.natAbs<10^12:=by unfold EV at h;simpa using h
  refine⟨?_,rfl,?_⟩
  ·show decide (i.natAbs.log2<1920)=true
   refine decide_eq_true ?_
   by_cases h0:i.natAbs=0
   ·rw[h0];decide
   ·exact(Nat.log2_lt h0).mpr (dm hb (by decide+kernel))
  ·show decide _=true
   exact decide_eq_true (PyData.shown_int_le hb)
 | .str _,h=>by unfold EV at h;cases h
 | .tup ts,h=>by
  have h':shBs ts=true:=by unfold EV at h;exact h
  exact shs_show ts h'
 | .lst ts,h=>by
  have h':shBs ts=true:=by unfold EV at h;exact h
  exact shs_show ts h'
 | .frz _,h=>by unfold EV at h;cases h
 | .dct,h=>by unfold EV at h;cases h
 | .raw _,h=>by unfold EV at h;cases h
theorem shs_show:∀(ts:List T),shBs ts=true→jI (dTs ts)=true∧jT (dTs ts)=false∧jh 13 (dTs ts)=true
 | [],_=> ⟨rfl,rfl,rfl⟩
 |t::ts,h=>by
  unfold shBs at h
  rw[eX] at h
  obtain⟨a1,a2,a3⟩:=JK t h.1
  obtain⟨b1,b2,b3⟩:=shs_show ts h.2
  refine⟨?_,?_,?_⟩
  ·show(PyData.showable (dT t)&&jI (dTs ts))=true
   rw[a1,b1];rfl
  ·show(PyData.hasDict (dT t)||jT (dTs ts))=false
   rw[a2,b2];rfl
  ·show(PyData.leavesShort 13 (dT t)&&jh 13 (dTs ts))=true
   rw[a3,b3];rfl
end
section
variable{K:a8}{O:AG}{H:Hp}{P:Program}{w:World}{h:Heap}
mutual
theorem Rep.reads (hok:HOk P w H h):∀{v:V} {t:T} {u:Value},Rep K O H v t→EV t=true→RelV v u→∃as,Reads h u (dT t) as
 |_,_,_,.non,_,r=>by cases r;exact⟨_,.none⟩
 |_,_,_,.bl b,_,r=>by cases r;exact⟨_,.bool b⟩
 |_,_,_,.int i,_,r=>by obtain⟨t,rfl⟩:=r;exact⟨_,.int i t⟩
 |_,_,_,.str x,g,_=>by unfold EV at g;cases g
 |_,_,_,.tup (ts:=ts) e q,g,r=>by
  cases r
  obtain⟨_,its,rv,⟨o,e1,e2,n,e3⟩⟩:=(show ObjOk P w H h _ (.tup _) from hok _ _ e)
  obtain⟨as,ra⟩:=Reps.reads hok q (by unfold EV at g;exact g) rv
  exact⟨_,.tuple (vs:=its.toArray) e1 e2 e3 (by simpa using ra)⟩
 |_,_,_,.lst (ts:=ts) e _ q,g,r=>by
  cases r
  obtain⟨_,its,n,rv,e1⟩:=(show ObjOk P w H h _ (.lst _) from hok _ _ e)
  obtain⟨as,ra⟩:=Reps.reads hok q (by unfold EV at g;exact g) rv
  exact⟨_,.list (vs:=its.toArray) e1 rfl rfl (by simpa using ra)⟩
 |_,_,_,.frz _ _,g,_=>by unfold EV at g;cases g
 |_,_,_,.dct _,g,_=>by unfold EV at g;cases g
 |_,_,_,.raw v,g,_=>by unfold EV at g;cases g
theorem Reps.reads (hok:HOk P w H h):∀{vs:List V} {ts:List T} {us:List Value},Reps K O H vs ts→shBs ts=true→Vals vs us→∃as,ReadsAll h us (dTs ts) as
 |_,_,_,.nil,_,r=>by cases r;exact⟨_,.nil⟩
 |_,_,_,.cons a b,g,.cons r1 r2=>by
  unfold shBs at g
  rw[eX] at g
  obtain⟨as,x⟩:=Rep.reads hok a g.1 r1
  obtain⟨bs,y⟩:=Reps.reads hok b g.2 r2
  exact⟨_,.cons x y⟩
end
end
section
variable{X:Cx}
end
theorem Gy{i:Int}(h:i.natAbs<10^12):(dT (.int i)).weight≤42:=by
 have hl:i.natAbs.log2<40:=by
  by_cases h0:i.natAbs=0
  ·rw[h0];decide
  ·exact(Nat.log2_lt h0).mpr (dm h (by decide+kernel))
 simp only[dT,mX]
 split<;>omega
theorem XOk.mono{X:Cx}{W W':St→XK}(x:XOk X W)(h:∀σ cls H',W' σ cls none H'→W σ cls none H'):XOk X W':=
 ⟨fun pins σ H s h' y C I m q=>x.made pins σ H s h' y C I m (h σ _ H q),(XFly.mono x.f h).fly,x.own,fun pins σ H s y C t dx fs I a b c d q=>x.madeF pins σ H s y C t dx fs I a b c d (h σ _ H q)⟩
theorem Sy{P:Program}{w:World}{K:a8}{mg:Str→Option Value}{base:Heap}{x qual:Str}{st:Stmt}{f:Addr}{fd:dA}{N ps:List Str}{k:Nat}{sp:DR}(F:Fun K x qual st f fd)(S:FnScope N ps (AA st))(len:∀ts O Φ Ξ,sp ts O Φ Ξ→ts.length=ps.length)
  (h:∀(cdv:Value) (A:de) (outer:List Env) (s:Shared) (H:Hp) (E:XK) (O:AG) (Ξ:Value→AG→Prop),Room k (A.deeper (hZ qual (AA st) s.heap.objs.size f cdv))→XOk (zB P w K mg base N qual (AA st) f cdv A outer s H E O Ξ).X (zB P w K mg base N qual (AA st) f cdv A outer s H E O Ξ).W→
   ∀ts Φ,sp ts O Φ Ξ→DS (zB P w K mg base N qual (AA st) f cdv A outer s H E O Ξ) (CY N ts) O (AY st) {nx:=fun _ O'=>Φ .non O',rt:=Φ}):FnOk P w K mg base (CXe P w) (k+1) f fd ps (Dl K sp):=by
 refine F.okX S (fun vs H Q E h=>?_) (fun cdv A outer s H vs Q E hr h1=>?_)
 ·obtain⟨ts,O,Φ,Ξ,r,_,q,_⟩:=h
  rw[r.length];exact len ts O Φ Ξ q
 ·obtain⟨ts,O,Φ,Ξ,r,ok,q,acc,ex⟩:=h1
  refine⟨_,h cdv A outer s H E O Ξ hr (XOk.mono Ae ?_) ts Φ q,⟨EU r,.refl ok⟩,?_⟩
  ·rintro σ cls H' ⟨_,O',x,f⟩
   exact ex cls O' H' x f
  ·exact⟨fun ρ' O' σ' H' p a _=>acc _ _ _ O' p a.fr .non,fun v H' t O' p f r=>acc v H' t O' p f r,fun _ _ _ _ z=>z.elim,fun _ _ _ _ z=>z.elim⟩
theorem Frm.same{K:a8}{O O':AG}{H H' H'':Hp}(f:Frm K O H O' H')(s:Same H' H''):Frm K O H O' H'' where
 kp:=fun b o h n=> ⟨s b o (f.kp b o h n).1,(f.kp b o h n).2⟩
 own:=f.own
 ok:=fun a ts e=>by
  obtain⟨xs,h,r⟩:=f.ok a ts e
  exact⟨xs,s _ _ h,r.mono (fun b o h _=>s b o h) fun b xs h n=> ⟨s b _ h,n⟩⟩
theorem FH{K:a8}{O:AG}{H:Hp}:∀(ns:List Int),Reps K O H (ns.map V.int) (ns.map T.int)
 | []=> .nil
 |n::ns=> .cons (.int n) (FH ns)
section
variable{Z:Zx}{ρ:List (Option T)}{O:AG}{e a b:Expr}{es:List Expr}{Ψ:Es}{Φ:BL}{pos p:Pos}{t:T}{ts:List T}
def JL(C:Addr)(y:Str):Sp:=fun vs H Q _=>∃x,vs=[.ref x]∧Rd H x (Dp C x)∧∀H',Same H H'→Q (.str y) H'
theorem _root_.L2.Rd.upd{H:Hp}{x p:Addr}{u o:HO}(h:Rd H x u)(hp:H p=none):Rd (upd H p o) x u:=by
 rcases h with h| ⟨o',h⟩
 ·exact .inl (by rw[AH (AR h hp)];exact h)
 ·exact .inr ⟨o',by rw[AH (AR h hp)];exact h⟩
theorem _root_.L2.Rd.same{H H':Hp}{x:Addr}{u:HO}(h:Rd H x u)(s:Same H H'):Rd H' x u:=by
 rcases h with h| ⟨o',h⟩
 ·exact .inl (s _ _ h)
 ·exact .inr ⟨o',s _ _ h⟩
end
section
variable{Z:Zx}{ρ:List (Option T)}{O:AG}{e:Expr}{es:List Expr}{t:T}{ts us:List T}{Φ:BL}{Ψ:Es}{pos p2 p3 p4:Pos}{x:Str}
end
section
variable{Z:Zx}{ρ:List (Option T)}{O:AG}{es:List Expr}{ts:List T}{Ψ:Es}{pos p:Pos}{tg iter:Expr}{body:List Stmt}
structure HWE(Z:Zx)(ρ:List (Option T))(O:AG)(e:Expr)(Φ:BL):Prop where
 out:WE Z ρ O e Φ
theorem Sz(hp:kP (model Z.X.prog Z.X.w) Z.X.A Z.X.env Z.X.xe)(hc:Z.X.calm=true)(h:HWE Z ρ O iter fun t O'=>∃ts,t=.lst ts∧∃I:Nat→Fv,I 0 ρ O'∧
  (∀i t ρ' O',ts[i]?=some t→I i ρ' O'→∃ρ2,WG Z Z.X.N.length ρ' O' tg t ρ2∧HS Z ρ2 O' body {nx:=I (i+1),rt:=Ψ.rt,bk:=Ψ.nx,ct:=I (i+1)})∧∀ρ' O',I ts.length ρ' O'→Ψ.nx ρ' O')
  (hs:∀x,fP iter Z.X.env x=pure x):WS Z ρ O (.For tg iter body [] pos) Ψ:=
 BF hp hc (NC (DZ h.out (by
  rintro t O' ⟨ts,e,I,i0,st,fin⟩
  refine⟨ts,e,I,i0,fun i t ρ' O' e x=>?_,fin⟩
  obtain⟨ρ2,a,b⟩:=st i t ρ' O' e x
  exact⟨ρ2,a,b.out⟩))) hs
theorem Yj{P:Program}{w:World}{K:a8}{mg:Str→Option Value}{base:Heap}{x qual:Str}{st:Stmt}{f:Addr}{fd:dA}{N ps:List Str}{k:Nat}{sp:Sp}(F:Fun K x qual st f fd)(S:FnScope N ps (AA st))(len:∀vs H Q E,sp vs H Q E→vs.length=ps.length)
  (h:∀(cdv:Value) (A:de) (outer:List Env) (s:Shared) (H:Hp) (vs:List V) (Q:VK) (E:XK),Room k (A.deeper (hZ qual (AA st) s.heap.objs.size f cdv))→sp vs H Q E→
   ∃ts O Φ Ξ,Reps K O H vs ts∧OwnOk K O H∧(XFly (zB P w K mg base N qual (AA st) f cdv A outer s H E O Ξ).X (zB P w K mg base N qual (AA st) f cdv A outer s H E O Ξ).W→HS (zB P w K mg base N qual (AA st) f cdv A outer s H E O Ξ) (CY N ts) O (AY st) {nx:=fun _ O'=>Φ .non O',rt:=Φ})∧Acc K O H Φ Q∧∀cls O' H',Ξ cls O'→Frm K O H O' H'→E cls none H'):FnOk P w K mg base (CXe P w) (k+1) f fd ps sp:=by
 refine F.okX S len (fun cdv A outer s H vs Q E hr h1=>?_)
 obtain⟨ts,O,Φ,Ξ,r,ok,q,acc,ex⟩:=h cdv A outer s H vs Q E hr h1
 refine⟨_,(q (XFly.mono Ae.f ?_)).out,⟨EU r,.refl ok⟩,?_⟩
 ·rintro σ cls H' ⟨_,O',x,f⟩
  exact ex cls O' H' x f
 ·exact⟨fun ρ' O' σ' H' p a _=>acc _ _ _ O' p a.fr .non,fun v H' t O' p f r=>acc v H' t O' p f r,fun _ _ _ _ z=>z.elim,fun _ _ _ _ z=>z.elim⟩
end
def Ug:AG:=fun _=>none
theorem QX{K:a8}{H:Hp}:OwnOk K Ug H:=fun a ts e=>by cases e
theorem Uh{K:a8}{H H':Hp}{O':AG}{a:Addr}{xs:List V}(k:Kp Ug H O' H')(h:SqL K H a xs):SqL K H' a xs:=by
 rcases h with h|h
 ·refine .inl ?_
  rcases h with h| ⟨o,h⟩
  ·exact .inl (k a _ h rfl).1
  ·exact .inr ⟨o,(k a _ h rfl).1⟩
 ·exact .inr h
section
variable{Z:Zx}{ρ:List (Option T)}{O:AG}{e lo hi:Expr}{p p2 pos:Pos}{Φ:BL}
theorem Wa{a:Addr}{ns:List Int}{i j:Int}(ho:Z.Oe=Ug)(hS:SqL Z.K Z.He a (ns.map V.int))(h:ET Z ρ O e (.raw (.ref a)))(h1:ET Z ρ O lo (.int i))(h2:ET Z ρ O hi (.int j))
  (k:∀ms:List Int,ms.length≤ns.length→Φ (.lst (ms.map T.int)) O):WE Z ρ O (.Subscript e (.Slice (some lo) (some hi) none p2) pos) Φ:=by
 refine PE.weak (PH SM (Bv (ρ:=ρ)) (Mf (Bv (ρ:=ρ))) (Mf (Bv (ρ:=ρ)))) fun σ H0 Q q=>?_
 refine⟨O,_,h (fun t O'=>t=.raw (.ref a)∧O'=O) ⟨rfl,rfl⟩,q.1,?_⟩
 rintro v H1 _ _ ⟨rfl,rfl⟩ f1 r1
 refine⟨_,_,h1 (fun t O'=>t=.int i∧O'=_) ⟨rfl,rfl⟩,q.1.step f1,?_⟩
 rintro v2 H2 _ _ ⟨rfl,rfl⟩ f2 r2
 refine⟨i,r2.int_inv,_,_,h2 (fun t O'=>t=.int j∧O'=_) ⟨rfl,rfl⟩,q.1.step (f1.trans f2),?_⟩
 rintro v3 H3 _ _ ⟨rfl,rfl⟩ f3 r3
 refine⟨j,r3.int_inv,a,ns.map V.int,r1.raw_inv,Uh (ho▸(q.1.step (f1.trans (f2.trans f3))).fr.kp) hS,fun l hl=>?_⟩
 have ff:=f1.trans (f2.trans f3)
 have e:Nv (ns.map V.int) (some i) (some j)=((ns.drop (HT.Jf (ns.map V.int).length 0 (some i))).take (HT.Jf (ns.map V.int).length (ns.map V.int).length (some j)-HT.Jf (ns.map V.int).length 0 (some i))).map V.int:=by
  unfold Nv
  rw[←List.map_drop,←List.map_take]
 rw[e]
 refine q.2 _ _ _ _ (k _ ?_) (ff.trans (.new ff.ok hl)) (.lst AI (ff.ok.none_of hl) ((FH _).kp (BW ff.ok hl) ff.ok))
 rw[dI,gO]
 omega
theorem Wb{K:a8}{x y:Str}:RP K Zr (.str x) (.str y) O (.bl (!decide (x=y))):=fun Φ p H v w Q ok r1 r2 q=>by
 cases r1.str_inv
 cases r2.str_inv
 have e:decide (V.str x=V.str y)=decide (x=y):=by
  by_cases h:x=y
  ·subst h;simp
  ·have:V.str x≠V.str y:=fun z=>h (by injection z)
   simp[h]
 refine⟨rfl,?_⟩
 rw[e]
 exact q _ H _ O p (.refl ok) (.bl _)
theorem NK:dY "repr" =some (.builtin "repr"):=by decide+kernel
end
theorem TB:∀{ps qs:List (Int×Int)},ps.Pairwise FF→qs.Pairwise FF→(∀z,z∈ps↔z∈qs)→ps=qs:=by
 intro ps qs h1 h2 h3
 have nd:∀{l:List (Int×Int)},l.Pairwise FF→l.Nodup:=fun h=>h.imp fun{a b} h z=>by
  subst z
  unfold FF at h
  omega
 have pm:ps.Perm qs:=by
  refine List.perm_iff_count.mpr fun a=>?_
  have c1:=(nd h1).count (a:=a)
  have c2:=(nd h2).count (a:=a)
  rw[c1,c2]
  by_cases h:a∈ps
  ·rw[if_pos h,if_pos ((h3 a).mp h)]
  ·rw[if_neg h,if_neg fun z=>h ((h3 a).mpr z)]
 exact gZ.eq_of_pairwise (fun a b _ _ x y=>by unfold FF at x y;omega) h1 h2 pm
mutual
def DJ:T→Bool
 | .non=>true
 | .bl _=>true
 | .int _=>true
 | .str x=>PyData.strOk x
 | .tup ts=>rdBs ts
 | .lst ts=>rdBs ts
 | .frz _=>false
 | .dct=>false
 | .raw _=>false
def rdBs:List T→Bool
 | []=>true
 |t::ts=>DJ t&&rdBs ts
end
mutual
theorem DB:∀(t:T),DJ t=true→(dT t).canLay0=true
 | .non,_=>rfl
 | .bl _,_=>rfl
 | .int _,_=>rfl
 | .str x,h=>by unfold DJ at h;exact h
 | .tup ts,h=>rds_lay ts (by unfold DJ at h;exact h)
 | .lst ts,h=>rds_lay ts (by unfold DJ at h;exact h)
 | .frz _,h=>by unfold DJ at h;cases h
 | .dct,h=>by unfold DJ at h;cases h
 | .raw _,h=>by unfold DJ at h;cases h
theorem rds_lay:∀(ts:List T),rdBs ts=true→PyData.canLayAll0 (dTs ts)=true
 | [],_=>rfl
 |t::ts,h=>by
  unfold rdBs at h
  rw[eX] at h
  show(PyData.canLay0 (dT t)&&PyData.canLayAll0 (dTs ts))=true
  rw[DB t h.1,rds_lay ts h.2];rfl
end
section
variable{K:a8}{O:AG}{H:Hp}{P:Program}{w:World}{h:Heap}
mutual
theorem Rep.rd (hok:HOk P w H h):∀{v:V} {t:T} {u:Value},Rep K O H v t→DJ t=true→RelV v u→∃as,Reads h u (dT t) as
 |_,_,_,.non,_,r=>by cases r;exact⟨_,.none⟩
 |_,_,_,.bl b,_,r=>by cases r;exact⟨_,.bool b⟩
 |_,_,_,.int i,_,r=>by obtain⟨t,rfl⟩:=r;exact⟨_,.int i t⟩
 |_,_,_,.str x,_,r=>by obtain⟨t,rfl⟩:=r;exact⟨_,.str x t⟩
 |_,_,_,.tup (ts:=ts) e q,g,r=>by
  cases r
  obtain⟨_,its,rv,⟨o,e1,e2,n,e3⟩⟩:=(show ObjOk P w H h _ (.tup _) from hok _ _ e)
  obtain⟨as,ra⟩:=Reps.rd hok q (by unfold DJ at g;exact g) rv
  exact⟨_,.tuple (vs:=its.toArray) e1 e2 e3 (by simpa using ra)⟩
 |_,_,_,.lst (ts:=ts) e _ q,g,r=>by
  cases r
  obtain⟨_,its,n,rv,e1⟩:=(show ObjOk P w H h _ (.lst _) from hok _ _ e)
  obtain⟨as,ra⟩:=Reps.rd hok q (by unfold DJ at g;exact g) rv
  exact⟨_,.list (vs:=its.toArray) e1 rfl rfl (by simpa using ra)⟩
 |_,_,_,.frz _ _,g,_=>by unfold DJ at g;cases g
 |_,_,_,.dct _,g,_=>by unfold DJ at g;cases g
 |_,_,_,.raw v,g,_=>by unfold DJ at g;cases g
theorem Reps.rd (hok:HOk P w H h):∀{vs:List V} {ts:List T} {us:List Value},Reps K O H vs ts→rdBs ts=true→Vals vs us→∃as,ReadsAll h us (dTs ts) as
 |_,_,_,.nil,_,r=>by cases r;exact⟨_,.nil⟩
 |_,_,_,.cons a b,g,.cons r1 r2=>by
  unfold rdBs at g
  rw[eX] at g
  obtain⟨as,x⟩:=Rep.rd hok a g.1 r1
  obtain⟨bs,y⟩:=Reps.rd hok b g.2 r2
  exact⟨_,.cons x y⟩
end
end
section
variable{X:Cx}
def rD(K:a8)(g:PyData→PyData→Bool):R2:=fun x y H Q=>∃O t u,Rep K O H x t∧Rep K O H y u∧DJ t=true∧DJ u=true∧(dT t).depth≤100∧Q (.bl (g (dT t) (dT u))) H
theorem Wc(hu:X.A.units+101<cLine):DL X (gh .Eq) (rD X.K fun a b=>jr a b):=by
 intro pins s σ H x y v u Q I rx ry h
 obtain⟨O,t,t',r1,r2,g1,g2,hd,q⟩:=h
 obtain⟨as,ra⟩:=Rep.rd I.hok r1 g1 rx
 obtain⟨bs,rb⟩:=Rep.rd I.hok r2 g2 ry
 exact SeqAt.compareEq_reads ra rb (DB t g1) (DB t' g2) (by omega) ⟨.bl _,H,I,rfl,q⟩
theorem Wd(hu:X.A.units+101<cLine):DL X (gh .NotEq) (rD X.K fun a b=>!jr a b):=by
 intro pins s σ H x y v u Q I rx ry h
 obtain⟨O,t,t',r1,r2,g1,g2,hd,q⟩:=h
 obtain⟨as,ra⟩:=Rep.rd I.hok r1 g1 rx
 obtain⟨bs,rb⟩:=Rep.rd I.hok r2 g2 ry
 exact SeqAt.compareNe_reads ra rb (DB t g1) (DB t' g2) (by omega) ⟨.bl _,H,I,rfl,q⟩
def Zv(K:a8)(g:Bool→Bool):R2:=fun x y H Q=>∃O t us,Rep K O H x t∧(Rep K O H y (.tup us)∨Rep K O H y (.lst us))∧DJ t=true∧rdBs us=true∧(dT t).depth≤100∧Q (.bl (g ((dTs us).any fun y=>jr y (dT t)))) H
theorem Ui(hu:X.A.units+102<cLine):DL X (gh .In) (Zv X.K id):=by
 intro pins s σ H x y v u Q I rx ry h
 obtain⟨O,t,us,r1,r2,g1,g2,hd,q⟩:=h
 obtain⟨as,ra⟩:=Rep.rd I.hok r1 g1 rx
 rcases r2 with r2|r2
 ·obtain⟨bs,rb⟩:=Rep.rd I.hok r2 (by unfold DJ;exact g2) ry
  exact SeqAt.in_tuple_reads rb ra (rds_lay us g2) (DB t g1) (by omega) ⟨.bl _,H,I,rfl,q⟩
 ·obtain⟨bs,rb⟩:=Rep.rd I.hok r2 (by unfold DJ;exact g2) ry
  exact SeqAt.in_list_reads rb ra (rds_lay us g2) (DB t g1) (by omega) ⟨.bl _,H,I,rfl,q⟩
theorem We(hu:X.A.units+102<cLine):DL X (gh .NotIn) (Zv X.K (!·)):=by
 intro pins s σ H x y v u Q I rx ry h
 obtain⟨O,t,us,r1,r2,g1,g2,hd,q⟩:=h
 obtain⟨as,ra⟩:=Rep.rd I.hok r1 g1 rx
 rcases r2 with r2|r2
 ·obtain⟨bs,rb⟩:=Rep.rd I.hok r2 (by unfold DJ;exact g2) ry
  exact SeqAt.notIn_tuple_reads rb ra (rds_lay us g2) (DB t g1) (by omega) ⟨.bl _,H,I,rfl,q⟩
 ·obtain⟨bs,rb⟩:=Rep.rd I.hok r2 (by unfold DJ;exact g2) ry
  exact SeqAt.notIn_list_reads rb ra (rds_lay us g2) (DB t g1) (by omega) ⟨.bl _,H,I,rfl,q⟩
end
section
variable{K:a8}{O:AG}{t u:T}{us:List T}
theorem Yk{g:PyData→PyData→Bool}(h1:DJ t=true)(h2:DJ u=true)(hd:(dT t).depth≤100):RP K (rD K g) t u O (.bl (g (dT t) (dT u))):=fun Φ p H v w Q ok r1 r2 q=>
 ⟨O,t,u,r1,r2,h1,h2,hd,q _ H _ O p (.refl ok) (.bl _)⟩
theorem QY{g:Bool→Bool}(h1:DJ t=true)(h2:rdBs us=true)(hd:(dT t).depth≤100):RP K (Zv K g) t (.tup us) O (.bl (g ((dTs us).any fun y=>jr y (dT t)))):=fun Φ p H v w Q ok r1 r2 q=>
 ⟨O,t,us,r1,.inl r2,h1,h2,hd,q _ H _ O p (.refl ok) (.bl _)⟩
theorem Wf{g:Bool→Bool}(h1:DJ t=true)(h2:rdBs us=true)(hd:(dT t).depth≤100):RP K (Zv K g) t (.lst us) O (.bl (g ((dTs us).any fun y=>jr y (dT t)))):=fun Φ p H v w Q ok r1 r2 q=>
 ⟨O,t,us,r1,.inr r2,h1,h2,hd,q _ H _ O p (.refl ok) (.bl _)⟩
end
abbrev BU(n:Int)(ps:List (Int×Int)):T:=.tup [.int n,.tup (ps.map AC)]
end L2.TL
namespace L2
open PySem PySem.Spec PySem.Calls PyProof.Rows
section
variable{X:Cx}
variable{e:Expr}{te:TE}{p2 p3 p4 pos:Pos}
end
end L2
namespace L2.TL
open PySem PySem.Spec PySem.Calls PyProof.Rows
section
variable{Z:Zx}{ρ:List (Option T)}{O:AG}{e a b:Expr}{es:List Expr}{Ψ:Es}{Φ:BL}{pos p p1 pos1 p2 p3 p4:Pos}{t ta tb:T}{ts us:List T}{x:Str}
theorem WW.wt{Φ:JB}(h:WW Z ρ O e Φ):WT Z ρ O e Φ:=h.pt
def Kb:T→Bool
 | .non=>true
 |_=>false
theorem JM{j:Nat}(hr:Fd t=false)(ha:ET Z ρ O a t):EB Z ρ O (.Compare a [.Is] [.Constant .none j p1] pos) (Kb t):=BN Va (Au _) (fun Φ p H v w Q ok r1 r2 q=>by
 refine⟨r2.non_inv,?_⟩
 have e:decide (v=V.non)=Kb t:=by
  cases r1<;>first|rfl|cases hr
 rw[e]
 exact q _ H _ O p (.refl ok) (.bl _)) ha FB
def ah(C:Addr)(t:T):Sp:=fun vs H Q _=>∃x,vs=[.ref x]∧Rd H x (Dp C x)∧∀v H',Same H H'→(∀(K:a8) (O:AG),Rep K O H' v t)→Q v H'
end
section
variable{Z:Zx}{ρ:List (Option T)}{O O1 O2:AG}{c:Expr}{body ss:List Stmt}{Ψ:Es}{pos:Pos}
def ai(Z:Zx)(e:Expr):TT:=fun σ H Q=>∃ρ O Φ,WT Z ρ O e Φ∧XW Z ρ O Φ σ H Q
theorem Yl{e:Expr}:PT Z.X e (ai Z e):=fun pins s σ H Q I ⟨_,_,_,w,q⟩=>w pins s σ H Q I q
theorem QZ(hp:kP (model Z.X.prog Z.X.w) Z.X.A Z.X.env Z.X.xe)(I:Nat→Fv)(i0:∃m,I m ρ O)
  (step:∀m ρ' O',I m ρ' O'→WT Z ρ' O' c fun b O1=>if b=true then DS Z ρ' O1 body {nx:=fun ρ2 O2=>∃m',m'<m∧I m' ρ2 O2,rt:=Ψ.rt,bk:=Ψ.nx,ct:=fun ρ2 O2=>∃m',m'<m∧I m' ρ2 O2} else Ψ.nx ρ' O1):WS Z ρ O (.While c body [] pos) Ψ:=by
 refine PS.weak (Oy hp Yl KQ) fun D σ H q=>?_
 obtain⟨m0,i0⟩:=i0
 refine⟨fun m σ' H'=>∃ρ' O',I m ρ' O'∧Asr Z ρ' O' σ' H'∧Kp O H O' H',⟨m0,ρ,O,i0,q.1,.refl⟩,?_⟩
 rintro m σ1 H1 ⟨ρ1,O1,i1,a1,k1⟩
 refine⟨ρ1,O1,_,step m ρ1 O1 i1,a1,fun b H2 O2 p f=>?_⟩
 have kk:=k1.trans f.kp
 cases b with
 |true=>
  rw[if_pos rfl] at p
  show if true=true then _ else _
  rw[if_pos rfl]
  refine⟨fun σ2 H3=>∃ρ2 O3,(∃m',m'<m∧I m' ρ2 O3)∧Asr Z ρ2 O3 σ2 H3∧Kp O H O3 H3,?_,ρ1,O2,_,p,a1.step f,?_⟩
  ·rintro σ2 H3 ⟨ρ2,O3,⟨m',hm,i2⟩,a2,k2⟩
   exact⟨m',hm,ρ2,O3,i2,a2,k2⟩
  ·exact⟨fun ρ' O' σ' H' w a k=> ⟨ρ',O',w,a,kk.trans k⟩,q.2.rt,fun ρ' O' σ' H' w a k=>q.2.nx ρ' O' σ' H' w a (kk.trans k),fun ρ' O' σ' H' w a k=> ⟨ρ',O',w,a,kk.trans k⟩⟩
 |false=>
  rw[if_neg cf] at p
  show if false=true then _ else _
  rw[if_neg cf]
  exact q.2.nx ρ1 O2 σ1 H2 p (a1.step f) kk
theorem TC(hk:∀H,OwnOk Z.K O1 H→Kp O1 H O2 H∧OwnOk Z.K O2 H)(hf:∀b us vs,Z.Oe b=some us→O1 b=some vs→∃us',O2 b=some us')(h:DS Z ρ O2 ss Ψ):DS Z ρ O1 ss Ψ:=PSs.weak h fun D σ H q=>by
 obtain⟨k,ok⟩:=hk H q.1.ok
 exact⟨⟨q.1.rl.kp k q.1.ok,⟨q.1.fr.kp.trans k,fun b us e=>by
  obtain⟨vs,e'⟩:=q.1.fr.own b us e
  exact hf b us vs e e',ok⟩⟩,q.2.step k⟩
end
section
variable{O:AG}{rs:List (Addr×List T)}{r:Addr×List T}{p q l:Addr}{us vs:List T}
def Fe(O:AG)(rs:List (Addr×List T)):AG:=rs.foldl (fun O r=>Aa O r.1 r.2) O
theorem Bb:Fe O (r::rs)=Fe (Aa O r.1 r.2) rs:=rfl
theorem Kc:Fe O (rs++[r])=Aa (Fe O rs) r.1 r.2:=by unfold Fe;rw[List.foldl_append];rfl
theorem CK(h:∀r∈rs,r.1≠p):Fe O rs p=O p:=by
 induction rs generalizing O with
 |nil=>rfl
 |cons r rs ih=>
  rw[Bb,ih fun s hs=>h s (cX _ hs),AO (fun z=>h r (dw ..) z.symm)]
theorem Qa(h:∀r∈rs,r.1≠p):Aa (Fe O rs) p vs=Fe (Aa O p vs) rs:=by
 induction rs generalizing O with
 |nil=>rfl
 |cons r rs ih=>
  rw[Bb,ih fun s hs=>h s (cX _ hs),Bb,BJ (h r (dw ..))]
theorem CZ(hn:(rs.map dX).Nodup)(h:r∈rs):Fe O rs r.1=some r.2:=by
 induction rs generalizing O with
 |nil=>cases h
 |cons s rs ih=>
  rw[dv,dO] at hn
  rw[Bb]
  rcases da.mp h with rfl|h
  ·rw[CK fun s hs z=>hn.1 (df.mpr ⟨s,hs,z⟩),AD]
  ·exact ih hn.2 h
theorem TF{i:Nat}(hn:(rs.map dX).Nodup)(h:rs[i]?=some (p,us)):Aa (Fe O rs) p vs=Fe O (rs.set i (p,vs)):=by
 induction rs generalizing O i with
 |nil=>simp at h
 |cons s rs ih=>
  rw[dv,dO] at hn
  cases i with
  |zero=>
   simp at h
   subst h
   rw[List.set_cons_zero,Bb,Bb,Qa fun s hs z=>hn.1 (df.mpr ⟨s,hs,z⟩),BC]
  |succ i=>
   rw[List.set_cons_succ,Bb,Bb]
   exact ih hn.2 (by simpa using h)
theorem TH{i:Nat}(h:rs[i]?=some (p,us)):(rs.set i (p,vs)).map dX=rs.map dX:=by
 rw[i5]
 apply fv
 intro m
 by_cases hm:i=m
 ·subst hm
  have hl:=(cw.mp h).1
  rw[dr (by simpa using hl),cg,h];rfl
 ·rw[dz hm]
def Bf(r:Addr×List T):T:=.raw (.ref r.1)
theorem Ke{K:a8}{H:Hp}{O:AG}:∀{rs:List (Addr×List T)} {xs:List V},Reps K O H xs (rs.map Bf)→xs=rs.map fun r=>V.ref r.1
 | [],_,h=>h.nil_inv
 |r::rs,_,h=>by
  obtain⟨v,vs',rfl,h1,h2⟩:=h.cons_inv
  cases h1.raw_inv
  rw[Ke h2];rfl
theorem Kf{K:a8}{H:Hp}{O:AG}:∀{rs:List (Addr×List T)},(∀r∈rs,Rep K O H (.ref r.1) (.lst r.2))→Reps K O H (rs.map fun r=>V.ref r.1) (rs.map fun r=>T.lst r.2)
 | [],_=> .nil
 |r::rs,h=> .cons (h r (dw ..)) (Kf fun s hs=>h s (cX _ hs))
theorem Kg{Z:Zx}{ρ:List (Option T)}{ss:List Stmt}{Ψ:Es}(hn:(rs.map dX).Nodup)(hl:∀r∈rs,r.1≠l)(ho:∀r∈rs,O r.1=none)(he:∀r∈rs,Z.Oe r.1=none)
  (h:DS Z ρ (Aa O l (rs.map fun r=>T.lst r.2)) ss Ψ):DS Z ρ (Aa (Fe O rs) l (rs.map Bf)) ss Ψ:=by
 refine TC (fun H ok=>?_) (fun b us vs e1 e2=>?_) h
 ·have k:Kp (Aa (Fe O rs) l (rs.map Bf)) H (Aa O l (rs.map fun r=>T.lst r.2)) H:=fun b o hb n=> ⟨hb,by
   by_cases h1:b=l
   ·rw[h1,AD] at n;cases n
   ·rw[AO h1] at n ⊢
    by_cases h2:∃r∈rs,r.1=b
    ·obtain⟨r,hr,rfl⟩:=h2
     exact ho r hr
    ·rw[CK fun r hr z=>h2 ⟨r,hr,z⟩] at n
     exact n⟩
  refine⟨k,fun a ts e=>?_⟩
  by_cases h1:a=l
  ·subst h1
   rw[AD] at e
   cases e
   obtain⟨xs,hx,rx⟩:=ok a _ AD
   have:=Ke rx
   subst this
   refine⟨_,hx,Kf fun r hr=>?_⟩
   obtain⟨ys,hy,ry⟩:=ok r.1 r.2 (by rw[AO (hl r hr)];exact CZ hn hr)
   exact .lst hy (by rw[AO (hl r hr)];exact ho r hr) (ry.kp k ok)
  ·rw[AO h1] at e
   have hz:∀r∈rs,r.1≠a:=fun r hr z=>by rw[←z,ho r hr] at e;cases e
   obtain⟨xs,hx,rx⟩:=ok a ts (by rw[AO h1,CK hz];exact e)
   exact⟨xs,hx,rx.kp k ok⟩
 ·by_cases h1:b=l
  ·rw[h1];exact⟨_,AD⟩
  ·rw[AO h1] at e2 ⊢
   by_cases h2:∃r∈rs,r.1=b
   ·obtain⟨r,hr,rfl⟩:=h2
    rw[he r hr] at e1;cases e1
   ·rw[CK fun r hr z=>h2 ⟨r,hr,z⟩] at e2
    exact⟨_,e2⟩
end
theorem FI{Z:Zx}{ρ:List (Option T)}{O:AG}{elt tg iter:Expr}{ifs:List Expr}{csc:Scope}{nc:List Str}{cap:List (Str×Nat)}{pos:Pos}{i:Nat}{x:Str}{px spos:Pos}{Ψ:Es}(hsw:ju (.ListComp elt [⟨tg,iter,ifs,0⟩] csc pos) (some (.Name x px)) spos.line Z.X.env=pure true)(hN:Z.X.N.Nodup)(hc:Z.X.calm=true)(ok:LcOk Z.X csc nc cap)
  (h:WI Z ρ O tg iter (Sn Z ρ elt tg ifs csc nc cap fun acc O'=>∀a,O' a=none→Ψ.nx (ρ.set i (some (.raw (.ref a)))) (Aa O' a acc))) (hx:Z.X.N[i]?=some x:=by rfl) (hk:Z.X.env.scope.names.lookup x=some .local:=by rfl)
  (hs:∀x,fP iter Z.X.env x=pure x:=by intro _;rfl):WS Z ρ O (.Assign [.Name x px] (.ListComp elt [⟨tg,iter,ifs,0⟩] csc pos) spos) Ψ:=
 PS.weak (Jp hN hx hk hsw hc ok h WQ QM WR hs) fun D σ H q=>QN q.1 h fun acc O' p H' p1 n f nb=>q.2.nx _ _ _ H' (p1 p n) ⟨(q.1.step f).rl.set (.raw _),(q.1.step f).fr⟩ f.kp
section
variable{X:Cx}
theorem Kh{v:V}{u:Value}(h:RelV v u):∀n,Vals (cY n v) (cY n u)
 |0=> .nil
 |n+1=> .cons h (Kh h n)
theorem Ki{u:Value}:∀(n:Nat) (acc:Array Value),nY (fun x1 x2=>x1++x2) acc (cY n [u].toArray)=acc++(cY n u).toArray
 |0,acc=>by simp
 |n+1,acc=>by
  rw[List.replicate_succ,List.foldl_cons,Ki n]
  rw[List.replicate_succ]
  apply js
  simp
def Ym(K:a8):R2:=fun x y H Q=>∃(a:Addr) (i:Int) (v:V),x=.ref a∧y=.int i∧SqL K H a [v]∧(0≤i∧i≤1000)∧∀p,H p=none→Q (.ref p) (upd H p (.lst (cY i.toNat v)))
theorem TJ:DL X (iE .Mult) (Ym X.K):=by
 intro pins s σ H x y v u Q I rx ry h
 obtain⟨a,i,e,rfl,rfl,ha,hi,q⟩:=h
 cases rx
 obtain⟨tk,rfl⟩:=ry
 obtain⟨its,rv,p,_⟩:=I.list ha
 obtain⟨⟨cls,d,data,sl⟩,k,ho,hc,hdd,hd⟩:=id p
 simp only at hc hd
 subst hc hd
 obtain⟨u1,rfl,ru⟩:=Vals.one rv
 have hf:=I.hok.fresh (cW s.heap.objs.size)
 refine wpAny_binaryOp_repeat_ref (T:="list") (U:="int") (by decide) ⟨_,ho,rfl⟩ (fun s'=>typeIs_int s' i tk) noFill_list_mul F.fills_int_mul F.slot_int_rmul repeat_list F.slot_int_index.lookup
  (kU F.slot_int_rmul (typeIs_int s i tk) F.entry_int_rmul (F.args_int_rmul_2 _ _) (lm_int_rmul_list_any i tk a [u1].toArray k d sl)
   ⟨ho,rfl,⟨_,ho,rfl⟩,kU F.slot_list_mul ⟨_,ho,rfl⟩ F.entry_list_mul (F.args_list_mul_2 _ _)
    (lm_list_mul_any a [u1].toArray k d sl i tk (by simp[Builtin.List.listFitsIndex];omega) (by simp;omega) (by simp[Builtin.List.listTooLong,sizeLine];omega)) ⟨ho,?_⟩⟩)
 have ef:nY (fun x1 x2=>x1++x2) #[] (cY (if[u1].toArray.isEmpty=true then 0 else i.toNat) [u1].toArray)=(cY i.toNat u1).toArray:=by
  show nY (fun x1 x2=>x1++x2) #[] (cY i.toNat [u1].toArray)=_
  rw[Ki]
  simp
 rw[ef]
 exact⟨.ref _,_,I.laid (t':=s.toks) (o:=.lst (cY i.toNat e)) (fun b ob q=>cj _ q) (cW _) ⟨by rw[e9,eT];omega,cY i.toNat u1,0,Kh ru _,dy _ rfl⟩,rfl,q _ hf⟩
end
section
variable{Z:Zx}{ρ:List (Option T)}{O:AG}{a b:Expr}{t:T}{Φ:BL}{pos:Pos}{i:Int}
theorem Rep.repl{K:a8}{O:AG}{H:Hp}{v:V}{t:T}(h:Rep K O H v t):∀n,Reps K O H (cY n v) (cY n t)
 |0=> .nil
 |n+1=> .cons h (Rep.repl h n)
theorem TK(ha:ET Z ρ O a (.lst [t]))(hb:ET Z ρ O b (.int i))(hi:0≤i∧i≤1000)(k:∀p,O p=none→Φ (.raw (.ref p)) (Aa O p (cY i.toNat t))):WE Z ρ O (.BinOp a .Mult b pos) Φ:=
 FZ TJ (ET.we ha (ET.we hb fun H v w Q ok r1 r2 q=>by
  obtain⟨a,xs,rfl,h1,_,r1⟩:=r1.lst_inv
  obtain⟨v,rfl,g⟩:=r1.one_inv
  exact⟨a,i,v,rfl,r2.int_inv,.inl (.inl h1),hi,fun l hl=>q _ _ _ _ (k l (ok.none_of hl)) (.newO ok hl (Rep.repl g _)) (.raw _)⟩))
end
section
variable{Z:Zx}{ρ:List (Option T)}{O:AG}{body:List Stmt}{Ψ:Es}{pos:Pos}
end
end L2.TL
namespace L2
open PySem PySem.Spec PySem.Calls PyProof.Rows Builtin.ObjectAttr
structure XfC(K:a8)(C f:Addr):Prop where
 ob:∃nm q N R sn sub ab col dd k0 k1 k2 k3 k5,K.lookup C=some (mz nm q C N [.ref R] (.ref R::Fl) true sn sub ab col dd k0 k1 k2 k3 k5 "ValueError.__new__")∧lL K R Fl "ValueError.__new__" =true
 ini:dJ K (.ref C) "__init__" =some (some (.ref f))
 fn:PySem.W.typeIn K (.ref f)=some (.type "function")
 sa:dJ K (.ref C) "__setattr__" =some (some (.builtin "object.__setattr__"))
section
variable{prog:Program}{w:World}{A:de}{E:Value→Shared→Prop}{s:Shared}{K:a8}{x dx C f:Addr}{name:Str}{v:Value}
theorem XfC.cls(c:XfC K C f):∃cd R,je K C=some cd∧cd.hasDict=true∧cd.mro=.ref C::.ref R::Fl:=by
 obtain⟨nm,q,N,R,sn,sub,ab,col,dd,k0,k1,k2,k3,k5,e,_⟩:=c.ob
 have z:je K C=some {name:=nm,bases:=[.ref R],mro:=.ref C::.ref R::Fl,ns:=N,qualname:=q,hasDict:=true,slotNames:=sn,subclasses:=sub,abstract:=ab,collection:=col,hasDel:=false}:=by
  unfold je;rw[e]
 exact⟨_,R,z,rfl,rfl⟩
theorem MC(self:Value)(C R:Addr):refuseLoop self "__setattr__" (.ref C::.ref R::Fl)=pure ():=by
 rw[refuseLoop_ref,refuseLoop_ref]
 exact gk.passes self
theorem NL{R:ni→Shared→Prop}{ox:Obj}{od:Option Obj}{tk:Tok}(X:K.In s.heap)(I:jq s.heap x ox C od)(c:XfC K C f)(ht:dJ K (.ref C) name=some none)
  (h:wpAny (model prog w) A.in1 (storeInOwnDict (.ref x) (.ref C) (.str name tk) name v false) (fun fin s'=>match fin with| .done f=>R (.ok f) s'| .again c'=>c'.quiet=true∧iD (model prog w) A c' R s') (fun e s'=>R (.error e) s') s):
  iD (model prog w) A (.call (.builtin "object.__setattr__") ⟨[.ref x,.str name tk,v],[]⟩) R s:=by
 obtain⟨cd,Rr,hc,hd,hm⟩:=c.cls
 have z:fU K C (.type "object")=some true:=by
  unfold fU;rw[hc,Option.bind_some,hm];rfl
 have yes:gC (model prog w) s.heap (j8 (.ref x) (.type "object")) true:=I.type.andThen (iO X z)
 have ck:∀{Q:Unit→Shared→Prop} {E':Value→Shared→Prop},Q () s→wpAny (model prog w) A.in1 (jv "object.__setattr__" ⟨[.ref x,.str name tk,v],[]⟩) Q E' s:=fun{Q E'} q=>
  @PySem.W.check_slot (model prog w) A.in1 E' s "object.__setattr__" "object" "__setattr__" (.ref x) [.str name tk,v] [] Q gk.kind gk.split yes (gk.args (.ref x) (.str name tk) v) q
 refine gS gk.slot.plain gk.entry (ck ?_)
 have lm:gC (model prog w) s.heap (mroOf (.ref C)) cd.mro:=(ky X hc).andThen .now
 rw[PySem.W.osa_eq,refuse_eq]
 refine a9 (a9 (I.type.here (a9 (lm.here ?_))))
 rw[hm,MC]
 refine b9 (a9 (I.type.here (a9 ((gT X ht).here (a9 (b9 ?_))))))
 exact h
abbrev Fn(C:Addr)(d:Option Addr)(vs:Array Value):Obj:=⟨.ref C,d,.fields vs,#[]⟩
theorem Qb{vs:Array Value}{Q:Unit→Shared→Prop}(X:K.In s.heap)(hx:s.heap.get? x=some (Fn C none vs))(c:XfC K C f)(ht:dJ K (.ref C) name=some none)
  (h:∀h' d tk,s.heap.objs.size≤d→d≠x→h'.get? x=some (Fn C (some d) vs)→h'.Ns1 d (fun y=>if y=name then some v else none)→(∀b o,b≠x→s.heap.get? b=some o→h'.get? b=some o)→Q () {s with heap:=h',toks:=tk}):
  wpAny (model prog w) A (setAttr (.ref x) name v) Q E s:=by
 obtain⟨cd,Rr,hc,hd,hm⟩:=c.cls
 have I:jq s.heap x (Fn C none vs) C none:=⟨hx,rfl,rfl,trivial⟩
 refine PySem.W.set_plain X I c.sa ?_
 refine NL (s:={s with toks:=s.toks+1}) X I c ht ?_
 unfold storeInOwnDict
 refine a9 (b9 ?_)
 rw[if_neg (show¬(Value.ref C==iZ "module")=true from by simp)]
 refine a9 ?_
 show wpAny _ _ (lU x true) _ _ _
 unfold lU
 refine a9 (mj hx ?_)
 refine a9 (gC.here (s:={s with toks:=s.toks+1}) (ky X hc) ?_)
 rw[hd,if_neg (by decide)]
 have hx1:(s.heap.push {cls:=.type "dict",data:=.dict #[]}).get? x=some (Fn C none vs):=cj _ hx
 have ne:s.heap.objs.size≠x:=jV (dc hx)
 dsimp only
 rw[if_neg (by simp[typeHasDict])]
 refine a9 (nK (a9 (wpAny_update hx1 (b9 (a:=some s.heap.objs.size) ?_))))
 have hd1:((s.heap.push {cls:=.type "dict",data:=.dict #[]}).update x fun o=> {o with dict:=some s.heap.objs.size}).get? s.heap.objs.size=some {cls:=.type "dict",data:=.dict #[]}:=
  (fg _ _ ne.symm).trans (dy _ rfl)
 have hx2:((s.heap.push {cls:=.type "dict",data:=.dict #[]}).update x fun o=> {o with dict:=some s.heap.objs.size}).get? x=some (Fn C (some s.heap.objs.size) vs):=iz _ hx1 rfl
 show wpAny _ _ (storeInDict s.heap.objs.size (.str name s.toks) name v) _ _ _
 unfold storeInDict newKeyGuard
 refine a9 (b9 (a9 (wpAny_nsSet1 (Heap.Ns1.of_empty ⟨_,#[],_,hd1,rfl,fun e he=>absurd he (by simp),fun _=>rfl⟩) fun h' n' sb=>?_)))
 obtain⟨oD,esD,epD,hoD,hdD,hcD⟩:=n'.count (Within.cons name v Within.nil)
 refine a9 (wpAny_lookBehind hoD (by rw[hdD];exact pastItsLine_dict (dZ hcD (by rw[c9,gH,eT];omega))) ?_)
 refine b9 (h h' s.heap.objs.size _ (cW _) ne ((sb.2 x ne.symm).trans hx2) n' fun b o hb e=>?_)
 have hbs:b≠s.heap.objs.size:=dF (dc e)
 exact(sb.2 b hbs).trans ((fg _ _ (Ne.symm hb)).trans (cj _ e))
theorem Qc{vs:Array Value}{mA:Str→Option Value}{ns:List Str}{Q:Unit→Shared→Prop}(X:K.In s.heap)(hx:s.heap.get? x=some (Fn C (some dx) vs))(hn:s.heap.Ns1 dx mA)(hw:lZ mA ns)(hz:ns.length≤sizeLine)(c:XfC K C f)(ht:dJ K (.ref C) name=some none)
  (h:∀h' tk,h'.Ns1 dx (fun y=>if y=name then some v else mA y)→(∀b,b≠dx→h'.get? b=s.heap.get? b)→Q () {s with heap:=h',toks:=tk}):
  wpAny (model prog w) A (setAttr (.ref x) name v) Q E s:=by
 obtain⟨cd,Rr,hc,hd,hm⟩:=c.cls
 obtain⟨od,_,_,hod,_⟩:=id hn
 have I:jq s.heap x (Fn C (some dx) vs) C (some od):=⟨hx,rfl,rfl,hod⟩
 refine PySem.W.set_plain X I c.sa ?_
 refine NL (s:={s with toks:=s.toks+1}) X I c ht ?_
 unfold storeInOwnDict
 refine a9 (b9 ?_)
 rw[if_neg (show¬(Value.ref C==iZ "module")=true from by simp)]
 refine a9 ?_
 show wpAny _ _ (lU x true) _ _ _
 unfold lU
 refine a9 (mj hx ?_)
 refine a9 (gC.here (s:={s with toks:=s.toks+1}) (ky X hc) ?_)
 rw[hd,if_neg (by decide)]
 refine b9 (a:=some dx) ?_
 show wpAny _ _ (storeInDict dx (.str name s.toks) name v) _ _ _
 unfold storeInDict newKeyGuard
 refine a9 (b9 (a9 (wpAny_nsSet1 (s:={s with toks:=s.toks+1}) hn fun h' n' sb=>?_)))
 obtain⟨oD,esD,epD,hoD,hdD,hcD⟩:=n'.count (Within.cons name v hw)
 refine a9 (wpAny_lookBehind hoD (by rw[hdD];exact pastItsLine_dict (dZ hcD (by rw[c9];omega))) ?_)
 exact b9 (h h' _ n' sb.2)
end
section
variable{prog:Program}{w:World}{A:de}{E:Value→Shared→Prop}{s:Shared}{K:a8}{x dx C f:Addr}{name:Str}{v:Value}
theorem TM{ox:Obj}{mA:Str→Option Value}{b:Bool}{Q:Value→Shared→Prop}(X:K.In s.heap)(k:ExcCls K C)(hx:s.heap.get? x=some ox)(hc:ox.cls=.ref C)(hno:PySem.W.notCls ox=true)(hd:ox.dict=some dx)(hn:s.heap.Ns1 dx mA)(hh:iF K C=true)
  (ha:dJ K (.ref C) name=some none) (hv:mA name=some v) (hv':PySem.W.handedIn v=true) (h:Q v {s with toks:=s.toks+1}):wpAny (model prog w) A (getAttr (.ref x) name b) Q E s:=by
 obtain⟨od,hod,hl⟩:=Hj hn
 have J:jq s.heap x ox C (some od):=⟨hx,hc,hno,by rw[hd];exact hod⟩
 have L4:=PySem.W.looks_find (M:=model prog w) X J (PySem.W.findObj_own hh ha rfl (by rw[hl,hv]))
 have L0:=J.type (M:=model prog w)
 have L1:=gT (M:=model prog w) X k.ga
 have L2:=gT (M:=model prog w) X k.gn
 have L3:=iO (M:=model prog w) X k.be
 obtain⟨hp,g,d,t,os⟩:=s
 have hb:bindSpecial (.builtin "BaseException.__getattribute__") (.ref x)=pure (.builtin "BaseException.__getattribute__",[.ref x]):=iy.ga.bind _
 have e1:builtinKind "BaseException.__getattribute__" =some .slot:=by decide+kernel
 have e2:splitId "BaseException.__getattribute__" =some ("BaseException","__getattribute__"):=by decide+kernel
 have e3:(lK "BaseException.__getattribute__" ==lK "object.__getattribute__")=false:=by decide+kernel
 unfold getAttr getAttrBy
 refine a9 (wpAny_mkText (eC (a9 (L0.at (a9 (L1.at ?_))))))
 dsimp only
 rw[e3,jZ,if_neg cf]
 unfold getAttrByItsOwn hookBefore
 refine a9 (L2.at ?_)
 refine a9 (jb (eC ?_))
 unfold callGetattribute
 rw[show onTheHeap (.builtin "BaseException.__getattribute__")=false from rfl,jZ,if_neg cf]
 unfold boundAndCalled
 rw[hb]
 show wpAny _ _ (call (.builtin "BaseException.__getattribute__") [.ref x,.str name t]) _ _ _
 refine jl (gS iy.ga.plain PySem.F.entry_bexc_ga ?_)
 have e4:=PySem.F.args_bexc_ga (.ref x) (.str name t)
 simp only[jv,e1,e2]
 refine a9 ?_
 unfold j8
 refine a9 (L0.at (L3.at ?_))
 rw[if_neg (by decide)]
 refine kj e4 ?_
 show wpAny _ _ (nQ (.ref x)>>=fun tp=>Builtin.ObjectAttr.find (.ref x) tp name>>=_) _ _ _
 refine a9 (L0.at (a9 (L4.at (b9 ?_))))
 show wpAny _ _ (handedOut v) _ _ _
 rw[PySem.W.handedOut_of hv']
 exact b9 h
end
section
variable{prog:Program}{w:World}{A:de}{E:Value→Shared→Prop}{s:Shared}{K:a8}{C f:Addr}
theorem XfC.own(c:XfC K C f){h:Heap}(X:K.In h):∃nm q N R sn sub ab col dd k0 k1 k2 k3 k5,h.get? C=some (mz nm q C N [.ref R] (.ref R::Fl) true sn sub ab col dd k0 k1 k2 k3 k5 "ValueError.__new__")∧OwnTail h Fl (.ref R::Fl):=by
 obtain⟨nm,q,N,R,sn,sub,ab,col,dd,k0,k1,k2,k3,k5,e,r⟩:=c.ob
 obtain⟨bm,N',nm',qn',bs',hd',sn',sub',ab',col',dd',j0,j1,j2,j3,j5,mN,hC,hN,hni,T⟩:=SX X r
 exact⟨nm,q,N,R,sn,sub,ab,col,dd,k0,k1,k2,k3,k5,X _ _ e,.own hC hN hni .base⟩
theorem TN{us:List Value}{Q:Value→Shared→Prop}(X:K.In s.heap)(c:XfC K C f)(hl:us.length≤sizeLine)
  (h:iD (model prog w) (A.under (.builtin "type.__call__" ⟨.ref C::us,[]⟩)) (.call (.ref f) ⟨.ref (s.heap.objs.size+1)::us,[]⟩)
   (fun r s'=>match r with| .ok (.ret u)=>u=.none∧Q (.ref (s.heap.objs.size+1)) s'| .ok _=>False| .error e=>E e s')
   {s with heap:=(s.heap.push {cls:=.type "tuple",data:=.seq us.toArray}).push (Fn C none #[.ref s.heap.objs.size,.none,.none,.none,.bool false,.none])}):
  wpAny (model prog w) A (call (.ref C) us) Q E s:=by
 obtain⟨nm,q,N,R,sn,sub,ab,col,dd,k0,k1,k2,k3,k5,hC,T⟩:=c.own X
 have F:=PySem.F.excBase_ValueError
 obtain⟨hp,g,d,t,os⟩:=s
 have f1:=tc_lookup
 have f2:=tc_bind (.ref C)
 have hT:(⟨hp,g,d,t,os⟩:Shared).TypeIs (.ref C) "type":=⟨_,hC,rfl⟩
 refine jl (l8 ?_)
 show wpAny _ _ (callAny (.ref C) _) _ _ _
 repeat (any_goals (first|assumption| (with_reducible refine jQ hC ?_)|wp_step))
 refine⟨rfl,?_⟩
 refine codeAny_call_builtin_at (jK _ (by decide+kernel)) entry_typeCall (wpAny_check_type_call_sub hC ?_)
 repeat (first| (with_reducible refine jQ hC ?_)| (with_reducible refine wpAny_madeBy_exc hC ?_)|wp_step)
 refine codeAny_call_builtin_code (jK _ F.quiet) (wpAny_check_new_subT F T hC ?_)
 refine codeAny_exc_new_subT F T hC ?_ hl
 have kp:∀b o,hp.get? b=some o→((hp.push {cls:=.type "tuple",data:=.seq us.toArray}).push (Fn C none #[.ref hp.objs.size,.none,.none,.none,.bool false,.none])).get? b=some o:=fun b o e=>cj _ (cj _ e)
 have X2:K.In ((hp.push {cls:=.type "tuple",data:=.seq us.toArray}).push (Fn C none #[.ref hp.objs.size,.none,.none,.none,.bool false,.none])):=X.keeps kp
 have hx:((hp.push {cls:=.type "tuple",data:=.seq us.toArray}).push (Fn C none #[.ref hp.objs.size,.none,.none,.none,.bool false,.none])).get? (hp.objs.size+1)=some (Fn C none #[.ref hp.objs.size,.none,.none,.none,.bool false,.none]):=by
  have z:=dy (hp.push {cls:=.type "tuple",data:=.seq us.toArray}) (o:=Fn C none #[.ref hp.objs.size,.none,.none,.none,.bool false,.none]) rfl
  rw[fH] at z
  exact z
 have I2:jq ((hp.push {cls:=.type "tuple",data:=.seq us.toArray}).push (Fn C none #[.ref hp.objs.size,.none,.none,.none,.bool false,.none])) (hp.objs.size+1) (Fn C none #[.ref hp.objs.size,.none,.none,.none,.bool false,.none]) C none:=⟨hx,rfl,rfl,trivial⟩
 show wpAny _ _ (j8 (.ref (hp.objs.size+1)) (.ref C)>>=_) _ _ _
 refine a9 ?_
 unfold j8
 refine a9 (I2.type.at ?_)
 refine wpAny_isSubtype_exc (kp _ _ hC) ?_
 rw[show(Value.ref C::.ref R::Fl).contains (.ref C)=true from by simp,jg,if_neg cf]
 refine a9 (eC ?_)
 refine PySem.W.special_fn X2 I2 c.ini c.fn ?_
 refine jl (iY h fun r s' z=>?_)
 cases r with
 |error e=>exact z
 |ok fl=>
  cases fl with
  |ret u=>
   obtain⟨rfl,z⟩:=z
   exact b9 z
  |next=>exact z.elim
  |brk=>exact z.elim
  |cont=>exact z.elim
end
def aj(C x:Addr)(d:Option Addr)(vs:Array Value)(h:Heap):Prop:=h.get? x=some (Fn C d vs)
def Fw(C x:Addr)(d:Option Addr)(vs:Array Value):HO:=.ext (aj C x d vs)
abbrev HV(t:Addr):Array Value:=#[.ref t,.none,.none,.none,.bool false,.none]
theorem Qd{P:Program}{w:World}{H:Hp}{h:Heap}{C x:Addr}{d:Option Addr}{vs:Array Value}(e:h.get? x=some (Fn C d vs)):ObjOk P w H h x (Fw C x d vs):=⟨e,⟨_,e⟩,fun _ _ q k=>k _ q⟩
section
variable{X:Cx}{pins:List (Addr×Obj)}{σ:St}{H:Hp}{s:Shared}
theorem Inv.untrack{x:Addr}{o:HO}{φ:Heap→Prop}(I:Inv X pins σ (upd H x o) s)(hx:H x=none)(ho:o=.ext φ)(hs0:X.s₀.heap.get? x=none):Inv X pins σ H s:=by
 subst ho
 have ne:∀b u,(upd H x (.ext φ)) b=some u→(∀z,u≠.ext z)→b≠x∧H b=some u:=fun b u e z=>by
  have n:b≠x:=fun q=>by rw[q,AI] at e;exact z φ (dQ.inj e).symm
  exact⟨n,by rw[AH n] at e;exact e⟩
 have nn:∀b,(upd H x (.ext φ)) b=none→H b=none:=fun b e=>by
  have n:b≠x:=fun q=>by rw[q,AI] at e;cases e
  rw[AH n] at e;exact e
 refine⟨I.ok,I.os,I.bare,⟨I.base.keep,I.base.slot,fun b o e n hb=>nn b (I.base.free b o e n hb),I.base.there,fun b xs e=> (ne b _ (I.base.tups b xs e) (fun _ z=>nomatch z)).2,fun b o u e=> (ne b _ (I.base.frzs b o u e) (fun _ z=>nomatch z)).2,fun b ps e=>?_⟩,I.loc,I.cell,nn _ I.free,fun y c e=>nn _ (I.freeC y c e),fun p hp=>?_,fun b u e=>?_,I.len⟩
 ·obtain⟨m,q⟩:=I.base.tbls b ps e
  exact⟨m,(ne b _ q fun _ z=>nomatch z).2⟩
 ·obtain⟨a,b,r⟩:=I.pin p hp
  exact⟨a,nn _ b,r⟩
 ·have n:b≠x:=fun q=>by rw[q,hx] at e;cases e
  exact(I.hok b u (by rw[AH n];exact e)).stay (fun _ _ _ q=>q) (fun c q=> (ne c _ q fun _ z=>nomatch z).2) fun c xs q=> (ne c _ q fun _ z=>nomatch z).2
theorem Inv.dicted{C x d:Addr}{vs:Array Value}{fs:List (Str×V)}{h':Heap}{t':Nat}(I:Inv X pins σ H s)(hx:H x=some (Fw C x none vs))(hd:s.heap.objs.size≤d)(dn:d≠x)(e1:h'.get? x=some (Fn C (some d) vs))(e2:SW d fs h')(k:∀b o,b≠x→s.heap.get? b=some o→h'.get? b=some o):
  Inv X pins σ (upd (upd H x (Fw C x (some d) vs)) d (FW d fs)) {s with heap:=h',toks:=t'}:=by
 have hdn:H d=none:=I.hok.fresh hd
 have nx:∀b u,H b=some u→(∀z,u≠.ext z)→b≠x∧b≠d:=fun b u e z=> ⟨fun q=>by rw[q,hx] at e;exact z _ (dQ.inj e).symm,fun q=>by rw[q,hdn] at e;cases e⟩
 have st:∀b u,H b=some u→(∀z,u≠.ext z)→upd (upd H x (Fw C x (some d) vs)) d (FW d fs) b=some u:=fun b u e z=>by rw[AH (nx b u e z).2,AH (nx b u e z).1];exact e
 refine I.un ⟨fun b o e n _ _=>k b o (fun q=>by rw[q,hx] at n;cases n) e,fun b o e n _ _=> ⟨o.slots,k b o (fun q=>by rw[q,hx] at n;cases n) e⟩,fun b o e n _=>?_,fun b o e _=>?_,fun b xs e=>st b _ e (fun _ z=>nomatch z),fun b o u e=>st b _ e (fun _ z=>nomatch z),fun b ps e=> ⟨#[],by rw[st b _ e fun _ z=>nomatch z];simp⟩⟩ ?_
 ·rw[AH (dF (dm (dc e) hd)),AH (fun q=>by rw[q,hx] at n;cases n)]
  exact n
 ·by_cases q:b=x
  ·exact⟨_,by rw[q];exact e1⟩
  ·exact⟨o,k b o q e⟩
 ·intro b u e
  by_cases q:b=d
  ·rw[q,AI] at e;cases e
   rw[q];exact PV e2
  ·rw[AH q] at e
   by_cases q2:b=x
   ·rw[q2,AI] at e;cases e
    rw[q2];exact Qd e1
   ·rw[AH q2] at e
    refine(I.hok b u e).stay (fun c v hc z=>k c v ?_ z) (fun c z=>st c _ z fun _ z=>nomatch z) fun c xs z=>st c _ z fun _ z=>nomatch z
    rintro rfl
    rcases hc with rfl|hc
    ·exact q2 rfl
    ·rw[hx] at hc;cases hc
theorem Inv.dictMore{d:Addr}{fs fs':List (Str×V)}{h':Heap}{t':Nat}(I:Inv X pins σ H s)(hd:H d=some (FW d fs))(e:SW d fs' h')(k:∀b,b≠d→h'.get? b=s.heap.get? b):Inv X pins σ (upd H d (FW d fs')) {s with heap:=h',toks:=t'}:=
 I.write (x:=d) (e:=d) (by rw[hd];exact kW) (.inl rfl) (fun b u hb q=> (k b hb).trans q) (let⟨_,⟨o,_,_,z,_⟩,_⟩:=e;⟨o,z⟩) (PV e)
end
section
variable{X:Cx}{o value:Expr}{n:Str}{pos pos':Pos}{ta tv:TE}
def ak(K:a8)(ta tv:TE)(n:Str):TS:=fun D σ H=>tv σ H fun y H1=>ta σ H1 fun u H2=>∃x C f vs,u=.ref x∧H2 x=some (Fw C x none vs)∧XfC K C f∧dJ K (.ref C) n=some none∧∀d,H2 d=none→d≠x→D.nx σ (upd (upd H2 x (Fw C x (some d) vs)) d (FW d [(n,y)]))
theorem Wg(ha:PE X o ta)(hv:PE X value tv)(hs:ju value (some (.Attribute o n pos')) pos.line X.env=pure false):PS X (.Assign [.Attribute o n pos'] value pos) (ak X.K ta tv n):=by
 intro pins s σ H D I h
 refine plainObj_wpAny_Assign_Attribute (Aq (hv pins s σ H _ I h) fun u s1 ⟨y,H1,I1,ry,q⟩=>Aq (ha pins s1 σ H1 _ I1 q) fun ov s2 ⟨z,H2,I2,rz,x,C,f,vs,ex,hx,c,hn,q2⟩=>?_) hs
 subst ex
 obtain rfl:ov=Value.ref x:=rz
 obtain⟨e,_,_⟩:=(show ObjOk X.prog X.w H2 s2.heap x (Fw C x none vs) from I2.hok x _ hx)
 refine Qb I2.kIn e c hn fun h' d tk hd dn e1 e2 k=> ⟨σ,_,I2.dicted hx hd dn e1 ⟨_,e2,fun g=>?_,fun g hg=>?_⟩ k,q2 d (I2.hok.fresh hd) dn⟩
 ·show On (gW g [(n,y)]) (if g=n then some u else none)
  by_cases q:g=n
  ·rw[if_pos q,q]
   simp only[gW,beq_self_eq_true]
   exact ry
  ·rw[if_neg q]
   have b:(g==n)=false:=beq_eq_false_iff_ne.mpr q
   simp only[gW,b]
   trivial
 ·by_cases q:g=n
  ·rw[q];simp
  ·exact absurd (if_neg q) hg
def ao(K:a8)(ta tv:TE)(n:Str):TS:=fun D σ H=>tv σ H fun y H1=>ta σ H1 fun u H2=>∃x C f vs dx fs,u=.ref x∧H2 x=some (Fw C x (some dx) vs)∧H2 dx=some (FW dx fs)∧fs.length<100∧XfC K C f∧dJ K (.ref C) n=some none∧D.nx σ (upd H2 dx (FW dx (GO n y fs)))
theorem Wh(ha:PE X o ta)(hv:PE X value tv)(hs:ju value (some (.Attribute o n pos')) pos.line X.env=pure false):PS X (.Assign [.Attribute o n pos'] value pos) (ao X.K ta tv n):=by
 intro pins s σ H D I h
 refine plainObj_wpAny_Assign_Attribute (Aq (hv pins s σ H _ I h) fun u s1 ⟨y,H1,I1,ry,q⟩=>Aq (ha pins s1 σ H1 _ I1 q) fun ov s2 ⟨z,H2,I2,rz,x,C,f,vs,dx,fs,ex,hx,hdx,hl,c,hn,q2⟩=>?_) hs
 subst ex
 obtain rfl:ov=Value.ref x:=rz
 obtain⟨e,_,_⟩:=(show ObjOk X.prog X.w H2 s2.heap x (Fw C x (some dx) vs) from I2.hok x _ hx)
 obtain⟨⟨mA,n1,r,wi⟩,_,_⟩:=(show ObjOk X.prog X.w H2 s2.heap dx (FW dx fs) from I2.hok dx _ hdx)
 refine Qc I2.kIn e n1 wi (by rw[b8,eT];omega) c hn fun h' tk e2 k=> ⟨σ,_,I2.dictMore hdx ⟨_,e2,fun g=>?_,fun g hg=>?_⟩ k,q2⟩
 ·rw[FV]
  by_cases q:g=n
  ·rw[if_pos q,if_pos q];exact ry
  ·rw[if_neg q,if_neg q];exact r g
 ·by_cases q:g=n
  ·rw[q];exact(Et n y fs).1
  ·refine(Et n y fs).2 g (wi g fun z=>hg ?_)
   show(if g=n then some u else mA g)=none
   rw[if_neg q];exact z
end
def Qe(C:Addr)(ns:List Str):Sp:=fun vs H Q _=>∃(x t:Addr) (is:List Int),vs=.ref x::is.map V.int∧is.length=ns.length∧H x=some (Fw C x none (HV t))∧∀d,H d=none→d≠x→Q .non (upd (upd H x (Fw C x (some d) (HV t))) d (FW d (ns.zip (is.map V.int))))
theorem MD{M:Model}{A:de}{E:Value→Shared→Prop}{env:Env}{s:Shared}{x:Sem Value}{Q:Flow→Shared→Prop}{K:a8}{C f:Addr}(c:XfC K C f)(hh:A.handled=none)
  (h:wpAny M A x (fun v s1=>∃e t d,v=.ref e∧K.In s1.heap∧s1.heap.get? e=some (Fn C d (HV t))∧E (.ref e) s1) E s):wpAny M A (raiseStmt env (some x) none) Q E s:=by
 unfold raiseStmt
 refine a9 (gD h (fun v s1 h1=>?_) fun _ _ z=>z)
 obtain⟨e,t,dd,rfl,X,he,hE⟩:=h1
 obtain⟨nm,q,N,R,sn,sub,ab,col,dd',k0,k1,k2,k3,k5,hC,T⟩:=c.own X
 obtain⟨hp,g,d,tk,os⟩:=s1
 have hcB:(Value.ref C::.ref R::Fl).contains (.type "BaseException")=true:=by simp
 repeat (first| (with_reducible refine jQ he ?_)| (with_reducible refine jQ hC ?_)| ((with_reducible refine wpAny_isSubtype_exc hC ?_);rw[hcB])|wp_step)
 exact wpAny_raiseNew_none hh hE
theorem OU{X:Cx}{W:St→XK}{x:Str}{C f:Addr}{fd:dA}{ps ns:List Str}{k:Nat}{np cpos pos:Pos}{e:Expr}{es:List Expr}{t:TA}(xo:XOk X W)(hc:X.calm=true)(c:XfC X.K C f)(hkp:eM X.K (.ref C)=true)
  (F:FnOk X.prog X.w X.K X.mg X.base (CXe X.prog X.w) k f fd ps (Qe C ns)) (hr:Room (k+1) X.A) (hb:Binds X.K fd ps []) (hl:ns.length≤10) (hg:Gl X x) (hm:X.mg x=some (.ref C)) (ha:PA X (e::es) t)
  (hdb:(x==("__debug__" :Str))=false:=by decide) (he:cb (e::es) X.env=(false,eval e X.env)::cb es X.env:=by rfl) (hpl:(fY cpos (cb es X.env)).any (·.1)=false:=by rfl):
  PS X (.Raise (some (.Call (.Name x np) (e::es) [] cpos)) none pos) (fun D σ H=>t σ H fun vs H1=>∃(is:List Int) (fs:Str),vs=is.map V.int∧is.length=ns.length∧UP fs=ns.zip (is.map V.int)∧∀d,H1 d=none→W σ (.str fs C) none (upd H1 d (FW d (UP fs)))):=by
 intro pins s σ H D I h
 rw[arm_exec_Raise]
 refine a9 (ja (MD c (I.ok.hd hc) (a9 (Aq (Q:=fun v s1=>∃e t d,v=.ref e∧X.K.In s1.heap∧s1.heap.get? e=some (Fn C d (HV t))∧X.xe (.ref e) s1) ?_ fun v s3 q3=>a9 (ja (b9 q3))))))
 refine iw (EH I hg hm ?_ hdb)
 refine kZ (h₀:=X.base) I.ok.mod.kin hkp (Aq (ha cpos pins s σ H _ I h) fun us s1 ⟨vs,H1,I1,r,is,fs,ev,el,ef,q⟩=> ⟨I1.kIn,?_⟩) he hpl
 subst ev
 have lu:us.length=ns.length:=by rw[←r.length,b8];exact el
 have hx0:H1 (s1.heap.objs.size+1)=none:=I1.hok.fresh (mG _)
 have kp:∀b o,s1.heap.get? b=some o→((s1.heap.push {cls:=.type "tuple",data:=.seq us.toArray}).push (Fn C none (HV s1.heap.objs.size))).get? b=some o:=fun b o z=>cj _ (cj _ z)
 have gx:((s1.heap.push {cls:=.type "tuple",data:=.seq us.toArray}).push (Fn C none (HV s1.heap.objs.size))).get? (s1.heap.objs.size+1)=some (Fn C none (HV s1.heap.objs.size)):=by
  have z:=dy (s1.heap.push {cls:=.type "tuple",data:=.seq us.toArray}) (o:=Fn C none (HV s1.heap.objs.size)) rfl
  rw[fH] at z
  exact z
 have I2:Inv X pins σ (upd H1 (s1.heap.objs.size+1) (Fw C (s1.heap.objs.size+1) none (HV s1.heap.objs.size))) {s1 with heap:=(s1.heap.push {cls:=.type "tuple",data:=.seq us.toArray}).push (Fn C none (HV s1.heap.objs.size))}:=
  I1.laid (t':=s1.toks) kp (mG _) (Qd gx)
 have r2:Vals (V.ref (s1.heap.objs.size+1)::is.map V.int) (Value.ref (s1.heap.objs.size+1)::us):=.cons rfl r
 have hsp:Qe C ns (V.ref (s1.heap.objs.size+1)::is.map V.int) (upd H1 (s1.heap.objs.size+1) (Fw C (s1.heap.objs.size+1) none (HV s1.heap.objs.size))) (fun v H'=>v=.non∧∃d,H1 d=none∧d≠s1.heap.objs.size+1∧H'=upd (upd H1 (s1.heap.objs.size+1) (Fw C (s1.heap.objs.size+1) (some d) (HV s1.heap.objs.size))) d (FW d (ns.zip (is.map V.int)))) E0:=by
  refine⟨_,_,is,rfl,el,AI,fun d hd dn=> ⟨rfl,d,?_,dn,?_⟩⟩
  ·rw[AH dn] at hd;exact hd
  ·rw[MZ]
 have hlp:(Value.ref (s1.heap.objs.size+1)::us++[]).length=ps.length:=by
  have z:=F.len _ _ _ _ hsp
  rw[eZ,←z,c9,c9,b8,lu,el]
 show wpAny _ _ (call (.ref C) us) _ _ _
 refine TN I1.kIn c (by rw[lu,eT];omega) ?_
 refine iY (F.run _ X.stack _ _ ⟨Value.ref (s1.heap.objs.size+1)::us,[]⟩ (Value.ref (s1.heap.objs.size+1)::us) _ _ E0 (hr.make C us []) (I2.env0.make C us []) (by
  have z:=hb _ (Value.ref (s1.heap.objs.size+1)::us) I2.kIn hlp
  rw[eZ] at z;exact z) r2 hsp) fun r' s' hq'=>?_
 cases r' with
 |error e=>exact(CXe.never hq').elim
 |ok fl=>
  cases fl with
  |ret u=>
   obtain⟨v,H',I3,rv,ev,d,hd,dn,eH⟩:=I2.after hq'
   subst ev eH
   refine⟨rv,_,s1.heap.objs.size,some d,rfl,I3.kIn,?_,?_⟩
   ·have z:upd (upd H1 (s1.heap.objs.size+1) (Fw C (s1.heap.objs.size+1) (some d) (HV s1.heap.objs.size))) d (FW d (ns.zip (is.map V.int))) (s1.heap.objs.size+1)=some (Fw C (s1.heap.objs.size+1) (some d) (HV s1.heap.objs.size)):=by rw[AH (Ne.symm dn),AI]
    obtain⟨z,_,_⟩:=(show ObjOk X.prog X.w _ s'.heap _ (Fw C (s1.heap.objs.size+1) (some d) (HV s1.heap.objs.size)) from I3.hok _ _ z)
    exact z
   ·have hs0:X.s₀.heap.get? (s1.heap.objs.size+1)=none:=Heap.get?_none_of_le (dZ I1.sz (mG _))
    have ec:upd (upd H1 (s1.heap.objs.size+1) (Fw C (s1.heap.objs.size+1) (some d) (HV s1.heap.objs.size))) d (FW d (ns.zip (is.map V.int)))=upd (upd H1 d (FW d (ns.zip (is.map V.int)))) (s1.heap.objs.size+1) (Fw C (s1.heap.objs.size+1) (some d) (HV s1.heap.objs.size)):=by
     funext b
     unfold upd
     by_cases q1:b=d
     ·rw[if_pos q1,if_neg (fun z=>dn (q1.symm.trans z)),if_pos q1]
     ·rw[if_neg q1,if_neg q1]
    have z:upd (upd H1 (s1.heap.objs.size+1) (Fw C (s1.heap.objs.size+1) (some d) (HV s1.heap.objs.size))) d (FW d (ns.zip (is.map V.int))) (s1.heap.objs.size+1)=some (Fw C (s1.heap.objs.size+1) (some d) (HV s1.heap.objs.size)):=by rw[AH (Ne.symm dn),AI]
    obtain⟨gx',_,_⟩:=(show ObjOk X.prog X.w _ s'.heap _ (Fw C (s1.heap.objs.size+1) (some d) (HV s1.heap.objs.size)) from I3.hok _ _ z)
    rw[ec] at I3
    have hx1:upd H1 d (FW d (ns.zip (is.map V.int))) (s1.heap.objs.size+1)=none:=by rw[AH (Ne.symm dn)];exact hx0
    have I4:=I3.untrack hx1 rfl hs0
    rw[←ef] at I4 hx1
    exact xo.madeF pins σ _ s' _ C _ d fs I4 hx1 hs0 gx' AI (q d hd)
  |next=>exact fh hq'
  |brk=>exact fh hq'
  |cont=>exact fh hq'
end L2
namespace L2.TL
open PySem PySem.Spec PySem.Calls PyProof.Rows
structure XCl(P:Program)(w:World)(K:a8)(mg:Str→Option Value)(base:Heap)(x:Str)(C f:Addr)(ns:List Str):Prop where
 c:XfC K C f
 kp:eM K (.ref C)=true
 m:mg x=some (.ref C)
 fn:∃fd ps,FnOk P w K mg base (CXe P w) 1 f fd ps (Qe C ns)∧Binds K fd ps []
 ek:ExcCls K C
 nf:∀n∈ns,dJ K (.ref C) n=some none
 len:ns.length≤10
theorem XCl.hd{P:Program}{w:World}{K:a8}{mg:Str→Option Value}{base:Heap}{x:Str}{C f:Addr}{ns:List Str}(c:XCl P w K mg base x C f ns):iF K C=true:=by
 obtain⟨cd,R,h1,h2,_⟩:=c.c.cls
 unfold iF
 rw[h1];exact h2
theorem Kj(i j:Int):UP ⟨([2,UN i,UN j]:List Nat).toArray⟩=[(("many" :Str),V.int i),(("most" :Str),V.int j)]:=by show[(("many" :Str),V.int (UO (UN i))),(("most" :Str),V.int (UO (UN j)))]=_;rw[Mn,Mn]
abbrev Qf(C:Addr)(i j:Int):Value:=.str ⟨([2,UN i,UN j]:List Nat).toArray⟩ C
section
variable{Z:Zx}{ρ:List (Option T)}{O:AG}{e a b:Expr}{es:List Expr}{Ψ:Es}{Φ:BL}{pos p:Pos}{t:T}{ts:List T}{x:Str}
theorem OV{C f:Addr}{ns:List Str}{is:List Int}{fs:Str}{np cpos:Pos}(xo:XOk Z.X Z.W)(hc:Z.X.calm=true)(c:XCl Z.X.prog Z.X.w Z.X.K Z.X.mg Z.X.base x C f ns)(hr:Room 2 Z.X.A)(ha:EA Z ρ O (e::es) (is.map T.int))(hil:is.length=ns.length)(hfs:UP fs=ns.zip (is.map V.int))(h:Z.Xi (.str fs C) O)(hg:Gl Z.X x:=by rfl)
  (hdb:(x==("__debug__" :Str))=false:=by decide) (he:cb (e::es) Z.X.env=(false,eval e Z.X.env)::cb es Z.X.env:=by rfl) (hpl:(fY cpos (cb es Z.X.env)).any (·.1)=false:=by rfl):WS Z ρ O (.Raise (some (.Call (.Name x np) (e::es) [] cpos)) none pos) Ψ:=by
 obtain⟨fd,ps,F,hb⟩:=c.fn
 refine PS.weak (OU xo hc c.c c.kp F hr hb c.len hg c.m (Gm (ρ:=ρ)) hdb he hpl) fun D σ H q=>?_
 refine⟨O,_,ha (fun ts O'=>ts=is.map T.int∧O'=O) ⟨rfl,rfl⟩,q.1,fun vs H1 ts O1 p f r=>?_⟩
 obtain⟨rfl,rfl⟩:=p
 exact⟨is,fs,r.ints,hil,hfs,fun d hd=> ⟨rfl,O1,h,(q.1.fr.trans f).trans (.new f.ok hd)⟩⟩
def _root_.L2.TL.Zx.Wr(Z:Zx)(ρ:List (Option T)):St→XK:=fun σ cls d H'=>d=none∧∃O',Z.Xi cls O'∧Frm Z.K Z.Oe Z.He O' H'∧Rl Z.K O' H' σ ρ
theorem Qg{k:Nat}{ps:List Str}{s:DR}(G:FnT Z.X.prog Z.X.w Z.X.K Z.X.mg Z.X.base x k ps s)(hr:Room k Z.X.A)(xf:XFly Z.X (Z.Wr ρ))(h:WA Z ρ O (e::es) fun ts O1=>s ts O1 Φ Z.Xi)(hg:Gl Z.X x:=by rfl)
  (hdb:(x==("__debug__" :Str))=false:=by decide) (he:cb (e::es) Z.X.env=(false,eval e Z.X.env)::cb es Z.X.env:=by rfl) (hpl:(fY pos (cb es Z.X.env)).any (·.1)=false:=by rfl):WE Z ρ O (.Call (.Name x p) (e::es) [] pos) Φ:=by
 obtain⟨f,fd,F,hm,hk,hb⟩:=G.ex
 refine PE.weak (GT xf F hr hg hm hk hb (Gm (ρ:=ρ)) hdb he hpl) fun σ H Q q=>?_
 exact⟨O,_,h,q.1,fun vs H1 ts O1 p f r=> ⟨ts,O1,Φ,Z.Xi,r,f.ok,p,q.2.step f,fun cls O' H' x f'=> ⟨rfl,O',x,(q.1.fr.trans f).trans f',(q.1.rl.kp f.kp q.1.ok).kp f'.kp f.ok⟩⟩⟩
theorem Rl.unset{K:a8}{O:AG}{H:Hp}{σ:St}{ρ:List (Option T)}{i:Nat}(r:Rl K O H σ ρ):Rl K O H (σ.set i none) (ρ.set i none):=⟨by simpa using r.1,fun j u e=>by
 by_cases hj:j=i
 ·subst hj
  have hl:j<ρ.length:=by
   have:=(cw.mp e).1
   simpa using this
  rw[dr hl] at e
  cases e
 ·rw[dz (Ne.symm hj)] at e ⊢
  exact r.2 j u e⟩
def bN(i:Nat)(Ψ:Es):Es:={nx:=fun ρ' O'=>Ψ.nx (ρ'.set i none) O',rt:=Ψ.rt,bk:=fun ρ' O'=>Ψ.bk (ρ'.set i none) O',ct:=fun ρ' O'=>Ψ.ct (ρ'.set i none) O'}
abbrev zH(Z:Zx)(x:Addr)(O:AG)(H:Hp):Zx:=⟨UQ Z.X x,O,H,fun _ _=>False⟩
theorem TQ{i:Nat}{n bx:Str}{B:Addr}{np hpos:Pos}{body suite:List Stmt}{b₀:Stmt}(Cs:Value→AG→Prop)
  (hbody:∀pins E' H,Frm Z.K Z.Oe Z.He O H→XFly (CD Z.X pins E') (Zx.Wr ⟨CD Z.X pins E',O,H,Cs⟩ ρ)→DS ⟨CD Z.X pins E',O,H,Cs⟩ ρ O body Ψ)
  (kc:∀cls O',Cs cls O'→∃C,(cls=.ref C∨∃fs,cls=.str fs C)∧fE Z.X.K (.ref C) (.ref B)=some true)
  (hsuite:∀y cls O' C x o H',Cs cls O'→HK cls C x H' o→Frm Z.K Z.Oe Z.He O' H'→H' x=none→DS (zH Z y O' (upd H' x o)) (ρ.set i (some (.raw (.ref x)))) O' (b₀::suite) (bN i Ψ))
  (hst:Z.X.stack=Z.X.env::Z.X.outer) (hex:Z.X.ex=[]) (hfr:Z.X.env.frame=some Z.X.env.locals) (hN:Z.X.N.Nodup) (hi:Z.X.N[i]?=some n) (hk:Z.X.env.scope.names.lookup n=some .local) (hmB:Z.X.mg bx=some (.ref B)) (hbe:fU Z.X.K B (.type "BaseException")=some true)
  (hgB:Gl Z.X bx) (hd2:(bx==("__debug__" :Str))=false):
  WS Z ρ O (.Try body [.ExceptHandler (some (.Name bx np)) (some n) (b₀::suite) hpos] [] [] pos) Ψ:=by
 have hb1:∀(W:St→XK) (X':Cx),TryIs Z.X X'→XFly X' W→PSs X' body (fun D σ H=>tS Z ρ O Ψ D σ H∧∀(σ':St) cls O' H',Cs cls O'→Frm Z.K O H O' H'→Rl Z.K O' H' σ' ρ→W σ' cls none H'):=by
  rintro W X' ⟨pins0,E',rfl⟩ xf
  intro pins s σ H D I ⟨⟨a,acc⟩,hw⟩
  refine hbody pins0 E' H a.fr ⟨fun pins1 σ1 H1 s1 e s2 I1 c=>xf.fly pins1 σ1 H1 s1 e s2 I1 ?_⟩ pins s σ H D I ⟨⟨a.rl,.refl a.ok⟩,⟨fun ρ' O' σ' H' p a' k=>acc.nx ρ' O' σ' H' p ⟨a'.rl,a.fr.trans a'.fr⟩ k,fun v H' t O' p f r=>acc.rt v H' t O' p (a.fr.trans f) r,fun ρ' O' σ' H' p a' k=>acc.bk ρ' O' σ' H' p ⟨a'.rl,a.fr.trans a'.fr⟩ k,fun ρ' O' σ' H' p a' k=>acc.ct ρ' O' σ' H' p ⟨a'.rl,a.fr.trans a'.fr⟩ k⟩⟩
  obtain⟨x,cls,H',e1,fl,_,O',hc,f,rl⟩:=c
  exact⟨x,cls,H',e1,fl,hw σ1 cls O' H' hc f rl⟩
 have hh1:∀y,PSs (UQ Z.X y) (b₀::suite) (fun D σ H=>∃z cls O' C o H',Cs cls O'∧HK cls C z H' o∧Frm Z.K Z.Oe Z.He O' H'∧H' z=none∧tS (zH Z z O' (upd H' z o)) (ρ.set i (some (.raw (.ref z)))) O' (bN i Ψ) D σ H):=by
  rintro y pins s σ H D I ⟨z,cls,O',C,o,H',c,hk',f,hz,q⟩
  exact hsuite y cls O' C z o H' c hk' f hz pins s σ _ D I ⟨⟨q.1.rl,q.1.fr⟩,⟨fun ρ' O' σ' H' p a k=>q.2.nx ρ' O' σ' H' p ⟨a.rl,a.fr⟩ k,q.2.rt,fun ρ' O' σ' H' p a k=>q.2.bk ρ' O' σ' H' p ⟨a.rl,a.fr⟩ k,fun ρ' O' σ' H' p a k=>q.2.ct ρ' O' σ' H' p ⟨a.rl,a.fr⟩ k⟩⟩
 refine PS.weak (PZ (i:=i) hst hex hfr hN hi hk hgB hmB hbe hb1 hh1 hd2) fun D σ H q=>?_
 refine⟨q,?_⟩
 intro σ' cls O' H' hc f rl
 obtain⟨C,h1,h2⟩:=kc cls O' hc
 refine⟨C,h1,h2,fun z o hz hk'=> ⟨z,cls,O',C,o,H',hc,hk',q.1.fr.trans f,hz,⟨(rl.kp (BW f.ok hz) f.ok).set (.raw _),.refl (Frm.new f.ok hz).ok⟩,?_⟩⟩
 have g:Frm Z.K Z.Oe Z.He O' (upd H' z o):=(q.1.fr.trans f).trans (.new f.ok hz)
 have k0:TL.Kp O H O' (upd H' z o):=f.kp.trans (BW f.ok hz)
 exact⟨fun ρ2 O2 σ2 H2 p a2 k2=>q.2.nx _ O2 _ H2 p ⟨Rl.unset a2.rl,g.trans a2.fr⟩ (k0.trans k2),fun v H2 t O2 p f2 r=>q.2.rt v H2 t O2 p (g.trans f2) r,
  fun ρ2 O2 σ2 H2 p a2 k2=>q.2.bk _ O2 _ H2 p ⟨Rl.unset a2.rl,g.trans a2.fr⟩ (k0.trans k2),fun ρ2 O2 σ2 H2 p a2 k2=>q.2.ct _ O2 _ H2 p ⟨Rl.unset a2.rl,g.trans a2.fr⟩ (k0.trans k2)⟩
end
end L2.TL
namespace L2
open PySem PySem.Spec PySem.Calls PyProof.Rows
theorem TR{X:Cx}{e:Expr}{f:Str}{pos:Pos}{te:TE}(he:PE X e te)(hb:jd e f X.env (eval e X.env)=eval e X.env):PE X (.Attribute e f pos) (fun σ H Q=>te σ H fun u H1=>∃(x C:Addr) (ox:Obj) (dx:Addr) (vs:Array Value) (fs:List (Str×V)) (i:Int),u=.ref x∧H1 x=some (.frz ox (Dp C x))∧ox=⟨.ref C,some dx,.fields vs,ox.slots⟩∧H1 dx=some (FW dx fs)∧ExcCls X.K C∧iF X.K C=true∧dJ X.K (.ref C) f=some none∧fs.lookup f=some (.int i)∧Q (.int i) H1):=by
 intro pins s σ H Q I h
 refine SJ hb (Aq (he pins s σ H _ I h) fun u s1 ⟨z,H1,I1,rz,x,C,ox,dx,vs,fs,i,ez,hx,eo,hdx,k,hh,hn,hl,q⟩=>?_)
 subst ez
 obtain rfl:u=Value.ref x:=rz
 obtain⟨e1,_⟩:=(show ObjOk X.prog X.w H1 s1.heap x (.frz ox (Dp C x)) from I1.hok x _ hx)
 obtain⟨⟨mA,n1,r,_⟩,_,_⟩:=(show ObjOk X.prog X.w H1 s1.heap dx (FW dx fs) from I1.hok dx _ hdx)
 have rf:=r f
 rw[hl] at rf
 cases em:mA f with
 |none=>rw[em] at rf;exact rf.elim
 |some u=>
  rw[em] at rf
  obtain⟨tk,rfl⟩:=(show∃tk,u=jM i tk from rf)
  have eo1:ox.cls=.ref C:=by rw[eo]
  have eo2:PySem.W.notCls ox=true:=by rw[eo];rfl
  have eo3:ox.dict=some dx:=by rw[eo]
  exact TM I1.kIn k e1 eo1 eo2 eo3 n1 hh hn em rfl ⟨.int i,H1,I1.tok _,⟨tk,rfl⟩,q⟩
end L2
namespace L2.TL
open PySem PySem.Spec PySem.Calls PyProof.Rows
structure ExF(Z:Zx)(x C:Addr)(fs:List (Str×V)):Prop where
 ex:∃ox dx vs,Z.He x=some (.frz ox (Dp C x))∧ox=⟨.ref C,some dx,.fields vs,ox.slots⟩∧Z.He dx=some (FW dx fs)∧Z.Oe x=none∧Z.Oe dx=none
structure ExC(Z:Zx)(x C:Addr):Prop where
 rd:Rd Z.He x (Dp C x)
 no:Z.Oe x=none
section
variable{Z:Zx}{ρ:List (Option T)}{O O':AG}{e a b:Expr}{es:List Expr}{Ψ:Es}{Φ:BL}{pos p:Pos}{t:T}{ts:List T}{x y C D:Addr}{H':Hp}{o:HO}{cls:Value}{fs:Str}
theorem HK.exc(h:HK cls C x H' o)(f:Frm Z.K Z.Oe Z.He O' H')(hz:H' x=none):ExC (zH Z y O' (upd H' x o)) x C:=by
 refine⟨?_,f.ok.none_of hz⟩
 rcases h with⟨_,rfl⟩| ⟨_,ox,_,_,_,rfl,_⟩
 ·exact .inl AI
 ·exact .inr ⟨ox,AI⟩
theorem HK.cls_of(h:HK (.str fs C) D x H' o):D=C:=by
 rcases h with⟨e,_⟩| ⟨_,_,_,_,e,_⟩
 ·cases e
 ·cases e;rfl
theorem HK.exf(h:HK (.str fs C) D x H' o)(f:Frm Z.K Z.Oe Z.He O' H')(hz:H' x=none):ExF (zH Z y O' (upd H' x o)) x C (UP fs):=by
 rcases h with⟨e,_⟩| ⟨_,ox,dx,vs,e,rfl,eo,hd⟩
 ·cases e
 ·cases e
  exact⟨ox,dx,vs,AI,eo,by show upd H' x _ dx=_;rw[AH (AR hd hz)];exact hd,f.ok.none_of hz,f.ok.free hd (fun _ z=>nomatch z)⟩
theorem Fy{n:Str}{i:Int}{gs:List (Str×V)}(k:ExcCls Z.K C)(hh:iF Z.K C=true)(hn:dJ Z.K (.ref C) n=some none)(hx:ExF Z x C gs)(h:ET Z ρ O e (.raw (.ref x)))(hl:gs.lookup n=some (.int i))(hb:jd e n Z.X.env (eval e Z.X.env)=eval e Z.X.env:=by rfl):ET Z ρ O (.Attribute e n pos) (.int i):=fun Φ p=>
 PE.weak (TR (Bv (ρ:=ρ)) hb) fun σ H Q q=>by
  refine⟨O,_,h (fun t O'=>t=.raw (.ref x)∧O'=O) ⟨rfl,rfl⟩,q.1,fun v H1 t O1 p1 f r=>?_⟩
  obtain⟨rfl,rfl⟩:=p1
  obtain⟨ox,dx,vs,h1,h2,h3,h4,h5⟩:=hx.ex
  have kk:=(q.1.fr.trans f).kp
  exact⟨x,C,ox,dx,vs,gs,i,r.raw_inv,(kk _ _ h1 h4).1,h2,(kk _ _ h3 h5).1,k,hh,hn,hl,q.2 _ _ _ O1 p f (.int i)⟩
theorem IL{k:Nat}{f:Addr}{fd:dA}{ps:List Str}{sp:Sp}{g:Str}(F:FnH Z.X.prog Z.X.w Z.X.K Z.X.mg Z.X.base k f fd ps sp)(hm:Z.X.mg g=some (.ref f))(hk:eM Z.X.K (.ref f)=true)(hb:Binds Z.X.K fd ps [])(hr:RoomH k Z.X.A)(h:EA Z ρ O (e::es) ts)
  (w:∀σ H vs Q,Asr Z ρ O σ H→Reps Z.K O H vs ts→Acc Z.K O H Φ Q→sp vs H Q E0) (hg:Gl Z.X g:=by rfl) (hdb:(g==("__debug__" :Str))=false:=by decide) (he:cb (e::es) Z.X.env=(false,eval e Z.X.env)::cb es Z.X.env:=by rfl) (hpl:(fY pos (cb es Z.X.env)).any (·.1)=false:=by rfl):
  WE Z ρ O (.Call (.Name g p) (e::es) [] pos) Φ:=by
 refine PE.weak (Pa F hr hg hm hk hb (Gm (ρ:=ρ)) hdb he hpl) fun σ H Q q=>?_
 refine⟨O,_,h (fun ts' O'=>ts'=ts∧O'=O) ⟨rfl,rfl⟩,q.1,fun vs H1 ts1 O1 p1 f1 r=>?_⟩
 obtain⟨rfl,rfl⟩:=p1
 exact w σ H1 vs Q (q.1.step f1) r (q.2.step f1)
theorem Qh{k:Nat}{f:Addr}{fd:dA}{ps:List Str}{g:Str}(F:FnH Z.X.prog Z.X.w Z.X.K Z.X.mg Z.X.base k f fd ps (ah C t))(hm:Z.X.mg g=some (.ref f))(hk:eM Z.X.K (.ref f)=true)(hb:Binds Z.X.K fd ps [])(hr:RoomH k Z.X.A)(hx:ExC Z x C)(h:ET Z ρ O e (.raw (.ref x)))
  (hg:Gl Z.X g:=by rfl) (hdb:(g==("__debug__" :Str))=false:=by decide) (he:cb [e] Z.X.env=(false,eval e Z.X.env)::cb [] Z.X.env:=by rfl) (hpl:(fY pos (cb [] Z.X.env)).any (·.1)=false:=by rfl):ET Z ρ O (.Call (.Name g p) [e] [] pos) t:=fun Φ p=>
 IL F hm hk hb hr (AL h AE he) (fun σ H vs Q a r acc=>by
  obtain⟨v,rfl,r1⟩:=r.one_inv
  cases r1.raw_inv
  have rd:Rd H x (Dp C x):=by
   rcases hx.rd with z| ⟨o',z⟩
   ·exact .inl (a.fr.kp _ _ z hx.no).1
   ·exact .inr ⟨o',(a.fr.kp _ _ z hx.no).1⟩
  exact⟨x,rfl,rd,fun v H2 sm rp=>acc v H2 t O p (Frm.same (.refl a.ok) sm) (rp _ _)⟩) hg hdb he hpl
structure FnHT(P:Program)(w:World)(K:a8)(mg:Str→Option Value)(base:Heap)(x:Str)(k:Nat)(ps:List Str)(s:DR):Prop where
 ex:∃f fd,FnH P w K mg base k f fd ps (Dl K s)∧mg x=some (.ref f)∧eM K (.ref f)=true∧Binds K fd ps []
theorem Qi{k:Nat}{ps:List Str}{g:Str}{φ:List T→T→Prop}(G:FnHT Z.X.prog Z.X.w Z.X.K Z.X.mg Z.X.base g k ps (Ry φ))(hr:RoomH k Z.X.A)(h:EA Z ρ O (e::es) ts)(hs:φ ts t)(hg:Gl Z.X g:=by rfl)(hdb:(g==("__debug__" :Str))=false:=by decide)
  (he:cb (e::es) Z.X.env=(false,eval e Z.X.env)::cb es Z.X.env:=by rfl) (hpl:(fY pos (cb es Z.X.env)).any (·.1)=false:=by rfl):ET Z ρ O (.Call (.Name g p) (e::es) [] pos) t:=fun Φ p=>by
 obtain⟨f,fd,F,hm,hk,hb⟩:=G.ex
 exact IL F hm hk hb hr h (fun σ H vs Q a r acc=> ⟨ts,O,Φ,fun _ _=>False,r,a.ok,⟨t,hs,p⟩,acc,fun _ _ _ z=>z.elim⟩) hg hdb he hpl
end
abbrev zD(P:Program)(w:World)(K:a8)(mg:Str→Option Value)(base:Heap)(N:List Str)(qual:Str)(sc:Scope)(f:Addr)(cdv:Value)(A:de)(outer:List Env)(s:Shared)(H:Hp)(O:AG):Zx:=⟨SY P w K mg base N qual sc f cdv A outer s H,O,H,fun _ _=>False⟩
theorem Yn{P:Program}{w:World}{K:a8}{mg:Str→Option Value}{base:Heap}{x qual:Str}{st:Stmt}{f:Addr}{fd:dA}{N ps:List Str}{k:Nat}{sp:Sp}(F:Fun K x qual st f fd)(S:FnScope N ps (AA st))(len:∀vs H Q E,sp vs H Q E→vs.length=ps.length)
  (h:∀(cdv:Value) (A:de) (outer:List Env) (s:Shared) (H:Hp) (vs:List V) (Q:VK),RoomH k (A.deeper (hZ qual (AA st) s.heap.objs.size f cdv))→sp vs H Q E0→
   ∃ts O Φ,Reps K O H vs ts∧OwnOk K O H∧DS (zD P w K mg base N qual (AA st) f cdv A outer s H O) (CY N ts) O (AY st) {nx:=fun _ O'=>Φ .non O',rt:=Φ}∧Acc K O H Φ Q):FnH P w K mg base (k+1) f fd ps sp:=by
 refine F.okH S len fun cdv A outer s H vs Q hr hsp=>?_
 obtain⟨ts,O,Φ,r,ok,q,acc⟩:=h cdv A outer s H vs Q hr hsp
 exact⟨_,q,⟨EU r,.refl ok⟩,⟨fun ρ' O' σ' H' p a _=>acc _ _ _ O' p a.fr .non,fun v H' t O' p f r=>acc v H' t O' p f r,fun _ _ _ _ z=>z.elim,fun _ _ _ _ z=>z.elim⟩⟩
theorem TU{P:Program}{w:World}{K:a8}{mg:Str→Option Value}{base:Heap}{x qual:Str}{st:Stmt}{f:Addr}{fd:dA}{N ps:List Str}{k:Nat}{sp:DR}(F:Fun K x qual st f fd)(S:FnScope N ps (AA st))(len:∀ts O Φ Ξ,sp ts O Φ Ξ→ts.length=ps.length)
  (h:∀(cdv:Value) (A:de) (outer:List Env) (s:Shared) (H:Hp) (O:AG),RoomH k (A.deeper (hZ qual (AA st) s.heap.objs.size f cdv))→∀ts Φ Ξ,sp ts O Φ Ξ→DS (zD P w K mg base N qual (AA st) f cdv A outer s H O) (CY N ts) O (AY st) {nx:=fun _ O'=>Φ .non O',rt:=Φ}):FnH P w K mg base (k+1) f fd ps (Dl K sp):=
 Yn F S (fun vs H Q E ⟨ts,O,Φ,Ξ,r,_,s,_⟩=>r.length.trans (len ts O Φ Ξ s)) fun cdv A outer s H vs Q hr ⟨ts,O,Φ,Ξ,r,ok,sp,acc,_⟩=> ⟨ts,O,Φ,r,ok,h cdv A outer s H O hr ts Φ Ξ sp,acc⟩
section
variable{P:Program}{w:World}{K:a8}{mg:Str→Option Value}{base:Heap}
theorem Qj{C:Addr}{ns:List Str}{ps:List Str}(h:ps.length=ns.length+1):∀vs H Q E,Qe C ns vs H Q E→vs.length=ps.length:=fun vs H Q E ⟨x,t,is,e,l,_⟩=>by
 rw[e,c9,b8,l,h]
end
def Yo:Stmt→List Stmt
 | .ClassDef _ _ _ b _ _ _ _ _ _ _=>b
 |_=> []
structure Ini(K:a8)(C:Addr)(q:Str)(st:Stmt)(f:Addr)(fd:dA):Prop where
 F:Fun K "__init__" q st f fd
 c:XfC K C f
 kp:eM K (.ref C)=true
def bO(K:a8)(C:Addr)(q:Str)(st:Stmt):Prop:=∃f fd,Ini K C q st f fd
section
variable{P:Program}{w:World}{K:a8}{mg:Str→Option Value}{base:Heap}{C R f:Addr}{q x:Str}{st:Stmt}{fd:dA}
theorem ini{nm qn:Str}{N:Addr}{sn:List Str}{sub:List Value}{ab:Bool}{col:Option Bool}{dd:Option Addr}{k0 k1 k2 k3 k5:Option Value}{oc:Value}{od:Option Addr}{kV doc pm:Value}{an:Option Addr}{cdv ct:Value}{osl:Array (Option Value)}
  (l:K.lookup C=some (mz nm qn C N [.ref R] (.ref R::Fl) true sn sub ab col dd k0 k1 k2 k3 k5 "ValueError.__new__")) (r:lL K R Fl "ValueError.__new__" =true) (i:dJ K (.ref C) "__init__" =some (some (.ref f))) (t:PySem.W.typeIn K (.ref f)=some (.type "function"))
  (s:dJ K (.ref C) "__setattr__" =some (some (.builtin "object.__setattr__"))) (k:eM K (.ref C)=true) (fl:K.lookup f=some ⟨oc,od,.func (il "__init__" q (CB st) (AY st) (AA st) .none kV doc pm an cdv ct),osl⟩) (fq:kY K cdv q=true) (fk:eM K (.ref f)=true):bO K C q st:=
 ⟨f,_,⟨⟨⟨oc,od,kV,doc,pm,an,cdv,ct,osl,rfl,fl,fq⟩,fk⟩,⟨⟨nm,qn,N,R,sn,sub,ab,col,dd,k0,k1,k2,k3,k5,l,r⟩,i,t,s⟩,k⟩⟩
abbrev Bj(q:Str)(st:Stmt)(ps:List Str)(us:List Value):Prop:=∀(kV doc pm:Value) (an:Option Addr) (cdv ct:Value),nV (il "__init__" q (CB st) (AY st) (AA st) .none kV doc pm an cdv ct) ⟨us,[]⟩=pure (ps.zip us)
theorem Ini.bu{ps:List Str}(h:Ini K C q st f fd)(hl:ps.length=3)(b:∀a b c,Bj q st ps [a,b,c]):Binds K fd ps []:=h.F.binds fun _ _ _ _ _ _ us e=>match us,e.trans hl with| [a,c,d],_=>b a c d ..
end
end L2.TL
namespace K63
open PySem L2
def kE(P:Params)(x:Str)(n:Tok)(v:Value):DictEntry:=⟨PyData.keyHash P x,.str x n,v⟩
def tp(i:Nat):Stmt:=dP.main.body.getD i (.Pass ⟨0,0,0,0⟩)
def kF(x:Str)(i:Nat)(m:Str)(t:Tok)(c:Addr):Obj:=⟨.type "function",none,.func (il x x (CB (tp i)) (AY (tp i)) (AA (tp i)) .none .none .none (.str m t) none (.ref c) .none),#[]⟩
def ti(i:Nat):Stmt:=(L2.TL.Yo (tp i)).getD 0 (.Pass ⟨0,0,0,0⟩)
def kG(x:Str)(i:Nat)(m:Str)(t:Tok)(c:Addr):Obj:=⟨.type "function",none,.func (il "__init__" x (CB (ti i)) (AY (ti i)) (AA (ti i)) .none .none .none (.str m t) none (.ref c) .none),#[]⟩
def kC(x:Str)(a b c:Tok)(vs:List Value):Obj:=⟨.type "code",none,.fields ((nJ x a::.str x b::.str "/claim/cut.py" c::vs).toArray),#[]⟩
def kD(x:Str)(a b c:Tok)(l n:Int)(r:Addr)(g:Int)(q:Addr)(z:Int)(k:Tok)(vs:List Value):Obj:=kC x a b c (.int l 0::.int n 0::.int 0 0::.int 0 0::.int 3 0::.ref r::.bool true::.int g 0::.ref q::(vs++[.int z 0,.int l 0,.str "/claim/cut.py" k]))
def Kk:Params→a8:=fun P=> (nat_lit 3,⟨(.type "dict"),none,(.dict #[kE P "__name__" 165 (.str "law_noshortring_k63_doubles" 428),kE P "__doc__" 166 .none,kE P "__package__" 167 .none,kE P "__loader__" 168 (.builtin "__main__.__loader__#opaque"),kE P "__spec__" 169 .none,kE P "__annotations__" 170 (.ref 6),kE P "__builtins__" 171 (.ref 4),kE P "__file__" 173 (.str "/claim/cut.py" 172),kE P "__cached__" 174 .none,kE P "RingError" 206 (.ref 24),kE P "NoPlace" 222 (.ref 37),kE P "NoNumber" 238 (.ref 49),kE P "NoLine" 254 (.ref 61),kE P "NoRing" 270 (.ref 73),kE P "NotEven" 286 (.ref 85),kE P "NoWeb" 311 (.ref 104),kE P "NoText" 336 (.ref 123),kE P "TooGreat" 363 (.ref 142),kE P "least_told" 371 (.ref 149),kE P "MOST_PLACES" 375 (.int 16 374),kE P "ties_of" 381 (.ref 154),kE P "nears_of" 387 (.ref 159),kE P "fars_from" 393 (.ref 164),kE P "ring_by_tie" 399 (.ref 169),kE P "shortest" 405 (.ref 174),kE P "double_of" 413 (.ref 179),kE P "doubled" 420 (.ref 186),kE P "doubled_ring" 427 (.ref 193),kE P "_law_cell_at" 437 (.ref 200),kE P "_law_next" 444 (.ref 207),kE P "_law_pen_of" 452 (.ref 214),kE P "_law_draw" 461 (.ref 221),kE P "_law_whole" 468 (.ref 228),kE P "_law_kind_of" 476 (.ref 235),kE P "_law_named" 482 (.ref 240),kE P "_law_names_by" 488 (.ref 245),kE P "_law_turned" 500 (.ref 252),kE P "_law_shape" 506 (.ref 257),kE P "_law_web_by" 518 (.ref 264),kE P "_law_far" 524 (.ref 269),kE P "_law_rings" 530 (.ref 274),kE P "_law_shortest" 538 (.ref 281),kE P "_law_double" 544 (.ref 286),kE P "_law_told" 552 (.ref 293),kE P "_law_right" 560 (.ref 300),kE P "law" 569 (.ref 307)] 46),#[]⟩)::
  (nat_lit 23,⟨(.type "dict"),none,(.dict #[kE P "__module__" 196 (.str "noshortring.errors" 187),kE P "__firstlineno__" 200 (.int 2 199),kE P "__static_attributes__" 201 (.ref 22),kE P "__weakref__" 203 (.ref 25),kE P "__doc__" 204 .none] 3),#[]⟩)::
  (nat_lit 24,⟨(.type "type"),none,(.cls ⟨"RingError",[(.type "ValueError")],[(.ref 24),(.type "ValueError"),(.type "Exception"),(.type "BaseException"),(.type "object")],23,"RingError",true,[],[(.ref 37),(.ref 49),(.ref 61),(.ref 73),(.ref 85),(.ref 104),(.ref 123),(.ref 142)],false,none,false⟩),#[(some (.ref 15)),none,(some (.str "RingError" 189)),(some (.str "RingError" 197)),(some (.builtin "ValueError.__new__")),(some (.bool true))]⟩)::
  (nat_lit 37,⟨(.type "type"),none,(.cls ⟨"NoPlace",[(.ref 24)],[(.ref 37),(.ref 24),(.type "ValueError"),(.type "Exception"),(.type "BaseException"),(.type "object")],36,"NoPlace",true,[],[],false,none,false⟩),#[(some (.ref 28)),none,(some (.str "NoPlace" 207)),(some (.str "NoPlace" 215)),(some (.builtin "ValueError.__new__")),(some (.bool true))]⟩)::
  (nat_lit 49,⟨(.type "type"),none,(.cls ⟨"NoNumber",[(.ref 24)],[(.ref 49),(.ref 24),(.type "ValueError"),(.type "Exception"),(.type "BaseException"),(.type "object")],48,"NoNumber",true,[],[],false,none,false⟩),#[(some (.ref 40)),none,(some (.str "NoNumber" 223)),(some (.str "NoNumber" 231)),(some (.builtin "ValueError.__new__")),(some (.bool true))]⟩)::
  (nat_lit 61,⟨(.type "type"),none,(.cls ⟨"NoLine",[(.ref 24)],[(.ref 61),(.ref 24),(.type "ValueError"),(.type "Exception"),(.type "BaseException"),(.type "object")],60,"NoLine",true,[],[],false,none,false⟩),#[(some (.ref 52)),none,(some (.str "NoLine" 239)),(some (.str "NoLine" 247)),(some (.builtin "ValueError.__new__")),(some (.bool true))]⟩)::
  (nat_lit 73,⟨(.type "type"),none,(.cls ⟨"NoRing",[(.ref 24)],[(.ref 73),(.ref 24),(.type "ValueError"),(.type "Exception"),(.type "BaseException"),(.type "object")],72,"NoRing",true,[],[],false,none,false⟩),#[(some (.ref 64)),none,(some (.str "NoRing" 255)),(some (.str "NoRing" 263)),(some (.builtin "ValueError.__new__")),(some (.bool true))]⟩)::
  (nat_lit 85,⟨(.type "type"),none,(.cls ⟨"NotEven",[(.ref 24)],[(.ref 85),(.ref 24),(.type "ValueError"),(.type "Exception"),(.type "BaseException"),(.type "object")],84,"NotEven",true,[],[],false,none,false⟩),#[(some (.ref 76)),none,(some (.str "NotEven" 271)),(some (.str "NotEven" 279)),(some (.builtin "ValueError.__new__")),(some (.bool true))]⟩)::
  (nat_lit 104,⟨(.type "type"),none,(.cls ⟨"NoWeb",[(.ref 24)],[(.ref 104),(.ref 24),(.type "ValueError"),(.type "Exception"),(.type "BaseException"),(.type "object")],103,"NoWeb",true,[],[],false,none,false⟩),#[(some (.ref 88)),none,(some (.str "NoWeb" 287)),(some (.str "NoWeb" 295)),(some (.builtin "ValueError.__new__")),(some (.bool true))]⟩)::
  (nat_lit 123,⟨(.type "type"),none,(.cls ⟨"NoText",[(.ref 24)],[(.ref 123),(.ref 24),(.type "ValueError"),(.type "Exception"),(.type "BaseException"),(.type "object")],122,"NoText",true,[],[],false,none,false⟩),#[(some (.ref 107)),none,(some (.str "NoText" 312)),(some (.str "NoText" 320)),(some (.builtin "ValueError.__new__")),(some (.bool true))]⟩)::
  (nat_lit 138,⟨(.type "code"),none,(.fields #[(.str "__init__" 349),(.str "TooGreat.__init__" 350),(.str "/claim/cut.py" 351),(.int 24 0),(.int 3 0),(.int 0 0),(.int 0 0),(.int 3 0),(.ref 133),(.bool true),(.int 181 0),(.ref 134),.none,(.ref 135),(.ref 136),(.ref 137),(.int 355 0),(.int 24 0),(.str "/claim/cut.py" 356)]),#[]⟩)::
  (nat_lit 139,kG "TooGreat.__init__" 9 "noshortring.errors" 187 138)::
  (nat_lit 141,⟨(.type "dict"),none,(.dict #[kE P "__module__" 344 (.str "noshortring.errors" 187),kE P "__firstlineno__" 348 (.int 22 347),kE P "__init__" 357 (.ref 139),kE P "__static_attributes__" 360 (.ref 140),kE P "__doc__" 361 .none] 2),#[]⟩)::
  (nat_lit 142,⟨(.type "type"),none,(.cls ⟨"TooGreat",[(.ref 24)],[(.ref 142),(.ref 24),(.type "ValueError"),(.type "Exception"),(.type "BaseException"),(.type "object")],141,"TooGreat",true,[],[],false,none,false⟩),#[(some (.ref 126)),none,(some (.str "TooGreat" 337)),(some (.str "TooGreat" 345)),(some (.builtin "ValueError.__new__")),(some (.bool true))]⟩)::
  (nat_lit 148,kD "least_told" 366 367 368 28 1 145 181 146 369 370 [.none,.none,.none,(.ref 147)])::
  (nat_lit 149,kF "least_told" 11 "noshortring.common" 364 148)::
  (nat_lit 153,kD "ties_of" 376 377 378 32 1 150 181 151 379 380 [.none,.none,.none,(.ref 152)])::
  (nat_lit 154,kF "ties_of" 14 "noshortring.webs" 372 153)::
  (nat_lit 158,kD "nears_of" 382 383 384 34 1 155 181 156 385 386 [.none,.none,.none,(.ref 157)])::
  (nat_lit 159,kF "nears_of" 15 "noshortring.webs" 372 158)::
  (nat_lit 163,kD "fars_from" 388 389 390 40 2 160 181 161 391 392 [.none,.none,.none,(.ref 162)])::
  (nat_lit 164,kF "fars_from" 16 "noshortring.webs" 372 163)::
  (nat_lit 168,kD "ring_by_tie" 394 395 396 56 3 165 181 166 397 398 [.none,.none,.none,(.ref 167)])::
  (nat_lit 169,kF "ring_by_tie" 17 "noshortring.webs" 372 168)::
  (nat_lit 173,kD "shortest" 400 401 402 61 1 170 181 171 403 404 [.none,.none,.none,(.ref 172)])::
  (nat_lit 174,kF "shortest" 18 "noshortring.webs" 372 173)::
  (nat_lit 178,kD "double_of" 408 409 410 65 1 175 181 176 411 412 [.none,.none,.none,(.ref 177)])::
  (nat_lit 179,kF "double_of" 20 "noshortring.doubling" 406 178)::
  (nat_lit 185,kD "doubled" 414 415 416 68 1 180 181 181 418 419 [.none,(.ref 182),(.ref 183),(.ref 184)])::
  (nat_lit 186,kF "doubled" 21 "noshortring.doubling" 406 185)::
  (nat_lit 192,kD "doubled_ring" 421 422 423 72 1 187 181 188 425 426 [.none,(.ref 189),(.ref 190),(.ref 191)])::
  (nat_lit 193,kF "doubled_ring" 22 "noshortring.doubling" 406 192)::
  (nat_lit 199,kD "_law_cell_at" 430 431 432 75 2 194 181 195 435 436 [.none,(.ref 196),(.ref 197),(.ref 198)])::
  (nat_lit 200,kF "_law_cell_at" 24 "law_noshortring_k63_doubles" 428 199)::
  (nat_lit 206,kD "_law_next" 438 439 440 79 1 201 181 202 442 443 [.none,(.ref 203),(.ref 204),(.ref 205)])::
  (nat_lit 207,kF "_law_next" 25 "law_noshortring_k63_doubles" 428 206)::
  (nat_lit 213,kD "_law_pen_of" 445 446 447 82 1 208 181 209 450 451 [.none,(.ref 210),(.ref 211),(.ref 212)])::
  (nat_lit 214,kF "_law_pen_of" 26 "law_noshortring_k63_doubles" 428 213)::
  (nat_lit 220,kD "_law_draw" 453 454 455 85 2 215 181 216 459 460 [.none,(.ref 217),(.ref 218),(.ref 219)])::
  (nat_lit 221,kF "_law_draw" 27 "law_noshortring_k63_doubles" 428 220)::
  (nat_lit 227,kD "_law_whole" 462 463 464 92 1 222 181 223 466 467 [.none,(.ref 224),(.ref 225),(.ref 226)])::
  (nat_lit 228,kF "_law_whole" 28 "law_noshortring_k63_doubles" 428 227)::
  (nat_lit 234,kD "_law_kind_of" 469 470 471 94 1 229 181 230 474 475 [.none,(.ref 231),(.ref 232),(.ref 233)])::
  (nat_lit 235,kF "_law_kind_of" 29 "law_noshortring_k63_doubles" 428 234)::
  (nat_lit 239,kD "_law_named" 477 478 479 100 2 236 181 237 480 481 [.none,.none,.none,(.ref 238)])::
  (nat_lit 240,kF "_law_named" 30 "law_noshortring_k63_doubles" 428 239)::
  (nat_lit 244,kD "_law_names_by" 483 484 485 103 2 241 181 242 486 487 [.none,.none,.none,(.ref 243)])::
  (nat_lit 245,kF "_law_names_by" 31 "law_noshortring_k63_doubles" 428 244)::
  (nat_lit 251,kD "_law_turned" 489 490 491 106 2 246 181 247 498 499 [.none,(.ref 248),(.ref 249),(.ref 250)])::
  (nat_lit 252,kF "_law_turned" 32 "law_noshortring_k63_doubles" 428 251)::
  (nat_lit 256,kD "_law_shape" 501 502 503 113 2 253 181 254 504 505 [.none,.none,.none,(.ref 255)])::
  (nat_lit 257,kF "_law_shape" 33 "law_noshortring_k63_doubles" 428 256)::
  (nat_lit 263,kD "_law_web_by" 507 508 509 132 2 258 181 259 516 517 [.none,(.ref 260),(.ref 261),(.ref 262)])::
  (nat_lit 264,kF "_law_web_by" 34 "law_noshortring_k63_doubles" 428 263)::
  (nat_lit 268,kD "_law_far" 519 520 521 142 1 265 181 266 522 523 [.none,.none,.none,(.ref 267)])::
  (nat_lit 269,kF "_law_far" 35 "law_noshortring_k63_doubles" 428 268)::
  (nat_lit 273,kD "_law_rings" 525 526 527 153 2 270 181 271 528 529 [.none,.none,.none,(.ref 272)])::
  (nat_lit 274,kF "_law_rings" 36 "law_noshortring_k63_doubles" 428 273)::
  (nat_lit 280,kD "_law_shortest" 531 532 533 168 1 275 181 276 536 537 [.none,(.ref 277),(.ref 278),(.ref 279)])::
  (nat_lit 281,kF "_law_shortest" 37 "law_noshortring_k63_doubles" 428 280)::
  (nat_lit 285,kD "_law_double" 539 540 541 173 1 282 181 283 542 543 [.none,.none,.none,(.ref 284)])::
  (nat_lit 286,kF "_law_double" 38 "law_noshortring_k63_doubles" 428 285)::
  (nat_lit 292,kD "_law_told" 545 546 547 177 1 287 181 288 550 551 [.none,(.ref 289),(.ref 290),(.ref 291)])::
  (nat_lit 293,kF "_law_told" 39 "law_noshortring_k63_doubles" 428 292)::
  (nat_lit 299,kD "_law_right" 553 554 555 184 1 294 181 295 558 559 [.none,(.ref 296),(.ref 297),(.ref 298)])::
  (nat_lit 300,kF "_law_right" 40 "law_noshortring_k63_doubles" 428 299)::
  (nat_lit 306,kD "law" 561 562 563 189 1 301 181 302 567 568 [.none,(.ref 303),(.ref 304),(.ref 305)])::
  (nat_lit 307,kF "law" 41 "law_noshortring_k63_doubles" 428 306)::[]
def ka:List Addr:=[3,23,24,37,49,61,73,85,104,123,138,139,141,142,148,149,153,154,158,159,163,164,168,169,173,174,178,179,185,186,192,193,199,200,206,207,213,214,220,221,227,228,234,235,239,240,244,245,251,252,256,257,263,264,268,269,273,274,280,281,285,286,292,293,299,300,306,307]
abbrev kq:Program:=PySem.W.view dP [1,2,3,4,5,6,7,8,9,11,13,14,15,16,17,18,20,21,22,24,25,26,27,28,29,30,31,32,33,34,35,36,37,38,39,40,41]
theorem aq:(fun(_:Params→a8) (_:Program)=>true) Kk dP=true:=by k_qdec
abbrev oS(s:Shared):=PySem.W.openSeen kq [] (importedModules dP.main.body) (fun s=>nA kq [] s&&mW [] s) true s
abbrev oE(w:World):=PySem.W.openEnds treeTable dP w 5738
theorem Yp(w:World):(oE w).map (fun s=> ((oS s).1,(oS s).2.2.2.2.1))=some ((eW kq []).1,(eW kq []).2.2.2.2.1):=by
 delta oE oS kq
 rw[PySem.W.Fast.te3128992845479644222,fo,fB]
 delta fA eW
 dsimp only
 kernel_rfl
theorem Yq(w:World):(oE w).map (fun s=> ((oS s).2.1,(oS s).2.2.1,(oS s).2.2.2.2.2.2.1,(oS s).2.2.2.2.2.2.2.2))=some ((eW kq []).2.1,(eW kq []).2.2.1,(eW kq []).2.2.2.2.2.2.1,(eW kq []).2.2.2.2.2.2.2.2):=by
 delta oE oS kq
 rw[PySem.W.Fast.te3128992845479644222,fo,fB,PySem.W.Fast.te5923862056798008813]
 delta fA eW
 dsimp only
 kernel_rfl
theorem Yr(w:World):(oE w).map (fun s=> ((oS s).2.2.2.1))=some ((eW kq []).2.2.2.1):=by
 delta oE oS kq
 rw[PySem.W.Fast.te3128992845479644222,fo,fB]
 delta fA eW
 dsimp only
 kernel_rfl
theorem Ys(w:World):(oE w).map (fun s=> ((oS s).2.2.2.2.2.1))=some ((eW kq []).2.2.2.2.2.1):=by
 delta oE oS kq
 rw[PySem.W.Fast.te3128992845479644222,fo,fB]
 delta fA eW
 dsimp only
 kernel_rfl
theorem Yt(w:World):(oE w).map (fun s=> ((oS s).2.2.2.2.2.2.2.1,ka.map s.heap.get?))=some ((eW kq []).2.2.2.2.2.2.2.1,(Kk w.params).map fun(p:Addr×Obj)=>some p.2):=by
 delta oE oS kq
 rw[PySem.W.Fast.te6665388293583787835,PySem.W.Fast.te3128992845479644222,fo,fB]
 delta fA eW
 dsimp only
 kernel_rfl
theorem left:PySem.W.LeftO dP kq [] (fun s=>nA kq [] s&&mW [] s) (fun s=>ka.map s.heap.get?) (fun w=> (Kk w.params).map fun(p:Addr×Obj)=>some p.2) 5738:=by
 intro w
 have h0:=Yp w
 have h1:=Yq w
 have h2:=Yr w
 have h3:=Ys w
 have h4:=Yt w
 show(oE w).map (fun s=> (oS s,ka.map s.heap.get?))=_
 revert h0 h1 h2 h3 h4
 cases oE w with
 |none=>intro h;cases h
 |some s=>
  intro h0 h1 h2 h3 h4
  have h0:=dQ.inj h0
  simp only[mY] at h0
  have h1:=dQ.inj h1
  simp only[mY] at h1
  have h2:=dQ.inj h2
  have h3:=dQ.inj h3
  have h4:=dQ.inj h4
  simp only[mY] at h4
  exact congrArg some (fR (fR (h0.1) (fR (h1.1) (fR (h1.2.1) (fR (h2) (fR (h0.2) (fR (h3) (fR (h1.2.2.1) (fR (h4.1) (h1.2.2.2))))))))) (h4.2))
end K63
namespace Gr
open L2.TL
variable{ps:List (Int×Int)}{n:Int}{S:List Int}{v u:Int}{d e s k:Nat}{fs gs:List (Option Nat)}{Ah ds:List Int}
def Adj(ps:List (Int×Int))(u v:Int):Prop:=(u,v)∈ps∨(v,u)∈ps
theorem Adj.symm(h:Adj ps u v):Adj ps v u:=Or.symm h
inductive W(ps:List (Int×Int))(S:List Int):Nat→Int→Prop
 |at{v:Int}:v∈S→W ps S 0 v
 |go {k:Nat} {u v:Int}:W ps S k u→Adj ps u v→W ps S (k+1) v
def IsD(ps:List (Int×Int))(S:List Int)(v:Int)(d:Nat):Prop:=W ps S d v∧∀j,j<d→¬W ps S j v
theorem IsD.uniq(a:IsD ps S v d)(b:IsD ps S v e):d=e:=by
 rcases gc d e with h|h|h
 ·exact absurd a.1 (b.2 d h)
 ·exact h
 ·exact absurd b.1 (a.2 e h)
theorem W.least(h:W ps S k v):∃d,d≤k∧IsD ps S v d:=by
 induction k using mf with
 |_ k ih=>
  by_cases hx:∃j,j<k∧W ps S j v
  ·obtain⟨j,hj,w⟩:=hx
   obtain⟨d,hd,i⟩:=ih j hj w
   exact⟨d,by omega,i⟩
  ·exact⟨k,cW _,h,fun j hj w=>hx ⟨j,hj,w⟩⟩
theorem IsD.prev(h:IsD ps S v (s+1)):∃u,IsD ps S u s∧Adj ps u v:=by
 obtain⟨w,m⟩:=h
 cases w with
 |go w a=>exact⟨_,⟨w,fun j hj w'=>m (j+1) (by omega) (.go w' a)⟩,a⟩
def Ff(n:Int)(ps:List (Int×Int)):Prop:=∀p∈ps,0≤p.1∧p.1<p.2∧p.2<n
theorem Adj.inb(hw:Ff n ps)(h:Adj ps u v):0≤v∧v<n∧u≠v:=by
 rcases h with h|h
 ·have:=hw _ h
  simp only at this
  omega
 ·have:=hw _ h
  simp only at this
  omega
theorem W.inb(hw:Ff n ps)(hS:∀z∈S,0≤z∧z<n)(h:W ps S k v):0≤v∧v<n:=by
 cases h with
 |«at» h=>exact hS _ h
 |go _ a=>exact⟨(a.inb hw).1,(a.inb hw).2.1⟩
theorem IsD.lt(hw:Ff n ps)(hS:∀z∈S,0≤z∧z<n)(h:IsD ps S v s):(s:Int)<n:=by
 have key:∃L:List Nat,L.length=s+1∧L.Nodup∧∀u∈L,∃i,i≤s∧IsD ps S (u:Int) i:=by
  induction s generalizing v with
  |zero=>
   have:=h.1.inb hw hS
   refine⟨[v.toNat],rfl,by simp,fun u hu=> ⟨0,cW _,?_⟩⟩
   rw[cq.mp hu,gF this.1]
   exact h
  |succ s ih=>
   obtain⟨u,hu,_⟩:=h.prev
   obtain⟨L,l1,l2,l3⟩:=ih hu
   have hb:=h.1.inb hw hS
   refine⟨v.toNat::L,by simp[l1],dO.mpr ⟨fun hm=>?_,l2⟩,fun z hz=>?_⟩
   ·obtain⟨i,hi,q⟩:=l3 _ hm
    rw[gF hb.1] at q
    have:=q.uniq h
    omega
   ·rcases da.mp hz with rfl|hz
    ·exact⟨s+1,cW _,by rw[gF hb.1];exact h⟩
    ·obtain⟨i,hi,q⟩:=l3 z hz
     exact⟨i,by omega,q⟩
 obtain⟨L,l1,l2,l3⟩:=key
 have:=StT.Bn n.toNat L l2 (fun x hx=>by
  obtain⟨i,_,q⟩:=l3 x hx
  have:=q.1.inb hw hS
  omega)
 omega
structure Fr(n:Int)(ps:List (Int×Int))(S:List Int)(s:Nat)(fs:List (Option Nat)):Prop where
 len:(fs.length:Int)=n
 eq:∀v:Int,0≤v→v<n→∀d,fs[v.toNat]?=some (some d)↔(d≤s∧IsD ps S v d)
structure All(n:Int)(ps:List (Int×Int))(S:List Int)(fs:List (Option Nat)):Prop where
 len:(fs.length:Int)=n
 eq:∀v:Int,0≤v→v<n→∀d,fs[v.toNat]?=some (some d)↔IsD ps S v d
theorem Fr.all_n(hw:Ff n ps)(hS:∀z∈S,0≤z∧z<n)(h:Fr n ps S s fs)(e:n≤(s:Int)+1):All n ps S fs:=⟨h.len,fun v v0 v1 d=>by
 rw[h.eq v v0 v1 d]
 refine⟨fun z=>z.2,fun z=> ⟨?_,z⟩⟩
 have:=z.lt hw hS
 omega⟩
theorem JN(hl:(fs.length:Int)=n)(h:∀v:Int,0≤v→v<n→∀d,fs[v.toNat]?=some (some d)↔(d=0∧v∈S)):Fr n ps S 0 fs:=⟨hl,fun v v0 v1 d=>by
 rw[h v v0 v1 d]
 constructor
 ·rintro⟨rfl,hv⟩
  exact⟨cW _,.at hv,fun j hj=>by omega⟩
 ·rintro⟨hd,w,_⟩
  have:d=0:=by omega
  subst this
  cases w with
  |«at» h=>exact⟨rfl,h⟩⟩
structure Mid(n:Int)(ps:List (Int×Int))(S:List Int)(s:Nat)(fs:List (Option Nat))(Ah ds:List Int):Prop where
 len:(fs.length:Int)=n
 eq:∀v:Int,0≤v→v<n→∀d,fs[v.toNat]?=some (some d)↔((d≤s∧IsD ps S v d)∨(d=s+1∧v∈Ah))
 sub:∀v∈Ah,IsD ps S v (s+1)
 dn:∀v∈ds,0≤v∧v<n∧∃d,fs[v.toNat]?=some (some d)
theorem Fr.mid(h:Fr n ps S s fs):Mid n ps S s fs [] []:=⟨h.len,fun v v0 v1 d=>by
 rw[h.eq v v0 v1 d]
 simp,(fun _ h=>by cases h),(fun _ h=>by cases h)⟩
theorem Mid.miss(m:Mid n ps S s fs Ah ds)(v0:0≤v)(v1:v<n)(h:fs[v.toNat]?=some (some d)):Mid n ps S s fs Ah (ds++[v]):=⟨m.len,m.eq,m.sub,fun z hz=>by
 rcases dt.mp hz with hz|hz
 ·exact m.dn z hz
 ·rw[cq.mp hz];exact⟨v0,v1,d,h⟩⟩
theorem Mid.hit(m:Mid n ps S s fs Ah ds)(v0:0≤v)(v1:v<n)(hn:fs[v.toNat]?=some none)(hu:IsD ps S u s)(a:Adj ps u v):Mid n ps S s (fs.set v.toNat (some (s+1))) (Ah++[v]) (ds++[v]):=by
 have hl:=m.len
 have hlt:v.toNat<fs.length:=by omega
 have iv:IsD ps S v (s+1):=by
  refine⟨.go hu.1 a,fun j hj w=>?_⟩
  obtain⟨d,hd,i⟩:=w.least
  have:=(m.eq v v0 v1 d).mpr (.inl ⟨by omega,i⟩)
  rw[hn] at this
  cases this
 have key:∀w:Int,0≤w→w<n→w≠v→(fs.set v.toNat (some (s+1)))[w.toNat]?=fs[w.toNat]?:=fun w w0 w1 h=>dz (by omega)
 refine⟨by rw[gG];exact hl,fun w w0 w1 d=>?_,fun w hw=>?_,fun w hw=>?_⟩
 ·by_cases h:w=v
  ·subst h
   rw[dr hlt]
   constructor
   ·intro z
    have:d=s+1:=by cases z;rfl
    exact .inr ⟨this,by simp⟩
   ·rintro(z|z)
    ·have:=z.2.uniq iv
     omega
    ·rw[z.1]
  ·rw[key w w0 w1 h,m.eq w w0 w1 d]
   have:w∈Ah++[v]↔w∈Ah:=by simp[h]
   rw[this]
 ·rcases dt.mp hw with hw|hw
  ·exact m.sub w hw
  ·rw[cq.mp hw];exact iv
 ·rcases dt.mp hw with hw|hw
  ·obtain⟨w0,w1,d,hd⟩:=m.dn w hw
   refine⟨w0,w1,?_⟩
   by_cases h:w=v
   ·subst h;exact⟨_,dr hlt⟩
   ·exact⟨d,by rw[key w w0 w1 h];exact hd⟩
  ·rw[cq.mp hw];exact⟨v0,v1,_,dr hlt⟩
theorem Mid.done(m:Mid n ps S s fs Ah ds)(h:∀u v,IsD ps S u s→Adj ps u v→v∈ds):Fr n ps S (s+1) fs∧∀v,v∈Ah↔IsD ps S v (s+1):=by
 have key:∀v,IsD ps S v (s+1)→v∈Ah:=fun v i=>by
  obtain⟨u,hu,a⟩:=i.prev
  obtain⟨v0,v1,d,hd⟩:=m.dn v (h u v hu a)
  rcases(m.eq v v0 v1 d).mp hd with z|z
  ·have:=z.2.uniq i
   omega
  ·exact z.2
 refine⟨⟨m.len,fun v v0 v1 d=>?_⟩,fun v=> ⟨m.sub v,key v⟩⟩
 rw[m.eq v v0 v1 d]
 constructor
 ·rintro(z|z)
  ·exact⟨by omega,z.2⟩
  ·rw[z.1];exact⟨cW _,m.sub v z.2⟩
 ·rintro⟨h1,h2⟩
  by_cases hd:d≤s
  ·exact .inl ⟨hd,h2⟩
  ·have:d=s+1:=by omega
   subst this
   exact .inr ⟨rfl,key v h2⟩
theorem JO{L:List Int}(h:L.Nodup)(hb:∀z∈L,0≤z∧z<n):L.length≤n.toNat:=by
 have key:∀L:List Int,L.Nodup→(∀z∈L,0≤z∧z<n)→(L.map Int.toNat).Nodup:=by
  intro L
  induction L with
  |nil=>intro _ _;simp
  |cons a L ih=>
   intro h hb
   rw[dO] at h
   rw[dv,dO]
   refine⟨fun hm=>?_,ih h.2 fun z hz=>hb z (cX _ hz)⟩
   obtain⟨z,hz,e⟩:=df.mp hm
   have h1:=hb z (cX _ hz)
   have h2:=hb a (dw ..)
   have:z=a:=by omega
   subst this
   exact h.1 hz
 have:=StT.Bn n.toNat (L.map Int.toNat) (key L h hb) (fun x hx=>by
  obtain⟨z,hz,rfl⟩:=df.mp hx
  have:=hb z hz
  omega)
 rw[b8] at this
 exact this
end Gr
namespace L2
open PySem PySem.Spec PyProof.Rows
section
variable{X:Cx}
end
end L2
namespace L2.TL
open PySem PySem.Spec PyProof.Rows
section
variable{Z:Zx}{ρ:List (Option T)}{O:AG}{a:Expr}{ts:List T}{p pos:Pos}
end
section
variable{Z:Zx}{ρ:List (Option T)}{O:AG}{elt tg iter:Expr}{csc:Scope}{nc:List Str}{cap:List (Str×Nat)}{pos:Pos}
end
open PySem.Calls
def TV:T→Bool
 | .tup _=>true
 | .lst _=>true
 |_=>false
section
variable{X:Cx}
def Wi(K:a8):List V→Hp→VK→Prop:=fun xs H Q=>∃v O t,xs=[v]∧Rep K O H v t∧TV t=true∧EV t=true∧(dT t).weight≤2^20∧(dT t).depth≤100∧Q (.str (dT t).shown) H
theorem ME(hg:X.A.guards=some [])(hu:X.A.units+101<cLine):BA X (.builtin "repr") (Wi X.K):=by
 intro pins s σ H xs us Q I r h
 obtain⟨v,O,t,rfl,rep,sq,sh,hw,hd,q⟩:=h
 obtain⟨u,rfl,ru⟩:=Vals.one r
 obtain⟨as,rd⟩:=Rep.reads I.hok rep sh ru
 obtain⟨s1,s2,s3⟩:=JK t sh
 have hv:∃a,v=.ref a:=by
  cases t with
  |tup ts=>obtain⟨a,_,rfl,_⟩:=rep.tup_inv;exact⟨a,rfl⟩
  |lst ts=>obtain⟨a,_,rfl,_⟩:=rep.lst_inv;exact⟨a,rfl⟩
  |_=>cases sq
 obtain⟨a,rfl⟩:=hv
 cases ru
 exact repr_of_reads' rd s1 (PyData.noDict_hsm s2) hg (by omega) (fun _ _ e=>e) (fun h' u tk hk=> ⟨.str _,H,I.kept hk,⟨u,rfl⟩,q⟩) (PyData.shown_fits (by decide) (by decide) s3 hw)
theorem Gz:BA X (.builtin "repr") (fun xs H Q=>xs=[.non]∧Q (.str "None") H):=by
 intro pins s σ H xs us Q I r h
 obtain⟨rfl,q⟩:=h
 obtain⟨u,rfl,ru⟩:=Vals.one r
 cases ru
 exact PySem.P.repr_of_none ⟨.str _,H,I.tok _,⟨_,rfl⟩,q⟩
end
section
variable{Z:Zx}{ρ:List (Option T)}{O:AG}{e a b hi:Expr}{p p2 pos:Pos}{t:T}{ts:List T}{i:Int}{Φ:BL}
theorem TX(hg:Z.X.A.guards=some [])(hu:Z.X.A.units+101<cLine)(m:Z.X.mg "repr" =none)(h:ET Z ρ O e t)(sq:TV t=true)(sh:EV t=true)(hw:(dT t).weight≤2^20)(hd:(dT t).depth≤100)
  (hgl:Gl Z.X "repr":=by rfl) (he:cb [e] Z.X.env=(false,eval e Z.X.env)::cb [] Z.X.env:=by rfl):ET Z ρ O (.Call (.Name "repr" p) [e] [] pos) (.str (dT t).shown):=
 BI (ME hg hu) m NK (AL h AE he) (fun Φ q H vs Q ok r k=>by
  obtain⟨v,rfl,r1⟩:=r.one_inv
  exact⟨v,O,t,rfl,r1,sq,sh,hw,hd,k _ H _ O q (.refl ok) (.str _)⟩) hgl (by decide) (by decide) he
theorem Qk(m:Z.X.mg "repr" =none)(h:ET Z ρ O e (.int i))(hl:i.natAbs.log2<1920)(hgl:Gl Z.X "repr":=by rfl)(he:cb [e] Z.X.env=(false,eval e Z.X.env)::cb [] Z.X.env:=by rfl):ET Z ρ O (.Call (.Name "repr" p) [e] [] pos) (.str (toString i)):=
 BI HZ m NK (AL h AE he) (fun Φ q H vs Q ok r k=>by
  obtain⟨v,rfl,r1⟩:=r.one_inv
  cases r1.int_inv
  exact⟨i,rfl,hl,k _ H _ O q (.refl ok) (.str _)⟩) hgl (by decide) (by decide) he
theorem Ql(m:Z.X.mg "repr" =none)(h:ET Z ρ O e .non)(hgl:Gl Z.X "repr":=by rfl)(he:cb [e] Z.X.env=(false,eval e Z.X.env)::cb [] Z.X.env:=by rfl):ET Z ρ O (.Call (.Name "repr" p) [e] [] pos) (.str "None"):=
 BI Gz m NK (AL h AE he) (fun Φ q H vs Q ok r k=>by
  obtain⟨v,rfl,r1⟩:=r.one_inv
  cases r1.non_inv
  exact⟨rfl,k _ H _ O q (.refl ok) (.str _)⟩) hgl (by decide) (by decide) he
end
end L2.TL
namespace L2
open PySem PySem.Spec PySem.Calls PyProof.Rows
section
variable{prog:Program}{w:World}{A:de}{E:Value→Shared→Prop}{s:Shared}
end
section
variable{X:Cx}
end
end L2
namespace L2.TL
open PySem PySem.Spec PyProof.Rows
section
variable{Z:Zx}{ρ:List (Option T)}{O:AG}{e o:Expr}{Φ:BL}{p pos apos cpos:Pos}{ns:List Int}{i:Int}{j:Nat}
end
end L2.TL
namespace SrtG
open PySem PySem.Calls PySem.W PyProof.Rows
variable{prog:Program}{w:World}{A:de}{E:Value→Shared→Prop}{s:Shared}
end SrtG
namespace L2
open PySem PySem.Spec PySem.Calls PyProof.Rows SrtG
theorem BQ{α β:Type}{f:α→β}{o b:List β}(h:o.Perm b):∀{l:List α},b=l.map f→∃m:List α,m.Perm l∧o=m.map f:=by
 induction h with
 |nil=>
  intro l e
  cases l with
  |nil=>exact⟨[],.refl _,rfl⟩
  |cons x l=>cases e
 |cons x p ih=>
  intro l e
  cases l with
  |nil=>cases e
  |cons y l=>
   injection e with e1 e2
   obtain⟨m,h1,h2⟩:=ih e2
   exact⟨y::m,h1.cons y,by rw[dv,←h2,e1]⟩
 |swap x y t=>
  intro l e
  cases l with
  |nil=>cases e
  |cons u l=>
   cases l with
   |nil=>injection e with e1 e2;cases e2
   |cons v l=>
    injection e with e1 e2
    injection e2 with e3 e4
    exact⟨v::u::l,.swap ..,by rw[dv,dv,e1,e3,e4]⟩
 |trans p q ih1 ih2=>
  intro l e
  obtain⟨m,h1,h2⟩:=ih2 e
  obtain⟨m',h3,h4⟩:=ih1 h2
  exact⟨m',h3.trans h1,h4⟩
section
variable{prog:Program}{w:World}{A:de}{E:Value→Shared→Prop}{s:Shared}{U:Heap→Value→Prop}{rk:Heap→Value→Int}{T:Value}
theorem MF{l:Addr}{o:Obj}{vs:List Value}{n:Nat}{Q:Value→Shared→Prop}(ho:s.heap.get? l=some o)(hc:o.cls=.type "list")(hd:o.data=.seq vs.toArray n)(R:Rk prog w U rk T)(ok:∀v∈vs,U s.heap v)(hn:vs.length≤9000000)
  (h:∀(h':Heap) (a:Addr) (out:List Value) (c:Nat),s.heap.get? a=none→h'.get? a=some (eP "list" out.toArray c)→(∀b o,s.heap.get? b=some o→h'.get? b=some o)→out.Perm vs→out.Pairwise (fun x y=>rk s.heap x≤rk s.heap y)→Q (.ref a) {s with heap:=h'}):
  wpAny (model prog w) A (call (.builtin "sorted") [.ref l]) Q E s:=by
 refine Calls.call_function_entry kind_sorted plain_sorted entry_sorted (args_sorted1 _) ?_
 unfold Builtin.«sorted»
 refine a9 (m:=checkCount "sorted" 1 1 _) (b9 ?_)
 refine a9 (wpAny_collect_seq l (.inl rfl) ho hc hd (fun h1 hk1=>?_) (by rw[dj,eT];omega))
 show wpAny _ _ (newList vs>>=_) _ _ _
 refine a9 (lI ?_ (by rw[eT];omega))
 have hoL:(h1.push (eP "list" vs.toArray 0)).get? h1.objs.size=some (eP "list" vs.toArray 0):=dy _ rfl
 have keep:∀b o,s.heap.get? b=some o→(h1.push (eP "list" vs.toArray 0)).get? b=some o:=fun b o e=>cj _ (hk1 b o e)
 have ok1:∀v∈vs,U (h1.push (eP "list" vs.toArray 0)) v:=fun v hv=> (R.kept (ok v hv) fun b o _ e=>keep b o e).1
 have fin:∀(out:List Value) (c:Nat) (h':Heap),out.Perm vs→out.Pairwise (fun x y=>rk (h1.push (eP "list" vs.toArray 0)) x≤rk (h1.push (eP "list" vs.toArray 0)) y)→h'.get? h1.objs.size=some (eP "list" (kL out) c)→(∀b o,b≠h1.objs.size→(h1.push (eP "list" vs.toArray 0)).get? b=some o→h'.get? b=some o)→Q (.ref h1.objs.size) {s with heap:=h'}:=fun out c h' pm pw hg hk=>by
  refine h _ h1.objs.size out c ?_ hg (fun b o e=>?_) pm ?_
  ·cases e:s.heap.get? h1.objs.size with
   |none=>rfl
   |some o'=>exact absurd (dc (hk1 _ _ e)) (fb _)
  ·exact hk b o (dF (dc (hk1 b o e))) (keep b o e)
  ·refine fI (fun{x y} hx hy q=>?_) pw
   rw[(R.kept (ok _ (pm.mem_iff.mp hx)) fun b o _ e=>keep b o e).2,(R.kept (ok _ (pm.mem_iff.mp hy)) fun b o _ e=>keep b o e).2] at q
   exact q
 show wpAny _ _ _ _ _ {s with heap:=h1.push (eP "list" vs.toArray 0)}
 refine a9 (eC (iQ slot_list_sort ⟨_,hoL,rfl⟩ entry_list_sort ?body (args_list_sort _)))
 by_cases hlen:vs.length<2
 ·refine StT.KH (s:={s with heap:=h1.push (eP "list" vs.toArray 0)}) hoL hlen fun c h2 hg hk=> ⟨_,rfl,b9 ⟨_,rfl,fin vs c h2 (.refl _) ?_ hg hk⟩⟩
  match vs,hlen with
  | [],_=>exact .nil
  | [x],_=>exact gm _ _
 ·exact KG (s:={s with heap:=h1.push (eP "list" vs.toArray 0)}) hoL R ok1 (by omega) hn fun out c h' pm pw hg hk=> ⟨_,rfl,b9 ⟨_,rfl,fin out c h' pm pw hg hk⟩⟩
end
section
variable{X:Cx}{pins:List (Addr×Obj)}{σ:St}{H:Hp}{s:Shared}
end
end L2
namespace L2.TL
open PySem PySem.Spec PyProof.Rows SrtG
section
variable{K:a8}{O:AG}{H:Hp}
end
section
variable{Z:Zx}{ρ:List (Option T)}{O:AG}{e:Expr}{Φ:BL}{p pos:Pos}{ks:List Kd}
end
end L2.TL
namespace L2
open PySem PySem.Spec PySem.Calls PyProof.Rows
section
variable{X:Cx}
end
end L2
namespace L2.TL
open PySem PySem.Spec PySem.Calls PyProof.Rows
section
variable{K:a8}{O:AG}{H H':Hp}
end
section
variable{Z:Zx}{ρ:List (Option T)}{O:AG}{e a b:Expr}{Φ:BL}{p pos:Pos}{d:Addr}{qs:List (Str×T)}{x:Str}{t:T}
end
section
variable{Z:Zx}{ρ:List (Option T)}{O:AG}{a b tg:Expr}{i j:Int}{pos:Pos}{n:Str}{ad:Addr}{xs:List V}
end
section
variable{Z:Zx}{ρ:List (Option T)}{O:AG}{x y z:Str}{p1 p2 p3 pos:Pos}{k:Nat}{ad:Addr}{w:Str}{l m':Int}
end
end L2.TL
namespace GrR
open L2.TL
variable{R:Int→Int→Prop}{n:Int}{S:List Int}{v u:Int}{d e s k:Nat}{fs gs:List (Option Nat)}{Ah ds:List Int}
inductive W(R:Int→Int→Prop)(S:List Int):Nat→Int→Prop
 |at{v:Int}:v∈S→W R S 0 v
 |go {k:Nat} {u v:Int}:W R S k u→R u v→W R S (k+1) v
def IsD(R:Int→Int→Prop)(S:List Int)(v:Int)(d:Nat):Prop:=W R S d v∧∀j,j<d→¬W R S j v
theorem IsD.uniq(a:IsD R S v d)(b:IsD R S v e):d=e:=by
 rcases gc d e with h|h|h
 ·exact absurd a.1 (b.2 d h)
 ·exact h
 ·exact absurd b.1 (a.2 e h)
theorem W.least(h:W R S k v):∃d,d≤k∧IsD R S v d:=by
 induction k using mf with
 |_ k ih=>
  by_cases hx:∃j,j<k∧W R S j v
  ·obtain⟨j,hj,w⟩:=hx
   obtain⟨d,hd,i⟩:=ih j hj w
   exact⟨d,by omega,i⟩
  ·exact⟨k,cW _,h,fun j hj w=>hx ⟨j,hj,w⟩⟩
theorem IsD.prev(h:IsD R S v (s+1)):∃u,IsD R S u s∧R u v:=by
 obtain⟨w,m⟩:=h
 cases w with
 |go w a=>exact⟨_,⟨w,fun j hj w'=>m (j+1) (by omega) (.go w' a)⟩,a⟩
theorem IsD.down(h:IsD R S v (s+k)):∃u,IsD R S u s:=by
 induction k generalizing v with
 |zero=>exact⟨v,h⟩
 |succ k ih=>
  obtain⟨u,hu,_⟩:=IsD.prev (s:=s+k) h
  exact ih hu
def Yu(n:Int)(R:Int→Int→Prop):Prop:=∀u v,R u v→0≤v∧v<n
theorem W.inb(hw:Yu n R)(hS:∀z∈S,0≤z∧z<n)(h:W R S k v):0≤v∧v<n:=by
 cases h with
 |«at» h=>exact hS _ h
 |go _ a=>exact hw _ _ a
theorem IsD.lt(hw:Yu n R)(hS:∀z∈S,0≤z∧z<n)(h:IsD R S v s):(s:Int)<n:=by
 have key:∃L:List Nat,L.length=s+1∧L.Nodup∧∀u∈L,∃i,i≤s∧IsD R S (u:Int) i:=by
  induction s generalizing v with
  |zero=>
   have:=h.1.inb hw hS
   refine⟨[v.toNat],rfl,by simp,fun u hu=> ⟨0,cW _,?_⟩⟩
   rw[cq.mp hu,gF this.1]
   exact h
  |succ s ih=>
   obtain⟨u,hu,_⟩:=h.prev
   obtain⟨L,l1,l2,l3⟩:=ih hu
   have hb:=h.1.inb hw hS
   refine⟨v.toNat::L,by simp[l1],dO.mpr ⟨fun hm=>?_,l2⟩,fun z hz=>?_⟩
   ·obtain⟨i,hi,q⟩:=l3 _ hm
    rw[gF hb.1] at q
    have:=q.uniq h
    omega
   ·rcases da.mp hz with rfl|hz
    ·exact⟨s+1,cW _,by rw[gF hb.1];exact h⟩
    ·obtain⟨i,hi,q⟩:=l3 z hz
     exact⟨i,by omega,q⟩
 obtain⟨L,l1,l2,l3⟩:=key
 have:=StT.Bn n.toNat L l2 (fun x hx=>by
  obtain⟨i,_,q⟩:=l3 x hx
  have:=q.1.inb hw hS
  omega)
 omega
structure Fr(n:Int)(R:Int→Int→Prop)(S:List Int)(s:Nat)(fs:List (Option Nat)):Prop where
 len:(fs.length:Int)=n
 eq:∀v:Int,0≤v→v<n→∀d,fs[v.toNat]?=some (some d)↔(d≤s∧IsD R S v d)
structure All(n:Int)(R:Int→Int→Prop)(S:List Int)(fs:List (Option Nat)):Prop where
 len:(fs.length:Int)=n
 eq:∀v:Int,0≤v→v<n→∀d,fs[v.toNat]?=some (some d)↔IsD R S v d
theorem Fr.all_end(h:Fr n R S s fs)(e:∀v,¬IsD R S v s):All n R S fs:=⟨h.len,fun v v0 v1 d=>by
 rw[h.eq v v0 v1 d]
 refine⟨fun z=>z.2,fun z=> ⟨?_,z⟩⟩
 by_cases hd:d≤s
 ·exact hd
 ·obtain⟨k,rfl⟩:∃k,d=s+k:=⟨d-s,by omega⟩
  obtain⟨u,hu⟩:=z.down
  exact absurd hu (e u)⟩
theorem JN(hl:(fs.length:Int)=n)(h:∀v:Int,0≤v→v<n→∀d,fs[v.toNat]?=some (some d)↔(d=0∧v∈S)):Fr n R S 0 fs:=⟨hl,fun v v0 v1 d=>by
 rw[h v v0 v1 d]
 constructor
 ·rintro⟨rfl,hv⟩
  exact⟨cW _,.at hv,fun j hj=>by omega⟩
 ·rintro⟨hd,w,_⟩
  have:d=0:=by omega
  subst this
  cases w with
  |«at» h=>exact⟨rfl,h⟩⟩
structure Mid(n:Int)(R:Int→Int→Prop)(S:List Int)(s:Nat)(fs:List (Option Nat))(Ah ds:List Int):Prop where
 len:(fs.length:Int)=n
 eq:∀v:Int,0≤v→v<n→∀d,fs[v.toNat]?=some (some d)↔((d≤s∧IsD R S v d)∨(d=s+1∧v∈Ah))
 sub:∀v∈Ah,IsD R S v (s+1)
 dn:∀v∈ds,0≤v∧v<n∧∃d,fs[v.toNat]?=some (some d)
theorem Fr.mid(h:Fr n R S s fs):Mid n R S s fs [] []:=⟨h.len,fun v v0 v1 d=>by
 rw[h.eq v v0 v1 d]
 simp,(fun _ h=>by cases h),(fun _ h=>by cases h)⟩
theorem Mid.miss(m:Mid n R S s fs Ah ds)(v0:0≤v)(v1:v<n)(h:fs[v.toNat]?=some (some d)):Mid n R S s fs Ah (ds++[v]):=⟨m.len,m.eq,m.sub,fun z hz=>by
 rcases dt.mp hz with hz|hz
 ·exact m.dn z hz
 ·rw[cq.mp hz];exact⟨v0,v1,d,h⟩⟩
theorem Mid.hit(m:Mid n R S s fs Ah ds)(v0:0≤v)(v1:v<n)(hn:fs[v.toNat]?=some none)(hu:IsD R S u s)(a:R u v):Mid n R S s (fs.set v.toNat (some (s+1))) (Ah++[v]) (ds++[v]):=by
 have hl:=m.len
 have hlt:v.toNat<fs.length:=by omega
 have iv:IsD R S v (s+1):=by
  refine⟨.go hu.1 a,fun j hj w=>?_⟩
  obtain⟨d,hd,i⟩:=w.least
  have:=(m.eq v v0 v1 d).mpr (.inl ⟨by omega,i⟩)
  rw[hn] at this
  cases this
 have key:∀w:Int,0≤w→w<n→w≠v→(fs.set v.toNat (some (s+1)))[w.toNat]?=fs[w.toNat]?:=fun w w0 w1 h=>dz (by omega)
 refine⟨by rw[gG];exact hl,fun w w0 w1 d=>?_,fun w hw=>?_,fun w hw=>?_⟩
 ·by_cases h:w=v
  ·subst h
   rw[dr hlt]
   constructor
   ·intro z
    have:d=s+1:=by cases z;rfl
    exact .inr ⟨this,by simp⟩
   ·rintro(z|z)
    ·have:=z.2.uniq iv
     omega
    ·rw[z.1]
  ·rw[key w w0 w1 h,m.eq w w0 w1 d]
   have:w∈Ah++[v]↔w∈Ah:=by simp[h]
   rw[this]
 ·rcases dt.mp hw with hw|hw
  ·exact m.sub w hw
  ·rw[cq.mp hw];exact iv
 ·rcases dt.mp hw with hw|hw
  ·obtain⟨w0,w1,d,hd⟩:=m.dn w hw
   refine⟨w0,w1,?_⟩
   by_cases h:w=v
   ·subst h;exact⟨_,dr hlt⟩
   ·exact⟨d,by rw[key w w0 w1 h];exact hd⟩
  ·rw[cq.mp hw];exact⟨v0,v1,_,dr hlt⟩
theorem Mid.done(m:Mid n R S s fs Ah ds)(h:∀u v,IsD R S u s→R u v→v∈ds):Fr n R S (s+1) fs∧∀v,v∈Ah↔IsD R S v (s+1):=by
 have key:∀v,IsD R S v (s+1)→v∈Ah:=fun v i=>by
  obtain⟨u,hu,a⟩:=i.prev
  obtain⟨v0,v1,d,hd⟩:=m.dn v (h u v hu a)
  rcases(m.eq v v0 v1 d).mp hd with z|z
  ·have:=z.2.uniq i
   omega
  ·exact z.2
 refine⟨⟨m.len,fun v v0 v1 d=>?_⟩,fun v=> ⟨m.sub v,key v⟩⟩
 rw[m.eq v v0 v1 d]
 constructor
 ·rintro(z|z)
  ·exact⟨by omega,z.2⟩
  ·rw[z.1];exact⟨cW _,m.sub v z.2⟩
 ·rintro⟨h1,h2⟩
  by_cases hd:d≤s
  ·exact .inl ⟨hd,h2⟩
  ·have:d=s+1:=by omega
   subst this
   exact .inr ⟨rfl,key v h2⟩
theorem Mid.fresh(m:Mid n R S s fs Ah ds)(v0:0≤v)(v1:v<n)(hn:fs[v.toNat]?=some none):v∉Ah:=fun h=>by
 have:=(m.eq v v0 v1 (s+1)).mpr (.inr ⟨rfl,h⟩)
 rw[hn] at this
 cases this
variable{R D L:Int→Int→Prop}{n:Int}{S:List Int}{u v a b:Int}{d k:Nat}{fs:List (Option Nat)}
open Classical in
def Hc (R:Int→Int→Prop) (S:List Int) (v:Int):Option Nat:=if h:∃d,IsD R S v d then some (choose h) else none
theorem Bc(h:IsD R S v d):Hc R S v=some d:=by
 unfold Hc
 have hx:∃d,IsD R S v d:=⟨d,h⟩
 rw[dif_pos hx]
 exact congrArg some ((Classical.choose_spec hx).uniq h)
theorem EX:Hc R S v=some d↔IsD R S v d:=by
 refine⟨fun e=>?_,Bc⟩
 unfold Hc at e
 split at e
 ·rename_i h
  cases e
  exact Classical.choose_spec h
 ·cases e
theorem IM{S':List Int}{v':Int}{R':Int→Int→Prop}(h:∀d,IsD R S v d↔IsD R' S' v' d):Hc R S v=Hc R' S' v':=by
 cases e:Hc R S v with
 |some d=>exact(Bc ((h d).mp (EX.mp e))).symm
 |none=>
  cases e':Hc R' S' v' with
  |none=>rfl
  |some d=>rw[Bc ((h d).mpr (EX.mp e'))] at e;cases e
theorem All.get(al:All n R S fs)(v0:0≤v)(v1:v<n):fs[v.toNat]?=some (Hc R S v):=by
 have hl:=al.len
 have hlt:v.toNat<fs.length:=by omega
 cases e:Hc R S v with
 |some d=>exact(al.eq v v0 v1 d).mpr (EX.mp e)
 |none=>
  rw[cc hlt]
  cases z:fs[v.toNat] with
  |none=>rfl
  |some d=>
   have:=(al.eq v v0 v1 d).mp (by rw[cc hlt,z])
   rw[Bc this] at e
   cases e
theorem W.mono(h:∀u v,L u v→D u v)(w:W L S k v):W D S k v:=by
 induction w with
 |«at» h=>exact .at h
 |go _ a ih=>exact .go ih (h _ _ a)
theorem W.cut(h:∀u v,D u v→L u v∨u=b)(w:W D S k v):W L S k v∨∃j,j<k∧W L S j b:=by
 induction w with
 |«at» h=>exact .inl (.at h)
 | @go k u v w a ih=>
  rcases ih with w'| ⟨j,hj,w'⟩
  ·rcases h _ _ a with l|rfl
   ·exact .inl (.go w' l)
   ·exact .inr ⟨k,by omega,w'⟩
  ·exact .inr ⟨j,by omega,w'⟩
theorem TY(h1:∀u v,L u v→D u v)(h2:∀u v,D u v→L u v∨u=b):IsD D S b d↔IsD L S b d:=by
 constructor
 ·rintro⟨w,m⟩
  refine⟨?_,fun j hj w'=>m j hj (w'.mono h1)⟩
  rcases w.cut h2 with w'| ⟨j,hj,w'⟩
  ·exact w'
  ·exact absurd (w'.mono h1) (m j hj)
 ·rintro⟨w,m⟩
  refine⟨w.mono h1,fun j hj w'=>?_⟩
  rcases w'.cut h2 with w'| ⟨i,hi,w'⟩
  ·exact m j hj w'
  ·exact m i (by omega) w'
theorem W.consR{p q:Int}(a:R p q)(h:W R [q] k v):W R [p] (k+1) v:=by
 induction h with
 |«at» h=>rw[cq.mp h];exact .go (.at (by simp)) a
 |go _ b ih=>exact .go ih b
theorem W.rev(sy:∀u v,R u v→R v u)(h:W R [a] k v):W R [v] k a:=by
 induction h with
 |«at» h=>rw[cq.mp h];exact .at (by simp)
 |go _ b ih=>exact .consR (sy _ _ b) ih
theorem NM(sy:∀u v,R u v→R v u):IsD R [a] b d↔IsD R [b] a d:=
 ⟨fun h=> ⟨h.1.rev sy,fun j hj w=>h.2 j hj (w.rev sy)⟩,fun h=> ⟨h.1.rev sy,fun j hj w=>h.2 j hj (w.rev sy)⟩⟩
theorem TZ{ps:List (Int×Int)}:Gr.W ps S k v↔W (Gr.Adj ps) S k v:=by
 constructor
 ·intro h
  induction h with
  |«at» h=>exact .at h
  |go _ a ih=>exact .go ih a
 ·intro h
  induction h with
  |«at» h=>exact .at h
  |go _ a ih=>exact .go ih a
theorem Wj{ps:List (Int×Int)}:Gr.IsD ps S v d↔IsD (Gr.Adj ps) S v d:=
 ⟨fun h=> ⟨TZ.mp h.1,fun j hj w=>h.2 j hj (TZ.mpr w)⟩,fun h=> ⟨TZ.mpr h.1,fun j hj w=>h.2 j hj (TZ.mp w)⟩⟩
theorem Wl{ps:List (Int×Int)}(h:Gr.All n ps S fs):All n (Gr.Adj ps) S fs:=⟨h.len,fun v v0 v1 d=> (h.eq v v0 v1 d).trans Wj⟩
variable{R:Int→Int→Prop}{a b p q:Int}{L M:List Int}{k d s:Nat}
def Ch(R:Int→Int→Prop):List Int→Prop
 |a::b::L=>R a b∧Ch R (b::L)
 |_=>True
theorem Ch.tail(h:Ch R (a::L)):Ch R L:=by
 cases L with
 |nil=>trivial
 |cons b L=>exact h.2
theorem HA:Ch R (L++a::M)↔Ch R (L++[a])∧Ch R (a::M):=by
 induction L with
 |nil=>exact⟨fun h=> ⟨trivial,h⟩,fun h=>h.2⟩
 |cons x L ih=>
  cases L with
  |nil=>exact⟨fun h=> ⟨⟨h.1,trivial⟩,h.2⟩,fun h=> ⟨h.1.1,h.2⟩⟩
  |cons y L=>
   constructor
   ·intro h
    have:=ih.mp h.2
    exact⟨⟨h.1,this.1⟩,this.2⟩
   ·intro h
    exact⟨h.1.1,ih.mpr ⟨h.1.2,h.2⟩⟩
theorem Fz:Ch R (L++[a]++[b])↔Ch R (L++[a])∧R a b:=by
 rw[fe]
 exact HA.trans ⟨fun h=> ⟨h.1,h.2.1⟩,fun h=> ⟨h.1,h.2,trivial⟩⟩
theorem Qm(sy:∀u v,R u v→R v u):∀{L:List Int},Ch R L→Ch R L.reverse
 | [],_=>trivial
 | [a],_=>trivial
 |a::b::L,h=>by
  have:=Qm sy h.2
  rw[jW,jW] at*
  exact Fz.mpr ⟨this,sy _ _ h.1⟩
structure Ring(R:Int→Int→Prop)(L:List Int):Prop where
 len:3≤L.length
 nd:L.Nodup
 ch:Ch R L
 cl:∀a z,L.head?=some a→L.getLast?=some z→R z a
theorem HB(sy:∀u v,R u v→R v u):∀{p q:List Int} {a z:Int},Ch R (a::p)→Ch R (a::q)→(a::p).Nodup→(a::q).Nodup→(a::p).getLast?=some z→(a::q).getLast?=some z→p≠q→∃L,Ring R L∧L.length≤p.length+q.length
 | [],[],a,z,_,_,_,_,_,_,ne=>absurd rfl ne
 | [],c::q,a,z,_,_,_,nq,lp,lq,_=>by
  have e:z=a:=by simpa using lp.symm
  subst e
  rw[eQ] at lq
  exact absurd (gU lq) (dO.mp nq).1
 |b::p,[],a,z,_,_,np,_,lp,lq,_=>by
  have e:z=a:=by simpa using lq.symm
  subst e
  rw[eQ] at lp
  exact absurd (gU lp) (dO.mp np).1
 |b::p,c::q,a,z,hp,hq,np,nq,lp,lq,ne=>by
  rw[eQ] at lp lq
  by_cases e:b=c
  ·subst e
   obtain⟨L,r,l⟩:=HB sy hp.2 hq.2 (dO.mp np).2 (dO.mp nq).2 lp lq (fun z=>ne (by rw[z]))
   exact⟨L,r,by simp only[c9];omega⟩
  ·--the first of the second way that lies on the first
   have key:∀Q:List Int,(∃m∈Q,m∈b::p)→∃x m y,Q=x++m::y∧m∈b::p∧∀t∈x,t∉b::p:=by
    intro Q
    induction Q with
    |nil=>rintro⟨m,hm,_⟩;cases hm
    |cons t Q ih=>
     intro h
     by_cases ht:t∈b::p
     ·exact⟨[],t,Q,rfl,ht,fun _ h=>by cases h⟩
     ·obtain⟨m,hm,hm2⟩:=h
      rcases da.mp hm with rfl|hm
      ·exact absurd hm2 ht
      ·obtain⟨x,m,y,e,h1,h2⟩:=ih ⟨m,hm,hm2⟩
       refine⟨t::x,m,y,by rw[e];rfl,h1,fun u hu=>?_⟩
       rcases da.mp hu with rfl|hu
       ·exact ht
       ·exact h2 u hu
   obtain⟨x,m,y,eq,hm,hx⟩:=key (c::q) ⟨z,gU lq,gU lp⟩
   obtain⟨u,v,ep⟩:=List.append_of_mem hm
   have ha1:=(dO.mp np).1
   have ha2:=(dO.mp nq).1
   have n1:=(dO.mp np).2
   have n2:=(dO.mp nq).2
   rw[eq] at ha2 n2 hq
   have hum:∀t,t∈u++[m]→t∈b::p:=fun t ht=>by
    rw[ep];simp only[dt,da,gq,or_false] at ht ⊢;rcases ht with h|h
    ·exact .inl h
    ·exact .inr (.inl h)
   have l1:(b::p).length=u.length+(v.length+1):=by rw[ep];simp
   have l2:(c::q).length=x.length+(y.length+1):=by rw[eq];simp
   simp only[c9] at l1 l2
   refine⟨a::(u++[m]++x.reverse),⟨?_,?_,?_,?_⟩,?_⟩
   ·simp only[c9,dh,List.length_reverse,gH]
    cases u with
    |cons _ _=>simp only[c9];omega
    |nil=>
     cases x with
     |cons _ _=>simp only[c9];omega
     |nil=>
      have e1:b=m:=by simpa using(og.inj ep).1
      have e2:c=m:=by simpa using(og.inj eq).1
      exact absurd (e1.trans e2.symm) e
   ·rw[dO]
    refine⟨fun h=>?_,?_⟩
    ·rcases dt.mp h with h|h
     ·exact ha1 (hum _ h)
     ·exact ha2 (eU _ (List.mem_reverse.mp h))
    ·rw[eY]
     rw[ep] at n1
     refine⟨?_,List.pairwise_reverse.mpr ((eY.mp n2).1.imp Ne.symm),fun t ht w hw e=>hx w (List.mem_reverse.mp hw) (e▸hum t ht)⟩
     have:=eY.mp (show(u++m::v).Nodup from n1)
     rw[eY]
     exact⟨this.1,by simp,fun t ht w hw=>this.2.2 t ht w (by rw[cq.mp hw];simp)⟩
   ·have h1:Ch R ((a::u)++[m]):=(HA (M:=v)).mp (by rw[kg,←ep];exact hp)|>.1
    have h2:Ch R (m::x.reverse):=by
     have:Ch R (x++[m]):=((HA (L:=a::x) (M:=y)).mp hq).1.tail
     have:=Qm sy this
     rwa[kz] at this
    have:=(HA (L:=a::u) (a:=m) (M:=x.reverse)).mpr ⟨h1,h2⟩
    rwa[show a::(u++[m]++x.reverse)=(a::u)++m::x.reverse by simp]
   ·intro a' z' h1 h2
    have:a'=a:=by simpa using h1.symm
    subst this
    cases x with
    |nil=>
     have e2:c=m:=by simpa using(og.inj eq).1
     have:z'=m:=by
      rw[List.reverse_nil,eZ,←kg,List.getLast?_append] at h2
      simpa using h2.symm
     rw[this]
     exact sy _ _ hq.1
    |cons t x=>
     have:z'=t:=by
      rw[jW,←fe,←kg,List.getLast?_append] at h2
      simpa using h2.symm
     rw[this]
     exact sy _ _ hq.1
   ·simp only[c9,dh,List.length_reverse,gH]
    omega
theorem NN(h:IsD R [p] q d):∃L,L.length=d+1∧L.head?=some p∧L.getLast?=some q∧L.Nodup∧Ch R L∧∀x∈L,∃i,i≤d∧IsD R [p] x i:=by
 induction d generalizing q with
 |zero=>
  have:q=p:=by
   cases h.1 with
   |«at» h=>exact cq.mp h
  subst this
  exact⟨[q],rfl,rfl,rfl,by simp,trivial,fun x hx=>by rw[cq.mp hx];exact⟨0,cW _,h⟩⟩
 |succ d ih=>
  obtain⟨u,hu,r⟩:=h.prev
  obtain⟨L,l1,l2,l3,l4,l5,l6⟩:=ih hu
  obtain⟨M,rfl⟩:∃M,L=M++[u]:=gJ.mp l3
  refine⟨M++[u]++[q],by simp only[dh,c9,gH] at l1 ⊢;omega,?_,by simp,?_,Fz.mpr ⟨l5,r⟩,fun x hx=>?_⟩
  ·rw[lE,l2];rfl
  ·rw[eY]
   refine⟨l4,by simp,fun x hx y hy e=>?_⟩
   rw[cq.mp hy] at e
   subst e
   obtain⟨i,hi,hd⟩:=l6 x hx
   have:=hd.uniq h
   omega
  ·rcases dt.mp hx with hx|hx
   ·obtain⟨i,hi,hd⟩:=l6 x hx
    exact⟨i,by omega,hd⟩
   ·rw[cq.mp hx];exact⟨d+1,cW _,h⟩
theorem OW:∀{L:List Int} {p q:Int},Ch R (p::L)→(p::L).getLast?=some q→W R [p] L.length q
 | [],p,q,_,h=>by
  have:q=p:=by simpa using h.symm
  rw[this];exact .at (by simp)
 |b::L,p,q,hc,h=>by
  rw[eQ] at h
  exact .consR hc.1 (OW hc.2 h)
theorem EY{i:Nat}(h:Ch R L):Ch R (L.take i):=by
 by_cases hi:i<L.length
 ·have e:L=L.take i++L[i]::L.drop (i+1):=by rw[iq,fM]
  rw[e] at h
  have h1:=(HA.mp h).1
  generalize L.take i=A at*
  clear e h
  induction A with
  |nil=>trivial
  |cons x A ih=>
   cases A with
   |nil=>trivial
   |cons y A=>exact⟨h1.1,ih h1.2⟩
 ·rw[List.take_of_length_le (by omega)];exact h
theorem GA{i:Nat}(h:Ch R L):Ch R (L.drop i):=by
 induction i generalizing L with
 |zero=>exact h
 |succ i ih=>
  cases L with
  |nil=>trivial
  |cons a L=>exact ih h.tail
theorem Qn(sy:∀u v,R u v→R v u)(h:Ring R (p::L))(least:∀M,Ring R M→(p::L).length≤M.length){i:Nat}(hi:i<L.length):IsD R [p] L[i] (min (i+1) (L.length-i)):=by
 have hl:(L.take (i+1)).getLast?=some L[i]:=by
  rw[List.getLast?_take,if_neg (by omega)]
  simp[cc hi]
 have w1:W R [p] (i+1) L[i]:=by
  have hc:Ch R (p::L.take (i+1)):=EY (i:=i+2) h.ch
  have:=OW hc (q:=L[i]) (by
   cases e:L.take (i+1) with
   |nil=>rw[e] at hl;cases hl
   |cons x A=>rw[eQ,←e];exact hl)
  rwa[dI,Nat.min_eq_left (by omega)] at this
 obtain⟨z,hz⟩:∃z,(p::L).getLast?=some z:=⟨_,List.getLast?_cons⟩
 have w2:W R [p] (L.length-i) L[i]:=by
  have e:L.drop i=L[i]::L.drop (i+1):=(iq ..).symm
  have hc:Ch R (L[i]::L.drop (i+1)):=e▸GA (i:=i) h.ch.tail
  have hz2:(L[i]::L.drop (i+1)).getLast?=some z:=by
   rw[←e,List.getLast?_drop,if_neg (by omega)]
   cases L with
   |nil=>cases hi
   |cons x A=>rwa[eQ] at hz
  have:=(OW hc hz2).rev sy
  have:=this.consR (sy _ _ (h.cl p z rfl hz))
  rwa[gO,show L.length- (i+1)+1=L.length-i by omega] at this
 have hw:W R [p] (min (i+1) (L.length-i)) L[i]:=by
  by_cases c:i+1≤L.length-i
  ·rw[Nat.min_eq_left c];exact w1
  ·rw[Nat.min_eq_right (by omega)];exact w2
 obtain⟨d,hd,hD⟩:=hw.least
 by_cases e:d=min (i+1) (L.length-i)
 ·rw[←e];exact hD
 ·exfalso
  obtain⟨M,m1,m2,m3,m4,m5,_⟩:=NN hD
  cases M with
  |nil=>cases m2
  |cons x M=>
   have:x=p:=by simpa using m2
   subst this
   obtain⟨Q,r,l⟩:=HB (p:=M) (q:=L.take (i+1)) sy m5 (EY (i:=i+2) h.ch) m4 (by
    exact List.Nodup.sublist (iH (i+2) (x::L)) h.nd) m3 (by
    cases e:L.take (i+1) with
    |nil=>rw[e] at hl;cases hl
    |cons y A=>rw[eQ,←e];exact hl) (fun z=>by
     have:=congrArg List.length z
     rw[dI] at this
     simp only[c9] at m1
     omega)
   have:=least Q r
   simp only[c9,dI] at this l m1
   omega
variable{R:Int→Int→Prop}{nb:Int→List Int}{c:Nat→Int→Bool}{a b p q v:Int}{L M r:List Int}{rs:List (List Int)}{k d s:Nat}{n:Int}
def lst(r:List Int):Int:=r.getLastD 0
def Yv(nb:Int→List Int)(c:Int→Bool)(r:List Int):List (List Int):=((nb (lst r)).filter fun v=>c v&&!decide (v∈r)).map fun v=>r++[v]
def Kl(nb:Int→List Int)(c:Int→Bool)(rs:List (List Int)):List (List Int):=rs.flatMap (Yv nb c)
def EZ(nb:Int→List Int)(c:Nat→Int→Bool)(p:Int):Nat→List (List Int)
 |0=> [[p]]
 |k+1=>Kl nb (c (k+1)) (EZ nb c p k)
structure Way(R:Int→Int→Prop)(c:Nat→Int→Bool)(p:Int)(k:Nat)(r:List Int):Prop where
 len:r.length=k+1
 hd:r.head?=some p
 nd:r.Nodup
 ch:Ch R r
 ok:∀i v,1≤i→r[i]?=some v→c i v=true
theorem Qo(h:r.getLast?=some a):lst r=a:=by
 unfold lst
 rw[List.getLastD_eq_getLast?,h];rfl
theorem Ca(h:r≠[]):r.getLast?=some (lst r):=by
 cases e:r.getLast? with
 |none=>exact absurd (List.getLast?_eq_none_iff.mp e) h
 |some a=>rw[Qo e]
theorem CM(hR:∀u v,v∈nb u↔R u v):r∈EZ nb c p k↔Way R c p k r:=by
 induction k generalizing r with
 |zero=>
  constructor
  ·intro h
   rw[cq.mp h]
   exact⟨rfl,rfl,by simp,trivial,fun i v hi h=>by
    cases i with
    |zero=>omega
    |succ i=>cases h⟩
  ·rintro⟨h1,h2,_⟩
   match r,h1,h2 with
   | [x],_,h2=>
    have:x=p:=by simpa using h2
    rw[this];exact cq.mpr rfl
 |succ k ih=>
  constructor
  ·intro h
   obtain⟨r',hr',h⟩:=kb.mp h
   obtain⟨v,hv,rfl⟩:=df.mp h
   obtain⟨hv1,hv2⟩:=eE.mp hv
   rw[eX] at hv2
   have hv3:v∉r':=by simpa using hv2.2
   obtain⟨w1,w2,w3,w4,w5⟩:=ih.mp hr'
   have hne:r'≠[]:=fun z=>by rw[z] at w1;cases w1
   obtain⟨M,e⟩:=gJ.mp (Ca hne)
   refine⟨by rw[dh,w1];rfl,by rw[lE,w2];rfl,?_,?_,fun i u hi h=>?_⟩
   ·rw[eY]
    exact⟨w3,by simp,fun x hx y hy e=>hv3 (by rw[←cq.mp hy,←e];exact hx)⟩
   ·rw[e]
    exact Fz.mpr ⟨e▸w4,(hR _ _).mp hv1⟩
   ·by_cases hl:i<r'.length
    ·rw[dM hl] at h
     exact w5 i u hi h
    ·rw[dB (by omega)] at h
     have:i-r'.length=0:=by
      cases z:i-r'.length with
      |zero=>rfl
      |succ z'=>rw[z] at h;simp at h
     rw[this] at h
     have hu:v=u:=by simpa using h
     have hi2:i=k+1:=by omega
     rw[←hu,hi2];exact hv2.1
  ·rintro⟨w1,w2,w3,w4,w5⟩
   have hne:r≠[]:=fun z=>by rw[z] at w1;cases w1
   obtain⟨M,e⟩:=gJ.mp (Ca hne)
   generalize lst r=v at e
   subst e
   have hlM:M.length=k+1:=by simpa using w1
   have hneM:M≠[]:=fun z=>by rw[z] at hlM;cases hlM
   obtain⟨N,eN⟩:=gJ.mp (Ca hneM)
   rw[eY] at w3
   have hadj:R (lst M) v:=by
    have:Ch R (N++[lst M]++[v]):=by rw[←eN];exact w4
    exact(Fz.mp this).2
   refine kb.mpr ⟨M,ih.mpr ⟨hlM,?_,w3.1,?_,fun i u hi h=>?_⟩,df.mpr ⟨v,eE.mpr ⟨(hR _ _).mpr hadj,?_⟩,rfl⟩⟩
   ·rw[lE] at w2
    cases M with
    |nil=>exact absurd rfl hneM
    |cons x M=>exact w2
   ·have:=EY (i:=M.length) w4
    rwa[List.take_left] at this
   ·refine w5 i u hi ?_
    rw[dM (cw.mp h).1];exact h
   ·rw[eX]
    refine⟨w5 (k+1) v (by omega) ?_,by simpa using fun h=>w3.2.2 v h v (by simp) rfl⟩
    rw[dB (by omega),hlM];simp
def rk(r:List Int):Int:=r.foldl (fun a v=>a*32+v) 0
theorem Ea:rk (r++[v])=rk r*32+v:=by unfold rk;rw[List.foldl_append];rfl
theorem MG{c:Int→Bool}(hs:∀u,(nb u).Pairwise (· < ·))(hb:∀u v,v∈nb u→0≤v∧v<32)(h:rs.Pairwise fun x y=>rk x<rk y):(Kl nb c rs).Pairwise fun x y=>rk x<rk y:=by
 unfold Kl
 rw[List.pairwise_flatMap]
 refine⟨fun r _=>?_,dD.imp (fun{x y} hxy=>?_) h⟩
 ·unfold Yv
  rw[eJ]
  refine dD.imp (fun{u v} huv=>?_) ((hs (lst r)).filter _)
  rw[Ea,Ea];omega
 ·intro x' hx' y' hy'
  obtain⟨u,hu,rfl⟩:=df.mp hx'
  obtain⟨v,hv,rfl⟩:=df.mp hy'
  have:=hb _ _ (eE.mp hu).1
  have:=hb _ _ (eE.mp hv).1
  rw[Ea,Ea];omega
theorem Dy(hs:∀u,(nb u).Pairwise (· < ·))(hb:∀u v,v∈nb u→0≤v∧v<32):(EZ nb c p k).Pairwise fun x y=>rk x<rk y:=by
 induction k with
 |zero=>exact gm ..
 |succ k ih=>exact MG hs hb ih
theorem Qp(hb:∀u v,v∈nb u→0≤v∧v<32)(h:r∈EZ nb c p k):p*32^k≤rk r∧rk r< (p+1)*32^k:=by
 induction k generalizing r with
 |zero=>
  rw[cq.mp h]
  show p*1≤0*32+p∧0*32+p< (p+1)*1
  omega
 |succ k ih=>
  obtain⟨r',hr',h⟩:=kb.mp h
  obtain⟨v,hv,rfl⟩:=df.mp h
  have h1:=ih hr'
  have h2:=hb _ _ (eE.mp hv).1
  rw[Ea,nE,←m8,←m8]
  generalize p*32^k=A at*
  generalize (p+1)*32^k=B at*
  omega
theorem Uj:∀{xs ys:List (List Int)},xs.Pairwise (fun x y=>rk x<rk y)→ys.Pairwise (fun x y=>rk x<rk y)→(∀v,v∈xs↔v∈ys)→xs=ys
 | [],[],_,_,_=>rfl
 | [],y::_,_,_,h=>by have:=(h y).mpr (by simp);cases this
 |x::_,[],_,_,h=>by have:=(h x).mp (by simp);cases this
 |x::xs,y::ys,hx,hy,h=>by
  rw[List.pairwise_cons] at hx hy
  have e:x=y:=by
   rcases da.mp ((h x).mp (by simp)) with e|h1
   ·exact e
   ·rcases da.mp ((h y).mpr (by simp)) with e|h2
    ·exact e.symm
    ·have:=hy.1 x h1
     have:=hx.1 y h2
     omega
  subst e
  rw[Uj hx.2 hy.2 fun v=>?_]
  constructor
  ·intro hv
   rcases da.mp ((h v).mp (cX _ hv)) with e|h1
   ·have:=hx.1 v hv
    rw[e] at this
    omega
   ·exact h1
  ·intro hv
   rcases da.mp ((h v).mpr (cX _ hv)) with e|h1
   ·have:=hy.1 v hv
    rw[e] at this
    omega
   ·exact h1
theorem HC{F:Int→List (List Int)}(hF:∀p,(F p).Pairwise fun x y=>rk x<rk y)(hk:∀p r,r∈F p→p*32^k≤rk r∧rk r< (p+1)*32^k){m:Nat}:((dN m).flatMap fun(i:Nat)=>F (i:Int)).Pairwise fun x y=>rk x<rk y:=by
 rw[List.pairwise_flatMap]
 refine⟨fun i _=>hF i,dD.imp (fun{i j} hij=>?_) jX⟩
 intro x hx y hy
 have h1:=(hk _ _ hx).2
 have h2:=(hk _ _ hy).1
 have:((i:Int)+1)*32^k≤(j:Int)*32^k:=gP (by omega) (Int.pow_nonneg (by decide))
 omega
theorem Km{α β:Type}{f:α→List β}{m:Nat}:∀{xs:List α},(∀x∈xs,(f x).length≤m)→(xs.flatMap f).length≤xs.length*m
 | [],_=>by simp
 |x::xs,h=>by
  have h1:=h x (by simp)
  have h2:=Km (f:=f) (m:=m) (xs:=xs) fun y hy=>h y (cX _ hy)
  rw[List.flatMap_cons,dh,c9,Nat.add_mul,Nat.one_mul]
  omega
variable{R R':Int→Int→Prop}{nb:Int→List Int}{a b p q v:Int}{L M r:List Int}{k d s:Nat}{n:Int}
def Uk(R:Int→Int→Prop)(a b u v:Int):Prop:=R u v∧¬(u=a∧v=b)∧¬(u=b∧v=a)
theorem JP:∀{L:List Int},Ch R L→(∀u∈L,∀v∈L,R u v→R' u v)→Ch R' L
 | [],_,_=>trivial
 | [_],_,_=>trivial
 |a::b::L,h,m=> ⟨m a (by simp) b (by simp) h.1,JP h.2 fun u hu v hv=>m u (cX _ hu) v (cX _ hv)⟩
theorem Wm(h:Ring R r):∃a b,R a b∧W (Uk R a b) [b] (r.length-1) a:=by
 match r,h with
 | [],h=>exact absurd h.len (by decide)
 | [_],h=>exact absurd h.len (by show¬3≤1;decide)
 | [_,_],h=>exact absurd h.len (by show¬3≤2;decide)
 |x::y::t::L,h=>
  have hne:(t::L)≠[]:=by simp
  have hz:(x::y::t::L).getLast?=some (lst (t::L)):=by
   rw[eQ,eQ];exact Ca hne
  have hmz:lst (t::L)∈t::L:=gU (Ca hne)
  generalize lst (t::L)=z at hz hmz
  have nd:=h.nd
  rw[dO,dO] at nd
  refine⟨z,x,h.cl x z rfl hz,?_⟩
  refine OW (L:=y::t::L) ⟨⟨h.ch.1,fun e=>?_,fun e=>?_⟩,JP h.ch.2 fun u hu v hv r=> ⟨r,fun e=>?_,fun e=>?_⟩⟩ hz
  ·exact nd.1 (e.2▸dw ..)
  ·exact nd.2.1 (e.2▸hmz)
  ·exact nd.1 (e.2▸hv)
  ·exact nd.1 (e.1▸hu)
theorem Ta(sy:∀u v,R u v→R v u)(ir:∀u,¬R u u)(h:R a b)(hd:IsD (Uk R a b) [a] b d):∃r,Ring R r∧r.length=d+1:=by
 obtain⟨L,l1,l2,l3,l4,l5,_⟩:=NN hd
 refine⟨L,⟨?_,l4,JP l5 fun u _ v _ c=>c.1,fun x z h1 h2=>?_⟩,l1⟩
 ·match d,hd with
  |0,hd=>
   cases hd.1 with
   |«at» hm=>rw[cq.mp hm] at h;exact absurd h (ir _)
  |1,hd=>
   cases hd.1 with
   |go w c=>
    cases w with
    |«at» hm=>rw[cq.mp hm] at c;exact absurd ⟨rfl,rfl⟩ c.2.1
  |d+2,_=>omega
 ·rw[l2] at h1
  rw[l3] at h2
  cases h1
  cases h2
  exact sy _ _ h
theorem OX(sy:∀u v,R u v→R v u)(h:Ring R (p::L)){i:Nat}(hi:i<L.length):W R [p] (L.length-i) L[i]:=by
 obtain⟨z,hz⟩:∃z,(p::L).getLast?=some z:=⟨_,List.getLast?_cons⟩
 have e:L.drop i=L[i]::L.drop (i+1):=(iq ..).symm
 have hc:Ch R (L[i]::L.drop (i+1)):=e▸GA (i:=i) h.ch.tail
 have hz2:(L[i]::L.drop (i+1)).getLast?=some z:=by
  rw[←e,List.getLast?_drop,if_neg (by omega)]
  cases L with
  |nil=>cases hi
  |cons x A=>rwa[eQ] at hz
 have:=(OW hc hz2).rev sy
 have:=this.consR (sy _ _ (h.cl p z rfl hz))
 rwa[gO,show L.length- (i+1)+1=L.length-i by omega] at this
def CA(R:Int→Int→Prop)(s:Nat)(p:Int)(i:Nat)(v:Int):Bool:=match Hc R [p] v with
 |some d=>decide (d≤s-i)
 |none=>false
def Yw(R:Int→Int→Prop)(s:Nat)(p:Int)(i:Nat)(v:Int):Bool:=decide (Hc R [p] v=some (min i (s-i)))
def Fo(R:Int→Int→Prop)(nb:Int→List Int)(s:Nat)(p:Int):List (List Int):=(EZ nb (CA R s p) p (s-1)).filter fun r=>decide (p∈nb (lst r))
def Tc(R:Int→Int→Prop)(nb:Int→List Int)(s:Nat)(p:Int):List (List Int):=EZ nb (Yw R s p) p (s-1)
def DC(R:Int→Int→Prop)(nb:Int→List Int)(s m:Nat):List (List Int):=(dN m).flatMap fun(i:Nat)=>Fo R nb s (i:Int)
def Td(R:Int→Int→Prop)(nb:Int→List Int)(s m:Nat):List (List Int):=(dN m).flatMap fun(i:Nat)=>Tc R nb s (i:Int)
theorem Qq(sy:∀u v,R u v→R v u)(hR:∀u v,v∈nb u↔R u v)(hs:3≤s):r∈Fo R nb s p↔Ring R r∧r.length=s∧r.head?=some p:=by
 unfold Fo
 rw[eE,CM hR]
 constructor
 ·rintro⟨⟨w1,w2,w3,w4,w5⟩,hc⟩
  have hl:r.length=s:=by omega
  refine⟨⟨by omega,w3,w4,fun x z h1 h2=>?_⟩,hl,w2⟩
  rw[w2] at h1
  cases h1
  rw[←Qo h2]
  exact(hR _ _).mp (of_decide_eq_true hc)
 ·rintro⟨h,hl,hp⟩
  cases r with
  |nil=>cases hp
  |cons x L=>
   have:x=p:=by simpa using hp
   subst this
   have hl':L.length+1=s:=hl
   refine⟨⟨by simp only[c9];omega,rfl,h.nd,h.ch,fun i v hi e=>?_⟩,decide_eq_true ((hR _ _).mpr (h.cl x _ rfl (Ca (by simp))))⟩
   cases i with
   |zero=>omega
   |succ i=>
    rw[gz] at e
    obtain⟨hi',rfl⟩:=cw.mp e
    obtain⟨d,hd,hD⟩:=(OX sy h hi').least
    unfold CA
    rw[Bc hD]
    exact decide_eq_true (by omega)
theorem Qr(sy:∀u v,R u v→R v u)(hR:∀u v,v∈nb u↔R u v)(hs:3≤s)(least:∀M,Ring R M→s≤M.length):r∈Tc R nb s p↔Ring R r∧r.length=s∧r.head?=some p:=by
 unfold Tc
 rw[CM hR]
 constructor
 ·rintro⟨w1,w2,w3,w4,w5⟩
  have hl:r.length=s:=by omega
  refine⟨⟨by omega,w3,w4,fun x z h1 h2=>?_⟩,hl,w2⟩
  rw[w2] at h1
  cases h1
  have hz:r[s-1]?=some z:=by rw[List.getLast?_eq_getElem?,hl] at h2;exact h2
  have:=of_decide_eq_true (w5 (s-1) z (by omega) hz)
  rw[show min (s-1) (s- (s-1))=1 by omega] at this
  obtain⟨u,hu,a⟩:=(EX.mp this).prev
  cases hu.1 with
  |«at» hm=>rw[cq.mp hm] at a;exact sy _ _ a
 ·rintro⟨h,hl,hp⟩
  cases r with
  |nil=>cases hp
  |cons x L=>
   have:x=p:=by simpa using hp
   subst this
   have hl':L.length+1=s:=hl
   refine⟨by simp only[c9];omega,rfl,h.nd,h.ch,fun i v hi e=>?_⟩
   cases i with
   |zero=>omega
   |succ i=>
    rw[gz] at e
    obtain⟨hi',rfl⟩:=cw.mp e
    have:=Qn sy h (fun M hM=>by simp only[c9];have:=least M hM;omega) hi'
    unfold Yw
    rw[Bc this]
    exact decide_eq_true (by congr 2;omega)
theorem JQ(hb:∀u v,R u v→0≤v∧v<n)(h:Ring R r):∀z∈r,0≤z∧z<n:=by
 have key:∀{L:List Int} {x:Int},0≤x∧x<n→Ch R (x::L)→∀z∈x::L,0≤z∧z<n:=by
  intro L
  induction L with
  |nil=>intro x hx _ z hz;rw[cq.mp hz];exact hx
  |cons y L ih=>
   intro x hx hc z hz
   rcases da.mp hz with rfl|hz
   ·exact hx
   ·exact ih (hb _ _ hc.1) hc.2 z hz
 cases r with
 |nil=>intro z hz;cases hz
 |cons x L=>exact key (hb _ _ (h.cl x _ rfl (Ca (by simp)))) h.ch
theorem Kn{F:Int→List (List Int)}{P:List Int→Prop}(hb:∀r,P r→∃p,r.head?=some p∧0≤p∧p<n)(h:∀p r,r∈F p↔P r∧r.head?=some p):r∈((dN n.toNat).flatMap fun(i:Nat)=>F (i:Int))↔P r:=by
 rw[kb]
 constructor
 ·rintro⟨i,_,hi⟩
  exact((h _ _).mp hi).1
 ·intro hp
  obtain⟨p,h1,h2,h3⟩:=hb r hp
  refine⟨p.toNat,e8.mpr (by omega),(h _ _).mpr ⟨hp,?_⟩⟩
  rw[h1,gF h2]
theorem IP(hb:∀u v,R u v→0≤v∧v<n)(h:Ring R r):∃p,r.head?=some p∧0≤p∧p<n:=by
 cases r with
 |nil=>exact absurd h.len (by decide)
 |cons x L=>exact⟨x,rfl,JQ hb h x (by simp)⟩
theorem Cj(sy:∀u v,R u v→R v u)(hR:∀u v,v∈nb u↔R u v)(hb:∀u v,R u v→0≤v∧v<n)(hs:3≤s):r∈DC R nb s n.toNat↔Ring R r∧r.length=s:=
 Kn (P:=fun r=>Ring R r∧r.length=s) (fun r h=>IP hb h.1) fun p r=> (Qq sy hR hs).trans and_assoc.symm
theorem Qs(sy:∀u v,R u v→R v u)(hR:∀u v,v∈nb u↔R u v)(hb:∀u v,R u v→0≤v∧v<n)(hs:3≤s)(least:∀M,Ring R M→s≤M.length):r∈Td R nb s n.toNat↔Ring R r∧r.length=s:=
 Kn (P:=fun r=>Ring R r∧r.length=s) (fun r h=>IP hb h.1) fun p r=> (Qr sy hR hs least).trans and_assoc.symm
theorem Fg(hs:∀u,(nb u).Pairwise (· < ·))(hb:∀u v,v∈nb u→0≤v∧v<32){m:Nat}:(DC R nb s m).Pairwise fun x y=>rk x<rk y:=
 HC (F:=Fo R nb s) (k:=s-1) (fun p=>dD.filter _ (Dy hs hb)) fun p r h=>Qp hb (eE.mp h).1
theorem Ko(hs:∀u,(nb u).Pairwise (· < ·))(hb:∀u v,v∈nb u→0≤v∧v<32){m:Nat}:(Td R nb s m).Pairwise fun x y=>rk x<rk y:=
 HC (F:=Tc R nb s) (k:=s-1) (fun p=>Dy hs hb) fun p r h=>Qp hb h
theorem Te(sy:∀u v,R u v→R v u)(hR:∀u v,v∈nb u↔R u v)(hb:∀u v,R u v→0≤v∧v<n)(hn:n≤32)(hp:∀u,(nb u).Pairwise (· < ·))(hs:3≤s)(least:∀M,Ring R M→s≤M.length):DC R nb s n.toNat=Td R nb s n.toNat:=by
 have hb':∀u v,v∈nb u→0≤v∧v<32:=fun u v h=>by have:=hb u v ((hR u v).mp h);omega
 exact Uj (Fg hp hb') (Ko hp hb') fun r=> (Cj sy hR hb hs).trans (Qs sy hR hb hs least).symm
variable{R:Int→Int→Prop}{nb:Int→List Int}{c:Nat→Int→Bool}{p:Int}{r q:List Int}{k s:Nat}{n:Int}
theorem Qt(sy:∀u v,R u v→R v u)(least:∀M,Ring R M→s≤M.length)(hr:Ch R r)(hq:Ch R q)(nr:r.Nodup)(nq:q.Nodup){i d:Nat}(hd:2*d<s)(lr:i+d<r.length)(lq:i+d<q.length)(e1:r[i]?=q[i]?)(e2:r[i+d]?=q[i+d]?):∀m,i≤m→m≤i+d→r[m]?=q[m]?:=by
 have hri:i<r.length:=by omega
 have hqi:i<q.length:=by omega
 have key:∀(x:List Int) (hx:i<x.length),i+d<x.length→(x.drop i).take (d+1)=x[i]::(x.drop (i+1)).take d∧((x.drop i).take (d+1)).getLast?=x[i+d]?:=fun x hx hl=>by
  constructor
  ·rw[←iq hx,List.take_succ_cons]
  ·rw[List.getLast?_eq_getElem?,dI,gO,i6,if_pos (by omega),fD]
   congr 1
   omega
 obtain⟨a1,b1⟩:=key r hri lr
 obtain⟨a2,b2⟩:=key q hqi lq
 have hh:r[i]=q[i]:=by
  rw[cc hri,cc hqi] at e1
  exact dQ.inj e1
 have same:(r.drop (i+1)).take d=(q.drop (i+1)).take d:=by
  by_cases e:(r.drop (i+1)).take d=(q.drop (i+1)).take d
  ·exact e
  ·exfalso
   obtain⟨z,hz⟩:∃z,r[i+d]?=some z:=⟨_,cc lr⟩
   obtain⟨L,h1,h2⟩:=HB (a:=r[i]) (z:=z) sy (a1▸EY (GA hr)) (by rw[hh];exact a2▸EY (GA hq)) (a1▸(nr.sublist ((iH ..).trans (lF ..)))) (by rw[hh];exact a2▸(nq.sublist ((iH ..).trans (lF ..)))) (by rw[←a1,b1,hz]) (by rw[hh,←a2,b2,←e2,hz]) e
   have:=least L h1
   rw[dI,dI] at h2
   omega
 have all:(r.drop i).take (d+1)=(q.drop i).take (d+1):=by rw[a1,a2,same,hh]
 intro m h1 h2
 have:=congrArg (fun x:List Int=>x[m-i]?) all
 simp only[i6,fD] at this
 rw[if_pos (by omega),if_pos (by omega),show i+(m-i)=m by omega] at this
 exact this
theorem Qu(hR:∀u v,v∈nb u↔R u v)(hb:∀u v,R u v→0≤v∧v<n)(hp:0≤p∧p<n)(h:r∈EZ nb c p k):∀z∈r,0≤z∧z<n:=by
 obtain⟨w1,w2,_,w4,_⟩:=(CM hR).mp h
 have key:∀{L:List Int} {x:Int},0≤x∧x<n→Ch R (x::L)→∀z∈x::L,0≤z∧z<n:=by
  intro L
  induction L with
  |nil=>intro x hx _ z hz;rw[cq.mp hz];exact hx
  |cons y L ih=>
   intro x hx hc z hz
   rcases da.mp hz with rfl|hz
   ·exact hx
   ·exact ih (hb _ _ hc.1) hc.2 z hz
 cases r with
 |nil=>intro z hz;cases hz
 |cons x L=>
  have:x=p:=by simpa using w2
  subst this
  exact key hp w4
theorem Qv{a b d a' b' d':Int}(h1:0≤a∧a<20)(h2:0≤b∧b<20)(h3:0≤d∧d<20)(h4:0≤a'∧a'<20)(h5:0≤b'∧b'<20)(h6:0≤d'∧d'<20)(e:a*400+b*20+d=a'*400+b'*20+d'):a=a'∧b=b'∧d=d':=by omega
theorem Tf(sy:∀u v,R u v→R v u)(hR:∀u v,v∈nb u↔R u v)(hs:∀u,(nb u).Pairwise (· < ·))(hb:∀u v,R u v→0≤v∧v<n)(hn:n≤20)(hp:0≤p∧p<n)(least:∀M,Ring R M→s≤M.length)(hk:k<s):(EZ nb c p k).length≤8000:=by
 obtain⟨a,b,h1,h2,h3,h4⟩:∃a b:Nat,2*a<s∧2*b<s∧a+b≤k∧k≤a+b+1:=⟨min k ((s-1)/2),min (k-min k ((s-1)/2)) ((s-1)/2),by omega,by omega,by omega,by omega⟩
 have bd:∀r∈EZ nb c p k,∀i,i≤k→0≤r.getD i 0∧r.getD i 0<20:=fun r hr i hi=>by
  have hl:=((CM hR).mp hr).len
  have:=Qu hR hb hp hr (r.getD i 0) (by rw[dR,cc (show i<r.length by omega)];exact gu _)
  omega
 have inj:∀r∈EZ nb c p k,∀q∈EZ nb c p k,r.getD a 0*400+r.getD (a+b) 0*20+r.getD k 0=q.getD a 0*400+q.getD (a+b) 0*20+q.getD k 0→r=q:=fun r hr q hq e=>by
  obtain⟨r1,r2,r3,r4,_⟩:=(CM hR).mp hr
  obtain⟨q1,q2,q3,q4,_⟩:=(CM hR).mp hq
  obtain⟨e1,e2,e3⟩:=Qv (bd r hr a (by omega)) (bd r hr (a+b) (by omega)) (bd r hr k (by omega)) (bd q hq a (by omega)) (bd q hq (a+b) (by omega)) (bd q hq k (by omega)) e
  have at_:∀i,i≤k→r.getD i 0=q.getD i 0→r[i]?=q[i]?:=fun i hi z=>by
   rw[dR,dR,cc (show i<r.length by omega),cc (show i<q.length by omega)] at z
   rw[cc (show i<r.length by omega),cc (show i<q.length by omega)]
   exact congrArg some z
  have e0:r[0]?=q[0]?:=by rw[←List.head?_eq_getElem?,←List.head?_eq_getElem?,r2,q2]
  have g1:=Qt sy least r4 q4 r3 q3 (i:=0) (d:=a) h1 (by omega) (by omega) e0 (by rw[ip];exact at_ a (by omega) e1)
  have g2:=Qt sy least r4 q4 r3 q3 (i:=a) (d:=b) h2 (by omega) (by omega) (at_ a (by omega) e1) (at_ (a+b) (by omega) e2)
  apply fv
  intro i
  by_cases c1:i≤a
  ·exact g1 i (eS _) (by omega)
  ·by_cases c2:i≤a+b
   ·exact g2 i (by omega) c2
   ·by_cases c3:i≤k
    ·have:i=k:=by omega
     subst this
     exact at_ i (cW _) e3
    ·rw[gi (by omega),gi (by omega)]
 have hb':∀u v,v∈nb u→0≤v∧v<32:=fun u v h=>by have:=hb u v ((hR u v).mp h);omega
 have:=Gr.JO (n:=8000) (L:=(EZ nb c p k).map fun r=>r.getD a 0*400+r.getD (a+b) 0*20+r.getD k 0) ?_ ?_
 ·rw[b8] at this
  exact this
 ·rw[fT,eJ]
  refine dD.imp ?_ (j6.mp (Dy (c:=c) (p:=p) (k:=k) hs hb'))
  rintro x y ⟨hx,hy,h⟩ e
  have:=inj x hx y hy e
  subst this
  omega
 ·intro z hz
  obtain⟨r,hr,rfl⟩:=df.mp hz
  have b1:=bd r hr a (by omega)
  have b2:=bd r hr (a+b) (by omega)
  have b3:=bd r hr k (by omega)
  omega
end GrR
namespace L2.TL
open PySem PySem.Spec PySem.Calls PyProof.Rows PySem.Builtin PySem.Builtin.Str
section
variable{X:Cx}
end
section
variable{Z:Zx}{ρ:List (Option T)}{O:AG}{a b o e:Expr}{t:T}{Φ:BL}{pos p apos cpos:Pos}{i j:Str}{xs:List Str}
end
section
variable{X:Cx}
end
section
variable{Z:Zx}{ρ:List (Option T)}{O:AG}{a b o e:Expr}{t:T}{Φ:BL}{pos p apos cpos:Pos}{i j:Str}{xs:List Str}
end
section
variable{Z:Zx}{ρ:List (Option T)}{O:AG}{e elt tg iter:Expr}{ifs:List Expr}{csc:Scope}{nc:List Str}{cap:List (Str×Nat)}{Φ:BL}{pos:Pos}
end
theorem De{i:Int}:∀{ns:List Int},((dTs (ns.map T.int)).any fun y=>jr y (dT (.int i)))=decide (i∈ns)
 | []=>rfl
 |n::ns=>by
  show((n==i)|| (dTs (ns.map T.int)).any fun y=>jr y (dT (.int i)))=_
  rw[De,i9]
  simp only[Bool.or_eq_true,decide_eq_true_eq,da,beq_iff_eq]
  constructor
  ·rintro(h|h)
   ·exact .inl h.symm
   ·exact .inr h
  ·rintro(h|h)
   ·exact .inl h.symm
   ·exact .inr h
end L2.TL
namespace L2
open PySem PySem.Spec PySem.Calls PyProof.Rows
section
variable{prog:Program}{w:World}{A:de}{R:ni→Shared→Prop}{I:Addr}{fp wr:List Addr}{n:Nat}{P:Nat→Value→Prop}{St:Nat→Heap→Prop}
theorem Eb:(toString "min" ++toString ".loop" :String)= "min.loop":=by decide
theorem OY{kw:List (Str×Value)}(W:Walks prog w A.in1 I fp wr n P St)(bt:Nat→Nat→Bool)(hcmp:CmpOf prog w A.in1 .Lt P bt)(S:Addr)(hSf:S∉fp):
  ∀(k j:Nat) (s:Shared) (vb:Value) (c:Nat),n- (j+1)=k→j+1≤n→St (j+1) s.heap→P (lV bt j) vb→
  s.heap.get? S=some {cls:=.type "list",dict:=none,data:=.seq #[vb,vb] c,slots:=#[]}→
  (∀v h' tk,P (lV bt (n-1)) v→(∀b o,b∉wr→b≠S→s.heap.get? b=some o→h'.get? b=some o)→R (.ok (.ret v)) {s with heap:=h',toks:=tk})→
  iD (model prog w) A (.builtin "min.loop" ⟨[.ref I,.none,.ref S],kw⟩) R s:=by
 have hSw:S∉wr:=fun h=>hSf (W.sub _ h)
 intro k
 induction k with
 |zero=>
  intro j s vb c hk hj hst hPb hS hR
  have hin:j+1=n:=by omega
  refine ic lR ?_
  rw[gX iu _]
  show wpAny _ A.in1 (seqItems? (.ref S)>>=_) _ _ s
  refine a9 (jP hS rfl ?_)
  show wpAny _ A.in1 (tryCatch (kT (.ref I)) _>>=_) _ _ s
  refine a9 (jO (W.done s _ _ (hin▸hst) fun h' tk hk'=>?_))
  have hS':=hk' S _ hSw hS
  show wpAny _ A.in1 (updateSeq S (fun _=> #[])>>=_) _ _ _
  refine a9 (l7 hS' rfl (a9 (ml (b9 ?_))))
  exact hR vb _ tk (by rw[←hin];exact hPb) fun b o hbw hbS e=> (fg _ _ (Ne.symm hbS)).trans (hk' b o hbw e)
 |succ k ih=>
  intro j s vb c hk hj hst hPb hS hR
  have hlt:j+1<n:=by omega
  refine ic lR ?_
  rw[gX iu _]
  show wpAny _ A.in1 (seqItems? (.ref S)>>=_) _ _ s
  refine a9 (jP hS rfl ?_)
  show wpAny _ A.in1 (tryCatch (kT (.ref I)) _>>=_) _ _ s
  refine a9 (jO (W.item (j+1) s _ _ hlt hst fun v h' tk hP hst' hk'=>?_))
  have hS':=hk' S _ hSw hS
  show wpAny _ A.in1 (tryCatch (holding [v,v] (richCompare .Lt v vb>>=_)) _>>=_) _ _ _
  refine a9 (jO (eC (a9 (hcmp (j+1) (lV bt j) v vb _ _ _ hP hPb ?_))))
  refine a9 (eC (ji (a9 (ml (b9 ?_)))))
  cases hb:bt (j+1) (lV bt j) with
  |true=>
   simp only[if_true]
   refine a9 (l7 hS' rfl (a9 (ml ?_)))
   rw[Eb]
   refine b9 ⟨jc iu _,ih (j+1) _ v _ (by omega) hlt (W.frame _ _ _ hst' fun b hbf o e=>?_) (by simp only[lV,hb,if_true];exact hP) (iz _ hS' rfl) fun v' h'' tk'' hP' hk''=>?_⟩
   ·exact(fg _ _ (fun h:S=b=>hSf (by rw[h];exact hbf))).trans e
   ·exact hR v' h'' tk'' hP' fun b o hbw hbS e=>hk'' b o hbw hbS ((fg _ _ (Ne.symm hbS)).trans (hk' b o hbw e))
  |false=>
   simp only[dC,if_false]
   refine a9 (ml ?_)
   rw[Eb]
   refine b9 ⟨jc iu _,ih (j+1) _ vb c (by omega) hlt hst' (by simp only[lV,hb,dC,if_false];exact hPb) hS' fun v' h'' tk'' hP' hk''=>?_⟩
   exact hR v' h'' tk'' hP' fun b o hbw hbS e=>hk'' b o hbw hbS (hk' b o hbw e)
theorem MH{nm:Str}{d:Value}(W:Walks prog w A.in1 I fp wr n P St)(bt:Nat→Nat→Bool)(hcmp:CmpOf prog w A.in1 .Lt P bt)(S:Addr)(hSf:S∉fp){s:Shared}{c:Nat}(hst:St 0 s.heap)
  (hS:s.heap.get? S=some {cls:=.type "list",dict:=none,data:=.seq #[] c,slots:=#[]})
  (h0:n=0→∀h' tk,(∀b o,b∉wr→b≠S→s.heap.get? b=some o→h'.get? b=some o)→R (.ok (.ret d)) {s with heap:=h',toks:=tk})
  (hR:0<n→∀v h' tk,P (lV bt (n-1)) v→(∀b o,b∉wr→b≠S→s.heap.get? b=some o→h'.get? b=some o)→R (.ok (.ret v)) {s with heap:=h',toks:=tk}):
  iD (model prog w) A (.builtin "min.loop" ⟨[.ref I,.none,.ref S],[(nm,d)]⟩) R s:=by
 have hSw:S∉wr:=fun h=>hSf (W.sub _ h)
 refine ic lR ?_
 rw[gX iu _]
 show wpAny _ A.in1 (seqItems? (.ref S)>>=_) _ _ s
 refine a9 (jP hS rfl ?_)
 show wpAny _ A.in1 (tryCatch (kT (.ref I)) _>>=_) _ _ s
 by_cases hn:0<n
 ·refine a9 (jO (W.item 0 s _ _ hn hst fun v h' tk hP hst' hk'=>?_))
  have hS':=hk' S _ hSw hS
  show wpAny _ A.in1 (updateSeq S (fun _=> #[v,v])>>=_) _ _ _
  refine a9 (l7 hS' rfl ?_)
  rw[Eb]
  refine b9 ⟨jc iu _,OY W bt hcmp S hSf _ 0 _ v _ rfl hn (W.frame _ _ _ hst' fun b hbf o e=>?_) hP (iz _ hS' rfl) fun v' h'' tk'' hP' hk''=>?_⟩
  ·exact(fg _ _ (fun h:S=b=>hSf (by rw[h];exact hbf))).trans e
  ·exact hR hn v' h'' tk'' hP' fun b o hbw hbS e=>hk'' b o hbw hbS ((fg _ _ (Ne.symm hbS)).trans (hk' b o hbw e))
 ·have e0:n=0:=by omega
  refine a9 (jO (W.done s _ _ (by rw[e0];exact hst) fun h' tk hk'=>?_))
  show wpAny _ A.in1 (rule _>>=fun _=>ret d) _ _ _
  exact a9 (jG (b9 (h0 e0 h' tk fun b o hbw _ e=>hk' b o hbw e)))
end
section
variable{prog:Program}{w:World}{A:de}{E:Value→Shared→Prop}{s:Shared}
theorem OZ{x d:Value}{Q:Value→Shared→Prop}
  (h:wpAny (model prog w) A.in1 (ng x) (fun it s₂=>∃I fp wr n P St bt,it=.ref I∧Walks prog w A.in1 I fp wr n P St∧St 0 s₂.heap∧(∀b∈fp,b<s₂.heap.objs.size)∧CmpOf prog w A.in1 .Lt P bt∧
   (n=0→∀h' tk,(∀b o,b∉wr→s₂.heap.get? b=some o→h'.get? b=some o)→Q d {s₂ with heap:=h',toks:=tk})∧
   (0<n→∀v h' tk,P (lV bt (n-1)) v→(∀b o,b∉wr→s₂.heap.get? b=some o→h'.get? b=some o)→Q v {s₂ with heap:=h',toks:=tk})) E s):
  wpAny (model prog w) A (call (.builtin "min") [x] [("default",d)]) Q E s:=by
 refine jl (gS F.plain_min F.entry_min ?_)
 refine kj (show jv "min" ⟨[x],[("default",d)]⟩=pure () by kernel_rfl) ?_
 show wpAny _ A.in1 (Builtin.Builtins.bindParams "min" ["key","default"] 0 ⟨[],[("default",d)]⟩>>=_) _ _ s
 refine a9 (kj (show Builtin.Builtins.bindParams "min" ["key","default"] 0 ⟨[],[("default",d)]⟩=pure [none,some d] from rfl) ?_)
 refine a9 (b9 ?_)
 refine a9 (gD h (fun it s₂ h₂=>?_) fun _ _ e=>e)
 obtain⟨I,fp,wr,n,P,St,bt,rfl,W,hst,hfp,hcmp,q0,q1⟩:=h₂
 refine a9 (jj ?_)
 have hSf:s₂.heap.objs.size∉fp:=fun hm=>fb _ (hfp _ hm)
 rw[Eb]
 refine b9 ⟨jc iu _,MH W bt hcmp s₂.heap.objs.size hSf (W.frame _ _ _ hst fun b _ o e=>cj _ e) (dy _ rfl) (fun e0 h' tk hk=>?_) fun hn v h' tk hP hk=>?_⟩
 ·exact q0 e0 h' tk fun b o hbw e=>hk b o hbw (dF (dc e)) (cj _ e)
 ·exact q1 hn v h' tk hP fun b o hbw e=>hk b o hbw (dF (dc e)) (cj _ e)
end
section
variable{M:Model}{A:de}{E:Value→Shared→Prop}{s:Shared}
theorem JR{pos:Pos}{id:String}{k:Str}{x y:Sem Value}{Q:Value→Shared→Prop}
  (h:wpAny M A x (fun v s₁=>wpAny M A y (fun d s₂=>wpAny M A (call (.builtin id) [v] [(k,d)]) Q E s₂) E s₁) E s):
  wpAny M A (callWith pos (.builtin id) [] [(false,x)] [(some k,y)]) Q E s:=by
 unfold callWith
 refine a9 (eC (evalArgs_kw rfl (Calls.spliced_cons (gD h (fun v s₁ h₁=>?_) fun _ _ e=>e))))
 refine Calls.spliced_nil (wpAny_evalAll_cons (gD h₁ (fun d s₂ h₂=>wpAny_evalAll_nil ?_) fun _ _ e=>e))
 refine a9 (ja ?_)
 refine a9 (b9 ?_)
 exact a9 (gD h₂ (fun r s₃ hr=>a9 (eC (wpAny_point (b9 hr)))) fun _ _ e=>e)
end
section
variable{X:Cx}
def FJ(ns:List Int):Option Int→Prop
 |none=>ns=[]
 |some m=>Pw ns m
def ar:Option Int→V
 |none=> .non
 |some m=> .int m
theorem Tg{e:Expr}{te:TE}{p pos kp np:Pos}{j:Nat}(hc:X.calm=true)(hg:Gl X "min")(hm:X.mg "min" =none)(he:PE X e te)(hn:TL.CI e=true):
  PE X (.Call (.Name "min" p) [e] [⟨some "default",.Constant .none j np,kp⟩] pos) (fun σ H Q=>te σ H fun v H1=>∃(a:Addr) (ns:List Int),v=.ref a∧YQ X.K H1 a (ns.map V.int)∧∀m,FJ ns m→Q (ar m) H1):=by
 intro pins s σ H Q I h
 refine iw (Eo I hg hm TL.WY ?_ (by decide) (by decide))
 rw[TL.FG hn]
 refine JR (Aq (he pins s σ H _ I h) fun u s1 ⟨v,H1,I1,r1,q1⟩=>?_)
 obtain⟨a,ns,rfl,hq,q⟩:=q1
 cases r1
 refine a9 ?_
 show wpAny _ _ (eval (.Constant .none j np) X.env) _ _ _
 refine b9 (a9 (ja (b9 ?_)))
 obtain⟨its,rv,lt,wk⟩:=I1.walk hq
 have hl:its.length=ns.length:=by have:=rv.length;rw[b8] at this;exact this.symm
 refine OZ (wk X.A.in1 _ _ (I1.ok.hd hc) fun o St W st=> ⟨_,_,_,_,_,_,_,rfl,W,st,fun b hb=>?_,CmpOf.ints_lt (fun i=>ns.getD i 0) (fun i v hv=>Cg rv i v hv),fun e0 h' tk hk=>?_,fun hn v h' tk hP hk=>?_⟩)
 ·show b< (s1.heap.push o).objs.size
  rw[fH]
  simp only[da,gq,or_false] at hb
  rcases hb with rfl|rfl
  ·exact iU _
  ·exact gY lt
 ·exact⟨.non,H1,I1.kept (t':=tk) (Iy hk),rfl,q none (List.eq_nil_of_length_eq_zero (by omega))⟩
 ·obtain⟨t,rfl⟩:=Cg rv _ v hP
  obtain⟨b1,b2⟩:=argBest_lt (fun i=>ns.getD i 0) (its.length-1)
  exact⟨.int _,H1,I1.kept (t':=tk) (Iy hk),⟨t,rfl⟩,q (some _) ⟨Gj (by omega),fun n hn=>by
   obtain⟨j,hj,rfl⟩:=ie hn
   have:=b2 j (by omega)
   simpa[jx,hj] using this⟩⟩
end
end L2
namespace L2.TL
open PySem PySem.Spec PySem.Calls PyProof.Rows
section
variable{Z:Zx}{ρ:List (Option T)}{O:AG}{e:Expr}{p pos kp np:Pos}{ns:List Int}{j:Nat}
def Oa:Option Int→T
 |none=> .non
 |some m=> .int m
theorem Kq{a b:Option Int}(ha:FJ ns a)(hb:FJ ns b):a=b:=by
 cases a with
 |none=>
  cases b with
  |none=>rfl
  |some m=>rw[show ns=[] from ha] at hb;exact absurd hb.1 (by simp)
 |some m=>
  cases b with
  |none=>rw[show ns=[] from hb] at ha;exact absurd ha.1 (by simp)
  |some k=>rw[Int.le_antisymm (ha.2 k hb.1) (hb.2 m ha.1)]
theorem Th{m:Option Int}(hm:FJ ns m)(mm:Z.X.mg "min" =none)(hc:Z.X.calm=true)(h:ET Z ρ O e (.lst (ns.map T.int)))(hg:Gl Z.X "min":=by rfl)(hn:CI e=true:=by rfl):
  ET Z ρ O (.Call (.Name "min" p) [e] [⟨some "default",.Constant .none j np,kp⟩] pos) (Oa m):=fun Φ q=>
 PE.weak (Tg hc hg mm (h (fun t O'=>t=.lst (ns.map T.int)∧O'=O) ⟨rfl,rfl⟩) hn) fun σ H Q k=> ⟨k.1,by
  rintro v H' _ _ ⟨rfl,rfl⟩ f r
  obtain⟨a,xs,rfl,h1,o1,r1⟩:=r.lst_inv
  cases Reps.ints r1
  refine⟨a,ns,rfl,.inl (.inl (.inl h1)),fun m' hm'=>?_⟩
  cases Kq hm' hm
  refine k.2 _ H' _ _ q f ?_
  cases m with
  |none=>exact .non
  |some m=>exact .int m⟩
end
end L2.TL
namespace L2
open PySem PySem.Spec PySem.Calls PyProof.Rows
section
variable{prog:Program}{w:World}{A:de}{R:ni→Shared→Prop}{I:Addr}{fp wr:List Addr}{n:Nat}{P:Nat→Value→Prop}{St:Nat→Heap→Prop}
end
section
variable{prog:Program}{w:World}{A:de}{E:Value→Shared→Prop}{s:Shared}
end
section
variable{X:Cx}
end
end L2
namespace L2.TL
open PySem PySem.Spec PySem.Calls PyProof.Rows
section
variable{Z:Zx}{ρ:List (Option T)}{O:AG}{e:Expr}{p pos kp np:Pos}{ns:List Int}{j:Nat}
end
end L2.TL
namespace L2
open PySem PySem.Spec PyProof.Rows
open Sem (wp)
section
variable{prog:Program}{w:World}{A:de}{E:Value→Shared→Prop}{s:Shared}
end
section
variable{prog:Program}{w:World}{A:de}{E:Value→Shared→Prop}{s:Shared}
end
section
variable{prog:Program}{w:World}{A:de}{E:Value→Shared→Prop}{s:Shared}
end
section
variable{M:Model}{A:de}{E:Value→Shared→Prop}{s:Shared}
end
section
variable{X:Cx}
end
section
variable{X:Cx}{tg:Expr}
end
end L2
namespace L2.TL
open PySem PySem.Spec PyProof.Rows
section
variable{Z:Zx}{ρ:List (Option T)}{O:AG}{a tg:Expr}{ts:List T}{p pos:Pos}
end
open PySem.Builtin PySem.Builtin.Str
section
variable{Z:Zx}{ρ:List (Option T)}{O:AG}{a b e:Expr}{p pos:Pos}{x y:Str}{i:Int}{K:a8}
theorem Wn:RP K aQ (.str x) (.str y) O (.bl (x==y)):=fun Φ p H v w Q ok r1 r2 q=>by
 cases r1.str_inv;cases r2.str_inv
 refine⟨rfl,?_⟩
 rw[Ic]
 exact q _ H _ O p (.refl ok) (.bl _)
theorem Wo(ha:ET Z ρ O a (.str x))(hb:ET Z ρ O b (.str y)):ET Z ρ O (.Compare a [.Eq] [b] pos) (.bl (x==y)):=Lx Md (Au _) Wn ha hb
theorem MI(ha:ET Z ρ O a (.str x))(hb:ET Z ρ O b (.str y)):EB Z ρ O (.Compare a [.NotEq] [b] pos) (!(x==y)):=BN Me (Au _) Wb ha hb
end
open PySem.Calls
section
variable{K:a8}{O O':AG}{H:Hp}
end
section
variable{Z:Zx}{ρ:List (Option T)}{O:AG}{e a b:Expr}{es:List Expr}{Ψ:Es}{Φ:BL}{pos p:Pos}{t:T}{ts ts' us:List T}{x:Str}{l:Addr}
end
end L2.TL
namespace K63
open PySem L2 L2.TL PySem.Spec PyProof.Rows
def top(i:Nat):Stmt:=dP.main.body.getD i (.Pass ⟨0,0,0,0⟩)
abbrev JS:Stmt:=top 15
abbrev IQ:Stmt:=top 16
abbrev NO:Stmt:=top 29
abbrev MJ:Stmt:=top 35
abbrev JT:Stmt:=top 11
abbrev Ec:Stmt:=top 14
abbrev Ti:Stmt:=top 17
abbrev JU:Stmt:=top 18
abbrev Qw:Stmt:=top 20
abbrev Wp:Stmt:=top 21
abbrev Qx:Stmt:=top 22
abbrev BV:Stmt:=top 36
abbrev GB:Stmt:=top 37
abbrev Kr:Stmt:=top 38
abbrev Ks:Stmt:=top 39
abbrev Dz:Stmt:=top 40
abbrev Ob:Stmt:=top 41
structure Txt(mg:Str→Option Value):Prop where
 nInt:mg "int" =none
 nBool:mg "bool" =none
 nTuple:mg "tuple" =none
 nList:mg "list" =none
 nSet:mg "set" =none
 nRange:mg "range" =none
 nIsi:mg "isinstance" =none
 nMax:mg "max" =none
 nMin:mg "min" =none
 nLen:mg "len" =none
 nAll:mg "all" =none
 nSorted:mg "sorted" =none
 nRepr:mg "repr" =none
 nVE:mg "ValueError" =none
 nAny:mg "any" =none
 nEnum:mg "enumerate" =none
 iMost:∃t,mg "MOST_PLACES" =some (.int 16 t)
def AQ(n:Int)(p:Int×Int):Prop:=0≤p.1∧p.1<p.2∧p.2<n
theorem EW.cast{Z:Zx}{ρ:List (Option T)}{O:AG}{e:Expr}{k l:Bool}(h:EW Z ρ O e k)(z:k=l):EW Z ρ O e l:=z▸h
theorem EB.cast{Z:Zx}{ρ:List (Option T)}{O:AG}{e:Expr}{k l:Bool}(h:EB Z ρ O e k)(z:k=l):EB Z ρ O e l:=z▸h
theorem ET.cast{Z:Zx}{ρ:List (Option T)}{O:AG}{e:Expr}{k l:T}(h:ET Z ρ O e k)(z:k=l):ET Z ρ O e l:=z▸h
section
variable{P:Program}{w:World}{K:a8}{mg:Str→Option Value}{base:Heap}
end
abbrev Qy:Stmt:=top 24
abbrev Qz:Stmt:=top 25
abbrev Wq:Stmt:=top 26
abbrev RA:Stmt:=top 27
abbrev GC:Stmt:=top 28
def FK(xs:List T):Prop:=∃a b c:Int,xs=[.int a,.int b,.int c]∧0≤a∧0≤c∧c<2147483648
section
variable{P:Program}{w:World}{K:a8}{mg:Str→Option Value}{base:Heap}
def HD(K:a8):Sp:=fun vs H Q _=>∃(a:Addr) (ns:List Int),vs=[.ref a,.int 0]∧SqL K H a (ns.map V.int)∧∀i,Q (.int i) H
theorem Ws:FnScope ["_law_script","_law_k"] ["_law_script","_law_k"] (AA Qy):=⟨rfl,rfl,rfl,by decide+kernel,rfl,by decide+kernel,by decide+kernel⟩
theorem Tj{f:Addr}{fd:dA}(F:Fun K "_law_cell_at" "_law_cell_at" Qy f fd)(T:Txt mg):FnOk P w K mg base (CXe P w) 1 f fd ["_law_script","_law_k"] (HD K):=by
 refine F.okX Ws (fun vs H Q E h=>?_) (fun cdv A outer s H vs Q E hr h=>?_)
 ·obtain⟨a,ns,rfl,_⟩:=h
  rfl
 ·obtain⟨a,ns,rfl,hS,k⟩:=h
  refine⟨_,Cd (Ow (Ie PC (pv 1) (Aw EK (by rfl) T.nLen Ye (AM (pv 0) Ay)) (Au _)) (DW (Ep (PK EJ (pv 0) (pv 1) (fun _ _=>rfl)))) Ia) (DW (Ep LN)),?_⟩
  refine⟨_,rfl,_,rfl,a,_,rfl,.inl hS,_,_,rfl,rfl,_,rfl,?_⟩
  refine Vk (fun h1=>?_) (fun h1=>?_)
  ·have h1:(0:Int)< ((ns.map V.int).length:Int):=by simpa using h1
   cases ns with
   |nil=>simp at h1
   |cons n ns=>exact⟨_,rfl,_,rfl,a,_,0,.int n,rfl,rfl,hS,BB (j:=0) rfl,k n⟩
  ·exact k 0
def RB:DR:=fun ts O Φ _=>∃n:Int,ts=[.int n]∧∀m:Int,0≤m→m<2147483629→Φ (.int m) O
theorem RC:FnScope ["_law_seed"] ["_law_seed"] (AA Qz):=⟨rfl,rfl,rfl,by decide+kernel,rfl,by decide+kernel,by decide+kernel⟩
theorem Tn{f:Addr}{fd:dA}(F:Fun K "_law_next" "_law_next" Qz f fd):FnOk P w K mg base (CXe P w) 1 f fd ["_law_seed"] (Dl K RB):=by
 refine Aj F RC ?_ ?_
 ·rintro ts O Φ Ξ ⟨n,rfl,_⟩
  rfl
 ·rintro cdv A outer s H E O Ξ hr xf _ Φ ⟨n,rfl,q⟩
  have b1:=iC (n+7919) (show(2147483647:Int)≠0 by decide)
  have b2:=gQ (n+7919) (show(0:Int)<2147483647 by decide)
  refine AF (AV 0 (ET.we (FE (BM (ev 0) AB) AB (by decide)) ?_) RC.nd)
  exact AJ (AW (ET.we (FE (BM (BM (FD (ev 0) (ev 0) (.inl ⟨by omega,by omega⟩)) (FD AB (ev 0) (.inl ⟨by decide,by decide⟩))) AB) AB (by decide)) (q _ (iC _ (by decide)) (gQ _ (by decide)))))
def Ul:DR:=fun ts O Φ _=>∃c:Int,ts=[.int c]∧∀(p:Addr) (xs:List T),O p=none→FK xs→Φ (.raw (.ref p)) (Aa O p xs)
theorem Um:FnScope ["_law_cell","_law_left"] ["_law_cell"] (AA Wq):=⟨rfl,rfl,rfl,by decide+kernel,rfl,by decide+kernel,by decide+kernel⟩
theorem Wt{f:Addr}{fd:dA}(F:Fun K "_law_pen_of" "_law_pen_of" Wq f fd)(T:Txt mg):FnOk P w K mg base (CXe P w) 1 f fd ["_law_cell"] (Dl K Ul):=by
 refine Aj F Um ?_ ?_
 ·rintro ts O Φ Ξ ⟨n,rfl,_⟩
  rfl
 ·rintro cdv A outer s H E O Ξ hr xf _ Φ ⟨n,rfl,q⟩
  refine AF (AV 1 (ET.we (JJ T.nMax rfl (ev 0) (Dt AB (ev 0))) ?_) Um.nd)
  refine AJ (AW (ER (EA.wa (AL (ev 1) (AL (Ss T.nInt (YW (ev 1) (Vy AB AB ⟨by decide,by decide,by decide⟩))) (AL (FE (ev 1) AB (by decide)) AE))) ⟨by show 3≤sizeLine;decide,fun a ha=>q a _ ha ?_⟩)))
  have b1:=iC (max n (0-n)) (show(1000003:Int)≠0 by decide)
  have b2:=gQ (max n (0-n)) (show(0:Int)<1000003 by decide)
  exact⟨_,_,_,rfl,by omega,b1,by omega⟩
def Az:DR:=fun ts O Φ _=>∃(p:Addr) (xs:List T) (m:Int),ts=[.raw (.ref p),.int m]∧O p=some xs∧FK xs∧0<m∧m<1000∧∀(r:Int) (xs':List T),0≤r→r<m→FK xs'→Φ (.int r) (Aa O p xs')
theorem RD:FnScope ["_law_pen","_law_many","_law_found"] ["_law_pen","_law_many"] (AA RA):=⟨rfl,rfl,rfl,by decide+kernel,rfl,by decide+kernel,by decide+kernel⟩
theorem To{f:Addr}{fd:dA}(F:Fun K "_law_draw" "_law_draw" RA f fd)(G:FnT P w K mg base "_law_next" 1 ["_law_seed"] RB):FnOk P w K mg base (CXe P w) 2 f fd ["_law_pen","_law_many"] (Dl K Az):=by
 refine Aj F RD ?_ ?_
 ·rintro ts O Φ Ξ ⟨p,xs,m,rfl,_⟩
  rfl
 ·rintro cdv A outer s H E O Ξ hr xf _ Φ ⟨p,_,m,rfl,hp,⟨a,b,c,rfl,a0,c0,c1⟩,m0,m1,q⟩
  refine AF (BY (Du (BR hp (ev 0) AB) AB) (fun h=>?_) (fun h=>BS ?_))
  ·refine AF (AV 2 (ET.we (FE (BR hp (ev 0) AB) (ev 1) m0) ?_) RD.nd)
   refine AF (Dx (ET.we (JD (BR hp (ev 0) AB) (ev 1) ⟨m0,by omega⟩) (ET.we (ev 0) ⟨p,rfl,ET.we AB ⟨_,0,0,rfl,hp,rfl,?_⟩⟩)))
   exact AJ (AW (ET.we (ev 2) (q _ _ (iC _ (by omega)) (gQ _ m0) ⟨a/m,b,c,rfl,Int.ediv_nonneg a0 (by omega),c0,c1⟩)))
  ·refine AF (Dx (Ac G hr xf (BZ (FZ GM (Ac G hr xf (EA.wa (AL (BR hp (ev 0) AB) AE) ⟨c,rfl,fun u u0 u1=>?_⟩))))))
   refine ET.we AB (IG _ (Ai ⟨u+7,rfl,fun r r0 r1=>ET.we (ev 0) ⟨p,rfl,ET.we AB ⟨_,2,2,rfl,hp,rfl,?_⟩⟩⟩))
   exact AJ (AW (ET.we (FE (JD (BR AD (ev 0) AB) AB ⟨by decide,by decide⟩) (ev 1) m0) (q _ _ (iC _ (by omega)) (gQ _ m0) ⟨a,b,r,rfl,a0,r0,by omega⟩)))
def HE:DR:=Ry fun ts r=>∃t,ts=[t]∧Fd t=false∧r=.bl (Uc t&&!QP t)
theorem Kt:FnScope ["_law_found"] ["_law_found"] (AA GC):=⟨rfl,rfl,rfl,by decide+kernel,rfl,by decide+kernel,by decide+kernel⟩
theorem Oc{f:Addr}{fd:dA}(F:Fun K "_law_whole" "_law_whole" GC f fd)(T:Txt mg):FnOk P w K mg base (CXe P w) 1 f fd ["_law_found"] (Dl K HE):=by
 refine Aj F Kt ?_ ?_
 ·rintro ts O Φ Ξ ⟨r,⟨t,rfl,_⟩,_⟩
  rfl
 ·rintro cdv A outer s H E O Ξ hr xf _ Φ ⟨_,⟨t,rfl,ht,rfl⟩,q⟩
  exact AJ (AW (ET.we (QI (JI T.nIsi T.nInt WV ND (ev 0) ht) fun _=>QH (QJ (JI T.nIsi T.nBool Ud KS (ev 0) ht))) q))
end
abbrev FM:Stmt:=top 30
abbrev Ed:Stmt:=top 31
abbrev GD:Stmt:=top 32
def LM(ns:List Int)(i:Int):Int:=ns.getD i.toNat 0
def nm(ns:List Int)(p:Int×Int):Int×Int:=(min (LM ns p.1) (LM ns p.2),max (LM ns p.1) (LM ns p.2))
theorem Ku{ns:List Int}{i:Int}(h0:0≤i)(h1:i<ns.length):atI (ns.map T.int) i=some (.int (LM ns i)):=by
 obtain⟨j,rfl⟩:=dE h0
 have hj:j<ns.length:=by omega
 have:=BB (xs:=ns.map T.int) (j:=j) (v:=.int (ns.getD j 0)) (by
  rw[cg,cc hj]
  simp[jx,hj])
 exact this
theorem FN{α β:Type}(f:α→β):∀(l:List α) (i:Nat),(l.eraseIdx i).map f=(l.map f).eraseIdx i
 | [],_=>rfl
 |_::_,0=>rfl
 |a::l,i+1=>by
  show f a::(l.eraseIdx i).map f=f a::(l.map f).eraseIdx i
  rw[FN f l i]
theorem HF{α:Type}:∀(l:List α) (i:Nat) (h:i<l.length),(l[i]::l.eraseIdx i).Perm l
 |_::_,0,_=> .refl _
 |a::l,i+1,h=> (gZ.swap a (l[i]'(by simpa using h)) (l.eraseIdx i)).trans ((HF l i (by simpa using h)).cons a)
section
variable{P:Program}{w:World}{K:a8}{mg:Str→Option Value}{base:Heap}
def JV:DR:=fun ts O Φ _=>∃(n:Int) (ps:List (Int×Int)) (ns:List Int),ts=[.tup [.int n,.tup (ps.map AC)],.tup (ns.map T.int)]∧ps.length≤300∧(∀p∈ps,0≤p.1∧p.1<ns.length∧0≤p.2∧p.2<ns.length)∧(∀z∈ns,0≤z∧z<65536)∧
 ∀qs:List (Int×Int),qs.Pairwise FF→(∀q,q∈qs↔q∈ps.map (nm ns))→qs.length≤ps.length→Φ (.tup [.int n,.tup (qs.map AC)]) O
theorem NP:FnScope ["_law_web","_law_names","_law_ties"] ["_law_web","_law_names"] (AA FM):=⟨rfl,rfl,rfl,by decide+kernel,rfl,by decide+kernel,by decide+kernel⟩
theorem Yx:(Ak ["_law_one","_law_other"] [(("_law_names" :Str),1)]).Nodup:=by decide+kernel
theorem Yy:(Ak ["_law_tie"] []).Nodup:=by decide+kernel
theorem GE{ns:List Int}{i:Int}(h0:0≤i)(h1:i<ns.length):LM ns i∈ns:=by
 unfold LM
 have:i.toNat<ns.length:=by omega
 simp[jx,this]
theorem RE{f:Addr}{fd:dA}(F:Fun K "_law_named" "_law_named" FM f fd)(Tx:Txt mg):FnOk P w K mg base (CXe P w) 2 f fd ["_law_web","_law_names"] (Dl K JV):=by
 refine Aj F NP ?_ ?_
 ·rintro ts O Φ Ξ ⟨n,ps,ns,rfl,_⟩
  rfl
 ·rintro cdv A outer s H E O Ξ hr xf _ Φ ⟨n,ps,ns,rfl,hl,hp,hn,q⟩
  have hu:(A.deeper (hZ "_law_named" (AA FM) s.heap.objs.size f cdv)).units+8<cLine:=by have:=hr.un;omega
  have hz:ps.length≤sizeLine:=dZ hl (by decide)
  refine AF (QO (i:=2) (nc:=["_law_one","_law_other"]) (cap:=[("_law_names",1)]) (by rfl) NP.nd rfl (Bl (AA FM) ["_law_web","_law_names","_law_ties"] (by decide+kernel)) (Cz (Af (ev 0) AB) _ (KW ps AC (fun p=>AC (LM ns p.1,LM ns p.2)) hz (fun x hx=> ⟨[some (.int x.1),some (.int x.2),some (.tup (ns.map T.int))],fun X' Oe He is O'=>?_⟩) ?_)))
  ·obtain⟨cl,s',H',fp,rfl⟩:=is
   have:=hp x hx
   exact⟨BD 0 1 rfl Yx (by decide) (by decide),BX (AL (Af (ev 2) (ev 0) (Ku this.1 this.2.1)) (AL (Af (ev 2) (ev 1) (Ku this.2.2.1 this.2.2.2)) AE))⟩
  ·refine AJ (AW (Be (BZ (ET.we (Af (ev 0) AB) (BZ (Ba Tx.nTuple (DA (ps:=ps.map (nm ns)) Tx.nSorted Tx.nSet rfl hu ?_ (by simpa using hl) ?_ fun qs h1 h2 h3=> ⟨_,rfl,Ai ⟨by show 2≤sizeLine;decide,q qs h1 h2 (by simpa using h3)⟩⟩)))))))
   ·rw[eu]
    refine By ["_law_tie"] [] ps (fun p=>AC (LM ns p.1,LM ns p.2)) _ rfl (Bl (AA FM) ["_law_web","_law_names","_law_ties"] (by decide+kernel)) (Av (ev 2)) hz fun x hx=> ⟨[some (AC (LM ns x.1,LM ns x.2))],fun X' Oe He is O'=>?_⟩
    obtain⟨cl,s',H',fp,rfl⟩:=is
    exact⟨AU 0 Yy (by decide),BX (AL (Sq Tx.nMin rfl (ev 0)) (AL (Sr Tx.nMax rfl (ev 0)) AE))⟩
   ·intro z hz
    obtain⟨p,h1,rfl⟩:=df.mp hz
    have:=hp p h1
    have e1:=hn _ (GE this.1 this.2.1)
    have e2:=hn _ (GE this.2.2.1 this.2.2.2)
    show 0≤max _ _∧max _ _<65536
    omega
def FO:DR:=fun ts O Φ _=>∃(p:Addr) (xs:List T) (m:Int),ts=[.raw (.ref p),.int m]∧O p=some xs∧FK xs∧0≤m∧m<100∧∀(ns:List Int) (xs':List T),ns.Perm ((dN m.toNat).map fun(i:Nat)=> (i:Int))→FK xs'→Φ (.tup (ns.map T.int)) (Aa O p xs')
theorem IR:FnScope ["_law_pen","_law_many","_law_left"] ["_law_pen","_law_many"] (AA Ed):=⟨rfl,rfl,rfl,by decide+kernel,rfl,by decide+kernel,by decide+kernel⟩
theorem Yz:(Ak ["_law_place"] [(("_law_left" :Str),2),(("_law_pen" :Str),0)]).Nodup:=by decide+kernel
theorem Kv{f:Addr}{fd:dA}(F:Fun K "_law_names_by" "_law_names_by" Ed f fd)(Tx:Txt mg)(G:FnT P w K mg base "_law_draw" 2 ["_law_pen","_law_many"] Az):FnOk P w K mg base (CXe P w) 3 f fd ["_law_pen","_law_many"] (Dl K FO):=by
 refine Aj F IR ?_ ?_
 ·rintro ts O Φ Ξ ⟨p,xs,m,rfl,_⟩
  rfl
 ·rintro cdv A outer s H E O Ξ hr xf _ Φ ⟨p,xs,m,rfl,hp,px,m0,m1,q⟩
  refine AF (AV 2 (QS (p1:=⟨0,0,0,0⟩) Tx.nList Tx.nRange rfl (ev 1) m0 (by omega) fun l hl=>?_) IR.nd)
  have pl:p≠l:=MB hp hl
  refine AJ (NJ (l:=l) hl (Ba Tx.nTuple (II (nc:=["_law_place"]) (cap:=[("_law_left",2),("_law_pen",0)]) rfl (Bl (AA Ed) ["_law_pen","_law_many","_law_left"] (by decide+kernel)) (EI.wi (Ap Tx.nRange (ev 1) ⟨by omega,by omega⟩) ?_))))
  refine⟨fun i acc O'=>i≤m.toNat∧∃(as rs:List Int) (xs':List T),acc=as.map T.int∧as.length=i∧(as++rs).Perm ((dN m.toNat).map fun(i:Nat)=> (i:Int))∧FK xs'∧O'=Aa (Aa O p xs') l (rs.map T.int),⟨eS _,[],(dN m.toNat).map fun(i:Nat)=> (i:Int),xs,rfl,rfl,.refl _,px,?_⟩,?_,?_⟩
  ·rw[KZ hp,eu]
   rfl
  ·rintro i t acc O' c e ⟨_,as,rs,xs',rfl,hi,pm,px',rfl⟩ hc
   obtain⟨hi2,rfl⟩:=Ao e
   have hcl:c≠l:=fun z=>by rw[z,AD] at hc;cases hc
   have hcp:c≠p:=fun z=>by rw[z,AO pl,AD] at hc;cases hc
   refine⟨[some (.int (0+i)),some (.raw (.ref l)),some (.raw (.ref p))],fun X' Oe He is=>?_⟩
   have hlen:as.length+rs.length=m.toNat:=by
    have:=pm.length_eq
    simpa using this
   refine⟨?_,Dc (Ih fun X' Oe He is=>?_)⟩
   ·obtain⟨cl,s',H',fp,rfl⟩:=is
    exact AU 0 Yz (by decide)
   ·obtain⟨cl,s',H',fp,rfl⟩:=is
    have ol:(Aa (Aa (Aa O p xs') l (rs.map T.int)) c (as.map T.int)) l=some (rs.map T.int):=by rw[AO (Ne.symm hcl),AD]
    have op:(Aa (Aa (Aa O p xs') l (rs.map T.int)) c (as.map T.int)) p=some xs':=by rw[AO (Ne.symm hcp),AO pl,AD]
    refine KU (ET.we (ev 1) ⟨l,rfl,⟨_,ol⟩,Ac G hr ES (EA.wa (AL (ev 2) (AL (NF Tx.nLen (ev 1) ol) AE)) ⟨p,xs',_,rfl,op,px',by simp;omega,by simp;omega,fun r xs2 r0 r1 px2=>?_⟩)⟩)
    have r1:r<rs.length:=by simpa using r1
    have hr':r.toNat<rs.length:=by omega
    refine⟨rs.map T.int,r,.int rs[r.toNat],rfl,?_,r0,by omega,by simpa using r1,by rw[cg,cc hr'];rfl,?_⟩
    ·rw[AO (Ne.symm pl),ol]
    ·refine⟨Aa (Aa O p xs2) l ((rs.eraseIdx r.toNat).map T.int),?_,?_,?_,?_⟩
     ·have e1:(rs.map T.int).eraseIdx r.toNat=(rs.eraseIdx r.toNat).map T.int:=(FN _ _ _).symm
      rw[e1]
      rw[BJ (p:=c) (a:=p) (Ne.symm hcp),BJ (p:=c) (a:=l) (Ne.symm hcl),BJ (p:=l) (a:=p) pl,BC,BC]
     ·rw[AO hcl,AO hcp]
      rw[AO hcl,AO hcp] at hc
      exact hc
     ·rw[b8]
      have:(1000:Nat)<sizeLine:=by decide
      omega
     ·refine⟨hi2,as++[rs[r.toNat]],rs.eraseIdx r.toNat,xs2,by simp,by simp[hi],?_,px2,rfl⟩
      refine gZ.trans ?_ pm
      rw[fe]
      exact(HF rs _ hr').append_left as
  ·rintro acc O' ⟨_,as,rs,xs',rfl,hi,pm,px',rfl⟩
   rw[Ad] at hi
   have hlen:as.length+rs.length=m.toNat:=by
    have:=pm.length_eq
    simpa using this
   have:rs=[]:=iV.mp (by omega)
   subst this
   rw[eZ] at pm
   refine⟨_,rfl,?_⟩
   rw[IJ hl pl]
   exact q as xs' pm px'
end
section
variable{P:Program}{w:World}{K:a8}{mg:Str→Option Value}{base:Heap}
def DT:DR:=fun ts O Φ _=>∃(m:Int) (ss:List Int),ts=[.int m,.lst (ss.map T.int)]∧0<m∧m≤16∧ss.length≤16∧(∀s∈ss,1≤s∧s<m)∧
 ∀qs:List (Int×Int),qs.Pairwise FF→(∀q∈qs,AQ m q)→qs.length≤256→Φ (.tup [.int m,.tup (qs.map AC)]) O
theorem DU:FnScope ["_law_many","_law_steps","_law_ties","_law_step","_law_place","_law_other"] ["_law_many","_law_steps"] (AA GD):=⟨rfl,rfl,rfl,by decide+kernel,rfl,by decide+kernel,by decide+kernel⟩
theorem IS{m s j:Int}(hs:1≤s∧s<m)(hj:0≤j∧j<m):AQ m (min j ((j+s)%m),max j ((j+s)%m)):=by
 unfold AQ
 by_cases h:j+s<m
 ·rw[Int.emod_eq_of_lt (by omega) h]
  show 0≤min _ _∧min _ _<max _ _∧max _ _<_
  omega
 ·have e:j+s=(j+s-m)+m*1:=by omega
  rw[e,Int.add_mul_emod_self_left,Int.emod_eq_of_lt (by omega) (by omega)]
  show 0≤min _ _∧min _ _<max _ _∧max _ _<_
  omega
theorem Ab:(1000:Nat)<sizeLine:=by decide
theorem Od{f:Addr}{fd:dA}(F:Fun K "_law_turned" "_law_turned" GD f fd)(Tx:Txt mg):FnOk P w K mg base (CXe P w) 2 f fd ["_law_many","_law_steps"] (Dl K DT):=by
 refine Aj F DU ?_ ?_
 ·rintro ts O Φ Ξ ⟨m,ss,rfl,_⟩
  rfl
 ·rintro cdv A outer s H E O Ξ hr xf _ Φ ⟨m,ss,rfl,m0,m1,hn,hs,q⟩
  have hu:(A.deeper (hZ "_law_turned" (AA GD) s.heap.objs.size f cdv)).units+8<cLine:=by have:=hr.un;omega
  have sb:=Ab
  refine AF (AV 2 (ER (Ai ⟨eS _,fun l hl=>?_⟩)) DU.nd)
  refine AF (BF Ae.own rfl (Av (ev 1) _ ⟨fun i ρ' O'=>∃(qs:List (Int×Int)) (v3 v4 v5:Option T),ρ'=[some (.int m),some (.lst (ss.map T.int)),some (.raw (.ref l)),v3,v4,v5]∧O'=Aa O l (qs.map AC)∧(∀q∈qs,AQ m q)∧qs.length≤16*i,⟨[],none,none,none,rfl,rfl,by simp,by simp⟩,?_,?_⟩))
  ·rintro i t _ _ e ⟨qs,v3,v4,v5,rfl,rfl,hq,hz⟩
   rw[cg] at e
   cases es:ss[i]? with
   |none=>rw[es] at e;cases e
   |some st=>
    rw[es] at e
    cases e
    have hst:=hs st (cU es)
    have hi:=(cw.mp es).1
    refine⟨[some (.int m),some (.lst (ss.map T.int)),some (.raw (.ref l)),some (.int st),v4,v5],AU 3 DU.nd (by show 3<6;decide),AJ (BF Ae.own rfl (EI.wi (Ap Tx.nRange (ev 0) ⟨by omega,by omega⟩) ⟨fun j ρ' O'=>∃(qs:List (Int×Int)) (v4 v5:Option T),ρ'=[some (.int m),some (.lst (ss.map T.int)),some (.raw (.ref l)),some (.int st),v4,v5]∧O'=Aa O l (qs.map AC)∧(∀q∈qs,AQ m q)∧qs.length≤16*i+j,⟨qs,v4,v5,rfl,rfl,hq,by omega⟩,?_,?_⟩))⟩
    ·rintro j t _ _ e ⟨qs,v4,v5,rfl,rfl,hq,hz⟩
     obtain⟨hj,rfl⟩:=Ao e
     refine⟨[some (.int m),some (.lst (ss.map T.int)),some (.raw (.ref l)),some (.int st),some (.int (0+j)),v5],AU 4 DU.nd (by show 4<6;decide),?_⟩
     refine AF (AV 5 (ET.we (FE (BM (ev 4) (ev 3)) (ev 0) m0) ?_) DU.nd)
     refine AJ (Cy (Bo (ET.we (ev 2) ⟨l,rfl,⟨_,AD⟩,ET.we (BX (AL (NG Tx.nMin rfl (ev 4) (ev 5)) (AL (JJ Tx.nMax rfl (ev 4) (ev 5)) AE))) ⟨_,AD,?_,?_⟩⟩)))
     ·rw[b8];omega
     ·refine⟨qs++[(min (0+(j:Int)) ((0+(j:Int)+st)%m),max (0+(j:Int)) ((0+(j:Int)+st)%m))],_,_,rfl,?_,fun z hz=>?_,by simp;omega⟩
      ·rw[BC,dH];rfl
      ·rcases dt.mp hz with hz|hz
       ·exact hq z hz
       ·rw[cq.mp hz]
        exact IS hst ⟨by omega,by omega⟩
    ·rintro _ _ ⟨qs,v4,v5,rfl,rfl,hq,hz⟩
     rw[Ad] at hz
     exact⟨qs,_,_,_,rfl,rfl,hq,by omega⟩
  ·rintro _ _ ⟨qs,v3,v4,v5,rfl,rfl,hq,hz⟩
   rw[b8] at hz
   refine Bx (p:=l) (n:=2) (ts:=qs.map AC) AD hl rfl ?_
   rw[Ax hl]
   refine AJ (AW (Be (BZ (ET.we (ev 0) (BZ (Ba Tx.nTuple (DA (ps:=qs) Tx.nSorted Tx.nSet rfl hu (ev 2) (by omega) (fun z hz=>?_) fun rs h1 h2 h3=> ⟨_,rfl,Ai ⟨by show 2≤sizeLine;decide,q rs h1 (fun z hz=>hq z ((h2 z).mp hz)) (by omega)⟩⟩)))))))
   have:=hq z hz
   unfold AQ at this
   omega
end
abbrev Bg:Stmt:=top 33
def PO(O0:AG)(p:Addr)(O:AG):Prop:=∃xs,O=Aa O0 p xs∧FK xs
theorem PO.at{O0 O:AG}{p:Addr}(h:PO O0 p O):∃xs,O p=some xs∧FK xs:=by
 obtain⟨xs,rfl,px⟩:=h
 exact⟨xs,AD,px⟩
theorem PO.step{O0 O:AG}{p:Addr}{xs:List T}(h:PO O0 p O)(px:FK xs):PO O0 p (Aa O p xs):=by
 obtain⟨ys,rfl,_⟩:=h
 exact⟨xs,BC,px⟩
theorem PO.start{O:AG}{p:Addr}{xs:List T}(h:O p=some xs)(px:FK xs):PO O p O:=⟨xs,(KZ h).symm,px⟩
section
variable{P:Program}{w:World}{K:a8}{mg:Str→Option Value}{base:Heap}
section
variable{Z:Zx}{ρ:List (Option T)}{O O0 O1:AG}{a b:Expr}{Φ:BL}{pos q:Pos}{p c:Addr}{m:Int}{acc:List T}
theorem JW(G:FnT Z.X.prog Z.X.w Z.X.K Z.X.mg Z.X.base "_law_draw" 2 ["_law_pen","_law_many"] Az)(hr:Room 2 Z.X.A)(xf:XFly Z.X Z.W)(po:PO O0 p O)(ha:ET Z ρ O a (.raw (.ref p)))(hb:ET Z ρ O b (.int m))(m0:0<m)(m1:m<1000)(k:∀r O',0≤r→r<m→PO O0 p O'→Φ (.int r) O')(hg:Gl Z.X "_law_draw":=by rfl)
  (he:cb [a,b] Z.X.env=(false,eval a Z.X.env)::cb [b] Z.X.env:=by rfl) (he2:cb [b] Z.X.env=(false,eval b Z.X.env)::cb [] Z.X.env:=by rfl) (hpl:(fY pos (cb [b] Z.X.env)).any (·.1)=false:=by rfl):WE Z ρ O (.Call (.Name "_law_draw" q) [a,b] [] pos) Φ:=by
 obtain⟨xs,hp,px⟩:=po.at
 exact Ac G hr xf (EA.wa (AL ha (AL hb AE he2) he) ⟨p,xs,m,rfl,hp,px,m0,m1,fun r xs' r0 r1 px'=>k r _ r0 r1 (po.step px')⟩) hg (by decide) he hpl
theorem Bz(G:FnT Z.X.prog Z.X.w Z.X.K Z.X.mg Z.X.base "_law_draw" 2 ["_law_pen","_law_many"] Az)(hr:Room 2 Z.X.A)(xf:XFly Z.X Z.W)(po:PO O0 p O)(hc:O c=none)(ha:ET Z ρ (Aa O c acc) a (.raw (.ref p)))(hb:ET Z ρ (Aa O c acc) b (.int m))(m0:0<m)(m1:m<1000)(k:∀r O',0≤r→r<m→PO O0 p O'→O' c=none→Φ (.int r) (Aa O' c acc))(hg:Gl Z.X "_law_draw":=by rfl)
  (he:cb [a,b] Z.X.env=(false,eval a Z.X.env)::cb [b] Z.X.env:=by rfl) (he2:cb [b] Z.X.env=(false,eval b Z.X.env)::cb [] Z.X.env:=by rfl) (hpl:(fY pos (cb [b] Z.X.env)).any (·.1)=false:=by rfl):WE Z ρ (Aa O c acc) (.Call (.Name "_law_draw" q) [a,b] [] pos) Φ:=by
 obtain⟨xs,hp,px⟩:=po.at
 have hpc:p≠c:=MB hp hc
 refine Ac G hr xf (EA.wa (AL ha (AL hb AE he2) he) ⟨p,xs,m,rfl,by rw[AO hpc];exact hp,px,m0,m1,fun r xs' r0 r1 px'=>?_⟩) hg (by decide) he hpl
 rw[BJ hpc]
 exact k r _ r0 r1 (po.step px') (by rw[AO (Ne.symm hpc)];exact hc)
end
def NQ:DR:=fun ts O Φ _=>∃(p:Addr) (xs:List T) (most:Int),ts=[.raw (.ref p),.int most]∧O p=some xs∧FK xs∧1≤most∧most≤16∧∀(n:Int) (ps:List (Int×Int)) (O':AG),1≤n→n≤most→(∀q∈ps,AQ n q)→ps.length≤256→PO O p O'→Φ (.tup [.int n,.tup (ps.map AC)]) O'
def DD:List Str:=["_law_pen","_law_most","_law_way","_law_many","_law_every","_law_other","_law_side","_law_ring"]
theorem CO:FnScope DD ["_law_pen","_law_most"] (AA Bg):=⟨rfl,rfl,rfl,by decide+kernel,rfl,by decide+kernel,by decide+kernel⟩
theorem ZA:(Ak ["_law_one"] [(("_law_other" :Str),5)]).Nodup:=by decide+kernel
theorem ZC:(Ak ["_law_pair"] [(("_law_pen" :Str),0),(("_law_way" :Str),2)]).Nodup:=by decide+kernel
theorem ZD:(Ak ["_law_step"] [(("_law_pen" :Str),0)]).Nodup:=by decide+kernel
theorem ZE:(Ak ["_law_one","_law_other"] [(("_law_side" :Str),6)]).Nodup:=by decide+kernel
theorem Uo:(Ak ["_law_place"] []).Nodup:=by decide+kernel
theorem ZF:(Ak ["_law_place"] [(("_law_pen" :Str),0)]).Nodup:=by decide+kernel
theorem ZG{r:Int}(r0:0≤r)(r1:r<3):∃m:Int,atI [T.int 2,T.int 3,T.int 6] r=some (.int m)∧0<m∧m<1000:=by
 have:r=0∨r=1∨r=2:=by omega
 rcases this with rfl|rfl|rfl
 ·exact⟨2,rfl,by decide,by decide⟩
 ·exact⟨3,rfl,by decide,by decide⟩
 ·exact⟨6,rfl,by decide,by decide⟩
def FP(i:Nat):Stmt:=(AY Bg).getD i (.Pass ⟨0,0,0,0⟩)
def ZH:Stmt→List Stmt
 | .If _ a _ _=>a
 |_=> []
abbrev zS(P:Program)(w:World)(K:a8)(mg:Str→Option Value)(base:Heap)(f:Addr)(cdv:Value)(A:de)(outer:List Env)(s:Shared)(H:Hp)(E:XK)(O:AG)(Ξ:Value→AG→Prop):Zx:=zB P w K mg base DD "_law_shape" (AA Bg) f cdv A outer s H E O Ξ
abbrev EC(p:Addr)(most way n:Int)(es:List (Int×Int))(v5:Option T):List (Option T):=[some (.raw (.ref p)),some (.int most),some (.int way),some (.int n),some (.lst (es.map AC)),v5,none,none]
end
abbrev DE:Stmt:=top 34
section
variable{P:Program}{w:World}{K:a8}{mg:Str→Option Value}{base:Heap}
def IT(n:Int)(p:Int×Int):Prop:=0≤p.1∧p.1<n∧0≤p.2∧p.2<n∧p.1≠p.2
def NR:DR:=fun ts O Φ _=>∃(p:Addr) (xs:List T) (most:Int),ts=[.raw (.ref p),.int most]∧O p=some xs∧FK xs∧1≤most∧most≤16∧∀(n:Int) (ps:List (Int×Int)) (O':AG),1≤n→n≤most→(∀q∈ps,AQ n q)→ps.Pairwise FF→ps.length≤257→PO O p O'→Φ (.tup [.int n,.tup (ps.map AC)]) O'
def HG:List Str:=["_law_pen","_law_most","_law_many","_law_ties","_law_way","_law_one"]
theorem Ee:FnScope HG ["_law_pen","_law_most"] (AA DE):=⟨rfl,rfl,rfl,by decide+kernel,rfl,by decide+kernel,by decide+kernel⟩
theorem MK{n:Int}{ns:List Int}(n0:0≤n)(pm:ns.Perm ((dN n.toNat).map fun(i:Nat)=> (i:Int))):(ns.length:Int)=n∧(∀z∈ns,0≤z∧z<n)∧ns.Nodup:=by
 refine⟨?_,fun z hz=>?_,?_⟩
 ·have:=pm.length_eq
  simp at this
  omega
 ·obtain⟨i,hi,rfl⟩:=df.mp (pm.mem_iff.mp hz)
  have:=e8.mp hi
  omega
 ·refine pm.nodup_iff.mpr ?_
  show dD _ _
  rw[eJ]
  exact(List.nodup_range).imp fun h z=>h (Int.ofNat.inj z)
theorem Wu{ns:List Int}(nd:ns.Nodup){i j:Int}(hi:0≤i∧i<ns.length)(hj:0≤j∧j<ns.length)(h:i≠j):LM ns i≠LM ns j:=by
 unfold LM
 have h1:i.toNat<ns.length:=by omega
 have h2:j.toNat<ns.length:=by omega
 have e1:ns.getD i.toNat 0=ns[i.toNat]:=by simp[jx,h1]
 have e2:ns.getD j.toNat 0=ns[j.toNat]:=by simp[jx,h2]
 rw[e1,e2]
 intro z
 have pw:=dU.mp nd
 rcases Nat.lt_or_gt_of_ne (show i.toNat≠j.toNat by omega) with hl|hl
 ·exact pw _ _ h1 h2 hl z
 ·exact pw _ _ h2 h1 hl z.symm
theorem Tp{n:Int}{ns:List Int}(hl:(ns.length:Int)=n)(hb:∀z∈ns,0≤z∧z<n)(nd:ns.Nodup){q:Int×Int}(h:IT n q):AQ n (nm ns q):=by
 obtain⟨h1,h2,h3,h4,h5⟩:=h
 have e1:=hb _ (GE (ns:=ns) h1 (by omega))
 have e2:=hb _ (GE (ns:=ns) h3 (by omega))
 have e3:=Wu nd (i:=q.1) (j:=q.2) ⟨h1,by omega⟩ ⟨h3,by omega⟩ h5
 unfold AQ nm
 show 0≤min _ _∧min _ _<max _ _∧max _ _<n
 omega
theorem RF{f:Addr}{cdv:Value}{A:de}{outer:List Env}{s:Shared}{H:Hp}{E:XK}{O0 O1:AG}{Ξ:Value→AG→Prop}{p l:Addr}{most n:Int}{v4 v5:Option T}{Φ:BL}{qs:List (Int×Int)}
  (hr:Room 3 (zB P w K mg base HG "_law_web_by" (AA DE) f cdv A outer s H E O0 Ξ).X.A) (xf:XFly (zB P w K mg base HG "_law_web_by" (AA DE) f cdv A outer s H E O0 Ξ).X (zB P w K mg base HG "_law_web_by" (AA DE) f cdv A outer s H E O0 Ξ).W)
  (Tx:Txt mg) (Gn:FnT P w K mg base "_law_named" 2 ["_law_web","_law_names"] JV) (Gb:FnT P w K mg base "_law_names_by" 3 ["_law_pen","_law_many"] FO)
  (po:PO O0 p O1) (hl:O0 l=none) (hpl:p≠l) (n0:1≤n) (n1:n≤16) (hq:∀q∈qs,IT n q) (hz:qs.length≤257)
  (q:∀(ps:List (Int×Int)) (O':AG),(∀q∈ps,AQ n q)→ps.Pairwise FF→ps.length≤257→PO O0 p O'→Φ (.tup [.int n,.tup (ps.map AC)]) O'):
  DS (zB P w K mg base HG "_law_web_by" (AA DE) f cdv A outer s H E O0 Ξ) [some (.raw (.ref p)),some (.int most),some (.int n),some (.raw (.ref l)),v4,v5] (Aa O1 l (qs.map AC)) [(AY DE).getD 5 (.Pass ⟨0,0,0,0⟩)] {nx:=fun _ O'=>Φ .non O',rt:=Φ}:=by
 obtain⟨xs,rfl,px⟩:=po
 have hp:Aa (Aa O0 p xs) l (qs.map AC) p=some xs:=by rw[AO hpl,AD]
 refine AJ (NJ (l:=l) hl (Ac Gn (hr.mono (by decide)) xf (Bm (ET.we (BX (AZ (ev 2) (AZ (OT Tx.nTuple AD (ev 3)) AE))) (Bm (Ac Gb hr xf (EA.wa (AZ (ev 0) (AZ (ev 2) AE)) ⟨p,xs,n,rfl,hp,px,by omega,by omega,fun ns xs' pm px'=>Ai ?_⟩)))))))
 obtain⟨h1,h2,h3⟩:=MK (by omega) pm
 refine⟨n,qs,ns,rfl,by omega,fun z hz=>?_,fun z hz=>?_,fun rs r1 r2 r3=>?_⟩
 ·have:=hq z hz
  unfold IT at this
  omega
 ·have:=h2 z hz
  omega
 ·have e:CF (Aa (Aa (Aa O0 p xs) l (qs.map AC)) p xs') l=Aa O0 p xs':=by
   rw[BJ hpl,BC,IJ hl hpl]
  show Φ _ (CF (Aa (Aa (Aa O0 p xs) l (qs.map AC)) p xs') l)
  rw[e]
  refine q rs _ (fun z hz=>?_) r1 (by omega) ⟨xs',rfl,px'⟩
  obtain⟨y,hy,rfl⟩:=df.mp ((r2 z).mp hz)
  exact Tp h1 h2 h3 (hq y hy)
theorem Of{f:Addr}{fd:dA}(F:Fun K "_law_web_by" "_law_web_by" DE f fd)(Tx:Txt mg)(G:FnT P w K mg base "_law_draw" 2 ["_law_pen","_law_many"] Az)(Gs:FnT P w K mg base "_law_shape" 3 ["_law_pen","_law_most"] NQ)(Gn:FnT P w K mg base "_law_named" 2 ["_law_web","_law_names"] JV)(Gb:FnT P w K mg base "_law_names_by" 3 ["_law_pen","_law_many"] FO):
  FnOk P w K mg base (CXe P w) 4 f fd ["_law_pen","_law_most"] (Dl K NR):=by
 refine Aj F Ee ?_ ?_
 ·rintro ts O Φ Ξ ⟨p,xs,m,rfl,_⟩
  rfl
 ·rintro cdv A outer s H E O0 Ξ hr xf _ Φ ⟨p,xs,most,rfl,hp,px,t0,t1,q⟩
  have hu:(A.deeper (hZ "_law_web_by" (AA DE) s.heap.objs.size f cdv)).units<cLine:=by have:=hr.un;omega
  refine AF (WM (n:=6) (Ac Gs hr xf (EA.wa (AZ (ev 0) (AZ (ev 1) AE)) ⟨p,xs,most,rfl,hp,px,t0,t1,fun n ps O1 n0 n1 hps hz po1=> ⟨[some (.raw (.ref p)),some (.int most),some (.int n),some (.tup (ps.map AC)),none,none],BD 2 3 rfl Ee.nd (by decide) (by decide),?_⟩⟩)))
  have q':∀(ps:List (Int×Int)) (O':AG),(∀q∈ps,AQ n q)→ps.Pairwise FF→ps.length≤257→PO O0 p O'→Φ (.tup [.int n,.tup (ps.map AC)]) O':=fun ps O' a b c d=>q n ps O' n0 n1 a b c d
  refine AF (AV 3 (OS Tx.nList (ev 3) fun l hl1=>?_) Ee.nd)
  have hl:O0 l=none:=by
   obtain⟨ys,rfl,_⟩:=po1
   by_cases hb:l=p
   ·rw[hb,AD] at hl1;cases hl1
   ·rw[AO hb] at hl1;exact hl1
  have hpl:p≠l:=MB hp hl
  have hD:∀q∈ps,IT n q:=fun z hz=>by
   have:=hps z hz
   unfold AQ at this
   unfold IT
   omega
  refine AF (AV 4 (Bz G (hr.mono (by decide)) xf po1 hl1 (ev 0) AB (by decide) (by decide) fun way O2 w0 w1 po2 hc2=>?_) Ee.nd)
  refine AF (NB (Ψ:={nx:=fun ρ' O'=>∃(qs:List (Int×Int)) (O3:AG),ρ'=[some (.raw (.ref p)),some (.int most),some (.int n),some (.raw (.ref l)),some (.int way),none]∧O'=Aa O3 l (qs.map AC)∧O3 l=none∧PO O0 p O3∧(∀q∈qs,IT n q)∧qs.length≤256,rt:=Φ}) (BY (EW.eb (Dv (Du (ev 4) AB) fun _=>Cw (QT hu AD (ev 3)))) (fun h=>?_) (fun h=>BS ⟨ps,O2,rfl,rfl,hc2,po2,hD,hz⟩)) ?_ (fun _ _ z=>z) (fun _ _ z=>z) (fun _ _ z=>z))
  ·have h:(decide (way=0)&&!(ps.map AC).isEmpty)=true:=h
   have hne:0<ps.length:=by
    simp at h
    exact List.length_pos_iff.mpr h.2
   refine AJ (Cy (KU (ET.we (ev 3) ⟨l,rfl,⟨_,AD⟩,Bz G (hr.mono (by decide)) xf po2 hc2 (ev 0) (NF Tx.nLen (ev 3) AD) (by simp;omega) (by simp;omega) fun r O3 r0 r1 po3 hc3=>?_⟩)))
   have r1:r<ps.length:=by simpa using r1
   have hr':r.toNat<ps.length:=by omega
   refine⟨ps.map AC,r,AC ps[r.toNat],rfl,AD,r0,by omega,by simpa using r1,by rw[cg,cc hr'];rfl,?_⟩
   refine⟨ps.eraseIdx r.toNat,O3,rfl,by rw[BC,FN],hc3,po3,fun z hz=>hD z (List.mem_of_mem_eraseIdx hz),?_⟩
   have:=List.length_eraseIdx_le ps r.toNat
   omega
  ·rintro _ _ ⟨qs,O3,rfl,rfl,hc3,po3,hq,hz3⟩
   refine AF (BY (EW.eb (Dv (Du (ev 4) AB) fun _=>Cw (KP (ev 2) AB))) (fun h=>?_) (fun h=>BS (RF hr xf Tx Gn Gb po3 hl hpl n0 (by omega) hq (by omega) q')))
   have h:(decide (way=1)&&decide (1<n))=true:=h
   have n2:1<n:=by simp at h;exact h.2
   refine AF (AV 5 (Bz G (hr.mono (by decide)) xf po3 hc3 (ev 0) (ev 2) (by omega) (by omega) fun one O4 o0 o1 po4 hc4=>?_) Ee.nd)
   refine AJ (Cy (Bo (ET.we (ev 3) ⟨l,rfl,⟨_,AD⟩,?_⟩)))
   refine Be (Bm (ET.we (ev 5) (Bm ?_)))
   refine FZ PB (FZ GM (ET.we (BM (ev 5) AB) ?_))
   refine Bz G (hr.mono (by decide)) xf po4 hc4 (ev 0) (Dt (ev 2) AB) (by omega) (by omega) fun r O5 r0 r1 po5 hc5=>?_
   refine IG _ (ET.we (ev 2) (QB (C:=fun _ j=>0<j) (show 0<n by omega) _ ?_))
   refine Ai ⟨by show 2≤sizeLine;decide,_,AD,?_,?_⟩
   ·rw[b8]
    have:=Ab
    omega
   ·rw[BC]
    have e:(qs.map AC++[T.tup [.int one,.int ((one+1+r)%n)]])=(qs++[(one,(one+1+r)%n)]).map AC:=by rw[dH];rfl
    rw[e]
    refine RF hr xf Tx Gn Gb po5 hl hpl n0 (by omega) (fun z hz=>?_) (by simp;omega) q'
    rcases dt.mp hz with hz|hz
    ·exact hq z hz
    ·rw[cq.mp hz]
     have:=IS (m:=n) (s:=1+r) (j:=one) ⟨by omega,by omega⟩ ⟨o0,o1⟩
     unfold AQ at this
     have e2:one+1+r=one+(1+r):=by omega
     rw[e2]
     have b0:=iC (one+(1+r)) (show n≠0 by omega)
     have b1:=gQ (one+(1+r)) (show 0<n by omega)
     show 0≤one∧one<n∧0≤(one+(1+r))%n∧(one+(1+r))%n<n∧one≠(one+(1+r))%n
     omega
end
open Gr
section
variable{P:Program}{w:World}{K:a8}{mg:Str→Option Value}{base:Heap}{CP:Addr}
def BO(qs:List (Int×Int))(i:Nat):List Int:=qs.filterMap fun p=>if p.1=(i:Int) then some p.2 else if p.2=(i:Int) then some p.1 else none
theorem Kw{qs:List (Int×Int)}{p:Int×Int}{i:Nat}:BO (qs++[p]) i=BO qs i++(if p.1=(i:Int) then[p.2] else if p.2=(i:Int) then[p.1] else[]):=by
 unfold BO
 rw[List.filterMap_append]
 congr 1
 by_cases h:p.1=(i:Int)
 ·simp[h]
 ·by_cases h2:p.2=(i:Int)
  ·simp[h,h2]
  ·simp[h,h2]
theorem ED{qs:List (Int×Int)}{i:Nat}:(BO qs i).length≤qs.length:=List.length_filterMap_le ..
def HH(n:Int)(ps:List (Int×Int)):T:=.lst ((dN n.toNat).map fun i=> .lst ((BO ps i).map T.int))
structure Nst(n:Int)(O:AG)(l:Addr)(qs:List (Int×Int))(rs:List (Addr×List T)):Prop where
 len:(rs.length:Int)=n
 nd:(rs.map dX).Nodup
 ne:∀r∈rs,r.1≠l
 fr:∀r∈rs,O r.1=none
 val:∀(i:Nat) r,rs[i]?=some r→r.2=(BO qs i).map T.int
theorem Bd{rs:List (Addr×List T)}{i:Nat}{r:Addr×List T}{vs:List T}(h:rs[i]?=some r):(rs.set i (r.1,vs)).map dX=rs.map dX:=TH (us:=r.2) h
theorem Wv{O:AG}{rs:List (Addr×List T)}{l:Addr}{i:Nat}{r:Addr×List T}{us:List T}(e:rs[i]?=some r)(hn:(rs.map dX).Nodup)(hl:∀r∈rs,r.1≠l):
  Aa (Aa (Fe O rs) l (rs.map Bf)) r.1 us=Aa (Fe O (rs.set i (r.1,us))) l ((rs.set i (r.1,us)).map Bf):=by
 rw[BJ (hl r (cU e)),TF (us:=r.2) hn e]
 congr 1
 have:=Bd (vs:=us) e
 have e1:∀rs:List (Addr×List T),rs.map Bf=(rs.map dX).map fun a=>T.raw (.ref a):=fun rs=>by rw[eu];rfl
 rw[e1,e1,this]
theorem Nst.set2{n:Int}{O:AG}{l:Addr}{qs:List (Int×Int)}{rs:List (Addr×List T)}(h:Nst n O l qs rs){a b:Nat}(hab:a≠b){ra rb:Addr×List T}(ea:rs[a]?=some ra)(eb:rs[b]?=some rb):
  Nst n O l (qs++[((a:Int),(b:Int))]) ((rs.set a (ra.1,ra.2++[T.int b])).set b (rb.1,rb.2++[T.int a])):=by
 have eb':(rs.set a (ra.1,ra.2++[T.int b]))[b]?=some rb:=by rw[dz hab];exact eb
 have m1:=Bd (vs:=ra.2++[T.int b]) ea
 have m2:=Bd (vs:=rb.2++[T.int a]) eb'
 have hm:∀r∈((rs.set a (ra.1,ra.2++[T.int b])).set b (rb.1,rb.2++[T.int a])),∃r'∈rs,r'.1=r.1:=fun r hr=>by
  have:r.1∈(((rs.set a (ra.1,ra.2++[T.int b])).set b (rb.1,rb.2++[T.int a])).map dX):=fK hr
  rw[m2,m1] at this
  obtain⟨r',h1,h2⟩:=df.mp this
  exact⟨r',h1,h2⟩
 refine⟨by rw[gG,gG];exact h.len,by rw[m2,m1];exact h.nd,fun r hr=>?_,fun r hr=>?_,fun i r e=>?_⟩
 ·obtain⟨r',h1,h2⟩:=hm r hr
  rw[←h2];exact h.ne r' h1
 ·obtain⟨r',h1,h2⟩:=hm r hr
  rw[←h2];exact h.fr r' h1
 ·have la:=(cw.mp ea).1
  have lb:=(cw.mp eb).1
  rw[Kw,dH]
  by_cases h1:i=b
  ·subst h1
   rw[dr (by rw[gG];exact lb)] at e
   cases e
   have:¬((a:Int)=(i:Int)):=by omega
   show rb.2++[T.int a]=_
   rw[h.val i rb eb]
   simp[this]
  ·rw[dz (fun z=>h1 z.symm)] at e
   by_cases h2:i=a
   ·subst h2
    rw[dr la] at e
    cases e
    show ra.2++[T.int b]=_
    rw[h.val i ra ea]
    simp
   ·rw[dz (fun z=>h2 z.symm)] at e
    have n1:¬((a:Int)=(i:Int)):=by omega
    have n2:¬((b:Int)=(i:Int)):=by omega
    rw[h.val i r e]
    simp[n1,n2]
theorem Nst.tree{n:Int}{O:AG}{l:Addr}{ps:List (Int×Int)}{rs:List (Addr×List T)}(h:Nst n O l ps rs):T.lst (rs.map fun r=>T.lst r.2)=HH n ps:=by
 have hl:=h.len
 unfold HH
 congr 1
 apply fv
 intro i
 rw[cg,cg]
 by_cases hi:i<rs.length
 ·rw[cc hi,kB (by omega)]
  show some (T.lst rs[i].2)=_
  rw[h.val i rs[i] (cc hi)]
  rfl
 ·rw[gi (by omega),gi (by rw[iI];omega)]
  rfl
def NS:DR:=Ry fun ts r=>∃n ps,ts=[BU n ps]∧0≤n∧n≤200∧Ff n ps∧ps.length≤200∧r=HH n ps
theorem JX:FnScope ["web","nears","a","b"] ["web"] (AA JS):=⟨rfl,rfl,rfl,by decide+kernel,rfl,by decide+kernel,by decide+kernel⟩
theorem ZI:(Ak ["place"] []).Nodup:=by decide+kernel
theorem RG{f:Addr}{fd:dA}(F:Fun K "nears_of" "nears_of" JS f fd)(Tx:Txt mg):FnOk P w K mg base (CXe P w) 1 f fd ["web"] (Dl K NS):=by
 refine Aj F JX ?_ ?_
 ·rintro ts O Φ Ξ ⟨r,⟨n,ps,rfl,_⟩,_⟩
  rfl
 ·rintro cdv A outer s H E O Ξ hr xf _ Φ ⟨_,⟨n,ps,rfl,n0,n1,hw,hl,rfl⟩,q⟩
  have sb:=Ab
  refine AF (FI (i:=1) (nc:=["place"]) (cap:=[]) (by rfl) JX.nd rfl (Bl (AA JS) ["web","nears","a","b"] (by decide+kernel)) (EI.wi (Ap Tx.nRange (Af (ev 0) AB) ⟨by omega,by omega⟩) ?_))
  refine⟨fun i acc O'=>i≤200∧∃as:List Addr,acc=(as.map fun a=> (a,([]:List T))).map Bf∧as.length=i∧as.Nodup∧(∀a∈as,O a=none)∧O'=Fe O (as.map fun a=> (a,[])),⟨by omega,[],rfl,rfl,by simp,(fun _ h=>by cases h),rfl⟩,?_,?_⟩
  ·rintro i t acc O' c e ⟨_,as,rfl,hal,hnd,hfr,rfl⟩ hc
   obtain⟨hi,rfl⟩:=Ao e
   refine⟨[some (.int (0+(i:Int)))],fun X' Oe He is=> ⟨?_,Dc (Ih fun X' Oe He is=>?_)⟩⟩
   ·obtain⟨cl,s',H',fp,rfl⟩:=is
    exact AU 0 ZI (by decide)
   ·obtain⟨cl,s',H',fp,rfl⟩:=is
    refine ER (Ai ⟨eS _,fun p hp=>?_⟩)
    have hpc:p≠c:=fun z=>by rw[z,AD] at hp;cases hp
    rw[AO hpc] at hp
    have hpa:p∉as:=fun z=>by
     rw[CZ (rs:=as.map fun a=> (a,[])) (r:=(p,[])) (by rw[eu];simpa[jY] using hnd) (fK z)] at hp
     cases hp
    have hpO:O p=none:=by
     rw[CK fun r hr=>by
      obtain⟨a,ha,rfl⟩:=df.mp hr
      exact fun z=>hpa (z▸ha)] at hp
     exact hp
    refine⟨Aa (Fe O (as.map fun a=> (a,[]))) p [],BJ hpc,by rw[AO hpc.symm];exact hc,by rw[b8,b8];omega,by omega,as++[p],by rw[dH,dH];rfl,by simp;omega,?_,fun a ha=>?_,?_⟩
    ·rw[eY]
     refine⟨hnd,by simp,fun a ha b hb z=>?_⟩
     rw[cq.mp hb] at z
     exact hpa (z▸ha)
    ·rcases dt.mp ha with ha|ha
     ·exact hfr a ha
     ·rw[cq.mp ha];exact hpO
    ·rw[dH];exact(Kc (r:=(p,[]))).symm
  ·rintro acc O' ⟨_,as,rfl,hal,hnd,hfr,rfl⟩ l hlO
   rw[Ad] at hal
   have hkeys:((as.map fun a=> (a,([]:List T))).map dX)=as:=by rw[eu];simp[jY]
   have nst0:Nst n O l [] (as.map fun a=> (a,([]:List T))):=by
    refine⟨by rw[b8];omega,by rw[hkeys];exact hnd,fun r hr z=>?_,fun r hr=>?_,fun i r e=>?_⟩
    ·rw[←z,CZ (by rw[hkeys];exact hnd) hr] at hlO
     cases hlO
    ·obtain⟨a,ha,rfl⟩:=df.mp hr
     exact hfr a ha
    ·have:=cU e
     obtain⟨a,ha,rfl⟩:=df.mp this
     rfl
   have hlO':O l=none:=by
    rw[CK nst0.ne] at hlO
    exact hlO
   refine AF (BF Ae.own rfl (EI.wi (Cz (Af (ev 0) AB)) ⟨fun j ρ' O'=>∃rs v2 v3,ρ'=[some (BU n ps),some (.raw (.ref l)),v2,v3]∧O'=Aa (Fe O rs) l (rs.map Bf)∧Nst n O l (ps.take j) rs,⟨_,none,none,rfl,rfl,by rw[lg];exact nst0⟩,?_,?_⟩))
   ·rintro j t _ _ e ⟨rs,v2,v3,rfl,rfl,nst⟩
    rw[cg] at e
    cases ec:ps[j]? with
    |none=>rw[ec] at e;cases e
    |some z=>
     rw[ec] at e
     cases e
     have hb:=hw z (cU ec)
     have hlen:=nst.len
     have htl:(ps.take j).length≤200:=by rw[dI];omega
     obtain⟨a,ea⟩:=dE hb.1
     obtain⟨b,eb⟩:=dE (show 0≤z.2 by omega)
     have ha:a<rs.length:=by omega
     have hb':b<rs.length:=by omega
     have hab:a≠b:=by omega
     have ga:=cc ha
     have gb:(rs.set a (rs[a].1,rs[a].2++[T.int b]))[b]?=some rs[b]:=by rw[dz hab];exact cc hb'
     have m1:=Bd (vs:=rs[a].2++[T.int b]) ga
     have nd1:((rs.set a (rs[a].1,rs[a].2++[T.int b])).map dX).Nodup:=by rw[m1];exact nst.nd
     have ne1:∀r∈rs.set a (rs[a].1,rs[a].2++[T.int b]),r.1≠l:=fun r hr=>by
      have:r.1∈(rs.set a (rs[a].1,rs[a].2++[T.int b])).map dX:=fK hr
      rw[m1] at this
      obtain⟨r',h1,h2⟩:=df.mp this
      rw[←h2];exact nst.ne r' h1
     have la:rs[a].2.length≤200:=by rw[nst.val a rs[a] ga,b8];exact dZ ED htl
     have lb:rs[b].2.length≤200:=by rw[nst.val b rs[b] (cc hb'),b8];exact dZ ED htl
     have ez:z=((a:Int),(b:Int)):=by rw[←ea,←eb]
     subst ez
     refine⟨[some (BU n ps),some (.raw (.ref l)),some (.int a),some (.int b)],BD 2 3 rfl JX.nd (by show 2<4;decide) (by show 3<4;decide),?_⟩
     refine AF (Cy (Bo (ET.we (BR (ts:=rs.map Bf) AD (ev 1) (ev 2) (BB (by rw[cg,ga];rfl))) ⟨rs[a].1,rfl,⟨rs[a].2,?_⟩,ET.we (ev 3) ⟨rs[a].2,?_,by omega,?_⟩⟩)))
     ·rw[AO (nst.ne _ (gu ha))];exact CZ nst.nd (gu ha)
     ·rw[AO (nst.ne _ (gu ha))];exact CZ nst.nd (gu ha)
     ·rw[Wv ga nst.nd nst.ne]
      refine AJ (Cy (Bo (ET.we (BR (ts:=(rs.set a (rs[a].1,rs[a].2++[T.int b])).map Bf) AD (ev 1) (ev 3) (BB (by rw[cg,gb];rfl))) ⟨rs[b].1,rfl,⟨rs[b].2,?_⟩,ET.we (ev 2) ⟨rs[b].2,?_,by omega,?_⟩⟩)))
      ·rw[AO (ne1 _ (cU gb))];exact CZ nd1 (cU gb)
      ·rw[AO (ne1 _ (cU gb))];exact CZ nd1 (cU gb)
      ·rw[Wv gb nd1 ne1]
       refine⟨_,_,_,rfl,rfl,?_⟩
       have:ps.take (j+1)=ps.take j++[((a:Int),(b:Int))]:=by
        rw[fu,ec];rfl
       rw[this]
       exact nst.set2 hab ga (cc hb')
   ·rintro _ _ ⟨rs,v2,v3,rfl,rfl,nst⟩
    rw[b8,fj] at nst
    refine Kg nst.nd nst.ne nst.fr nst.fr ?_
    refine Bx (p:=l) (n:=1) (ts:=rs.map fun r=>T.lst r.2) AD hlO' rfl ?_
    rw[Ax hlO']
    refine AJ (AW (ET.we (ev 1) ?_))
    show Φ (T.lst (rs.map fun r=>T.lst r.2)) O
    rw[nst.tree]
    exact q
end
section
variable{P:Program}{w:World}{K:a8}{mg:Str→Option Value}{base:Heap}{CP:Addr}
theorem IU{n:Int}{ps:List (Int×Int)}(hw:Ff n ps){i:Nat}{v:Int}:v∈BO ps i↔Adj ps (i:Int) v:=by
 unfold BO Adj
 rw[gN]
 constructor
 ·rintro⟨p,hp,e⟩
  by_cases h:p.1=(i:Int)
  ·rw[if_pos h] at e
   cases e
   exact .inl (by rw[←h];exact hp)
  ·rw[if_neg h] at e
   by_cases h2:p.2=(i:Int)
   ·rw[if_pos h2] at e
    cases e
    exact .inr (by rw[←h2];exact hp)
   ·rw[if_neg h2] at e;cases e
 ·rintro(h|h)
  ·exact⟨_,h,by simp⟩
  ·have:=hw _ h
   simp only at this
   exact⟨_,h,by rw[if_neg (by omega)];simp⟩
theorem Ef{m:Nat}{i:Nat}(h:i<m):Nw m (i:Int)=some i:=by
 unfold Nw
 rw[if_pos (by omega),if_pos (by omega)]
 rfl
structure WebN(n:Int)(ps:List (Int×Int)):Prop where
 n0:0≤n
 n1:n≤200
 hw:Ff n ps
 hl:ps.length≤200
def AS:Option Nat→T
 |none=> .non
 |some d=> .int d
theorem HI{x:Option Nat}:Fd (AS x)=false:=by cases x<;>rfl
theorem HJ{x:Option Nat}:Kb (AS x)=x.isNone:=by cases x<;>rfl
def RH:List Str:=["nears","starts","fars","start","border","steps","beyond","place","near"]
theorem Cb:FnScope RH ["nears","starts"] (AA IQ):=⟨rfl,rfl,rfl,by decide+kernel,rfl,by decide+kernel,by decide+kernel⟩
theorem ZJ:(Ak ["near"] []).Nodup:=by decide+kernel
def bP(i:Nat):Stmt:=(AY IQ).getD i (.Pass ⟨0,0,0,0⟩)
def Dm:Stmt→List Stmt
 | .While _ b _ _=>b
 | .For _ _ b _ _=>b
 |_=> []
def bQ(i:Nat):Stmt:=(Dm (bP 4)).getD i (.Pass ⟨0,0,0,0⟩)
variable{f:Addr}{cdv:Value}{A:de}{outer:List Env}{s:Shared}{H:Hp}{E:XK}{O:AG}{Ξ:Value→AG→Prop}{n:Int}{ps:List (Int×Int)}{S bs:List Int}{l lb:Addr}
abbrev zF(P:Program)(w:World)(K:a8)(mg:Str→Option Value)(base:Heap)(f:Addr)(cdv:Value)(A:de)(outer:List Env)(s:Shared)(H:Hp)(E:XK)(O:AG)(Ξ:Value→AG→Prop):Zx:=zB P w K mg base RH "fars_from" (AA IQ) f cdv A outer s H E O Ξ
abbrev Fp(O:AG)(l lb:Addr)(fs:List (Option Nat))(Ah:List Int):AG:=Aa (Aa O l (fs.map AS)) lb (Ah.map T.int)
end
section
variable{P:Program}{w:World}{K:a8}{mg:Str→Option Value}{base:Heap}{CP:Addr}{f:Addr}{cdv:Value}{A:de}{outer:List Env}{s:Shared}{H:Hp}{E:XK}{O:AG}{Ξ:Value→AG→Prop}{n:Int}{ps:List (Int×Int)}{S bs:List Int}{l lb:Addr}
end
open GrR
abbrev Dn(rows:List (List Int)):T:=.lst (rows.map fun r=> .lst (r.map T.int))
def Rw(rows:List (List Int))(u v:Int):Prop:=0≤u∧v∈rows.getD u.toNat []
structure RowsN(n:Int)(rows:List (List Int)):Prop where
 len:(rows.length:Int)=n
 n1:n≤200
 hw:Yu n (Rw rows)
theorem Kx{rows:List (List Int)}{i:Nat}{v:Int}:v∈rows.getD i []↔Rw rows (i:Int) v:=by
 unfold Rw
 rw[dS]
 exact⟨fun h=> ⟨by omega,h⟩,fun h=>h.2⟩
theorem GF{rows:List (List Int)}{i:Nat}(h:i<rows.length):atI (rows.map fun r=>T.lst (r.map T.int)) (i:Int)=some (.lst ((rows.getD i []).map T.int)):=
 BB (by rw[cg,cc h];simp[jx,h])
theorem RI{R:Int→Int→Prop}{S:List Int}{v:Int}:IsD R S v 0↔v∈S:=by
 constructor
 ·rintro⟨w,_⟩
  cases w with
  |«at» h=>exact h
 ·intro h
  exact⟨.at h,fun j hj=>by omega⟩
section
variable{P:Program}{w:World}{K:a8}{mg:Str→Option Value}{base:Heap}{f:Addr}{cdv:Value}{A:de}{outer:List Env}{s:Shared}{H:Hp}{E:XK}{O:AG}{Ξ:Value→AG→Prop}{n:Int}{rows:List (List Int)}{S bs:List Int}{l lb:Addr}
def NT:DR:=fun ts O Φ _=>∃n rows S,ts=[Dn rows,.lst (S.map T.int)]∧RowsN n rows∧(∀z∈S,0≤z∧z<n)∧∀fs,All n (Rw rows) S fs→Φ (.lst (fs.map AS)) O
abbrev Fq(n:Int)(rows:List (List Int))(S:List Int)(l:Addr)(v3:Option T)(bs:List Int)(k:Nat)(v6 v7 v8:Option T):List (Option T):=[some (Dn rows),some (.lst (S.map T.int)),some (.raw (.ref l)),v3,some (.lst (bs.map T.int)),some (.int (k:Int)),v6,v7,v8]
theorem Og{v3 v7:Option T}{k:Nat}{fs:List (Option Nat)}{Ah ds:List Int}{u:Int}{v:Nat}{Φ:BL}{N Bk Ct:Fv}(hll:lb≠l)(n1:n≤200)(hv:(v:Int)<n)(m:Mid n (Rw rows) S k fs Ah ds)(nd:Ah.Nodup)(hw:Yu n (Rw rows))(hS:∀z∈S,0≤z∧z<n)(hu:IsD (Rw rows) S u k)(a:Rw rows u v)
  (q:∀fs Ah,Mid n (Rw rows) S k fs Ah (ds++[(v:Int)])→Ah.Nodup→N (Fq n rows S l v3 bs (k+1) (some (.raw (.ref lb))) v7 (some (.int v))) (Fp O l lb fs Ah)):
  DS (zF P w K mg base f cdv A outer s H E O Ξ) (Fq n rows S l v3 bs (k+1) (some (.raw (.ref lb))) v7 (some (.int v))) (Fp O l lb fs Ah) (Dm ((Dm (bQ 2)).getD 0 (.Pass ⟨0,0,0,0⟩))) {nx:=N,rt:=Φ,bk:=Bk,ct:=Ct}:=by
 have sb:=Ab
 have hl:=m.len
 have hlt:v<fs.length:=by omega
 have gl:Fp O l lb fs Ah l=some (fs.map AS):=by
  show Aa (Aa O l _) lb _ l=_
  rw[AO hll.symm,AD]
 have gv:atI (fs.map AS) (v:Int)=some (AS fs[v]):=BB (by rw[cg,cc hlt];rfl)
 refine AJ (BY (JM HI (BR gl (ev 2) (ev 8) gv)) (fun h=>?_) (fun h=>BS ?_))
 ·rw[HJ] at h
  have hn:fs[(v:Int).toNat]?=some none:=by
   rw[dS,cc hlt]
   cases z:fs[v] with
   |none=>rfl
   |some d=>rw[z] at h;cases h
  have hb:Ah.length≤n.toNat:=Gr.JO nd fun z hz=> (m.sub z hz).1.inb hw hS
  refine AF (Dx (ET.we (ev 5) (ET.we (ev 2) ⟨l,rfl,ET.we (ev 8) ⟨_,_,v,rfl,gl,by rw[b8];exact Ef hlt,?_⟩⟩)))
  have eo:Aa (Fp O l lb fs Ah) l ((fs.map AS).set v (.int ((k+1:Nat):Int)))=Fp O l lb (fs.set v (some (k+1))) Ah:=by
   show Aa (Aa (Aa O l _) lb _) l _=_
   rw[BJ hll.symm,BC]
   show _=Aa (Aa O l ((fs.set v (some (k+1))).map AS)) lb _
   rw[i5]
   rfl
  rw[eo]
  refine AJ (Cy (Bo (ET.we (ev 6) ⟨lb,rfl,⟨_,AD⟩,ET.we (ev 8) ⟨Ah.map T.int,AD,by rw[b8];omega,?_⟩⟩)))
  have m2:=m.hit (v:=(v:Int)) (by omega) hv hn hu a
  rw[dS] at m2
  have:=q _ _ m2 (by
   rw[eY]
   refine⟨nd,by simp,fun x hx y hy z=>?_⟩
   rw[cq.mp hy] at z
   exact m.fresh (by omega) hv hn (z▸hx))
  have e2:Aa (Fp O l lb (fs.set v (some (k+1))) Ah) lb (Ah.map T.int++[T.int v])=Fp O l lb (fs.set v (some (k+1))) (Ah++[(v:Int)]):=by
   show Aa (Aa (Aa O l _) lb _) lb _=Aa (Aa O l _) lb _
   rw[BC,dH]
   rfl
  rw[e2]
  exact this
 ·rw[HJ] at h
  cases z:fs[v] with
  |none=>rw[z] at h;cases h
  |some d=>exact q fs Ah (m.miss (by omega) hv (d:=d) (by rw[dS,cc hlt,z])) nd
theorem ML{v3 v8:Option T}{k:Nat}{fs:List (Option Nat)}{Ah ds:List Int}{u:Nat}{Φ:BL}{N Bk Ct:Fv}(hll:lb≠l)(hrl:(rows.length:Int)=n)(n1:n≤200)(hu0:(u:Int)<n)(m:Mid n (Rw rows) S k fs Ah ds)(nd:Ah.Nodup)(hw:Yu n (Rw rows))(hS:∀z∈S,0≤z∧z<n)(hu:IsD (Rw rows) S u k)
  (q:∀v8 fs Ah ds',Mid n (Rw rows) S k fs Ah ds'→Ah.Nodup→(∀v∈ds,v∈ds')→(∀v,Rw rows u v→v∈ds')→N (Fq n rows S l v3 bs (k+1) (some (.raw (.ref lb))) (some (.int u)) v8) (Fp O l lb fs Ah)):
  DS (zF P w K mg base f cdv A outer s H E O Ξ) (Fq n rows S l v3 bs (k+1) (some (.raw (.ref lb))) (some (.int u)) v8) (Fp O l lb fs Ah) (Dm (bQ 2)) {nx:=N,rt:=Φ,bk:=Bk,ct:=Ct}:=by
 refine AJ (BF Ae.own rfl (EI.wi (Av (Dw (ev 0) (ev 7) (GF (by omega)))) ⟨fun j ρ' O'=>∃v8 fs Ah ds',ρ'=Fq n rows S l v3 bs (k+1) (some (.raw (.ref lb))) (some (.int u)) v8∧O'=Fp O l lb fs Ah∧Mid n (Rw rows) S k fs Ah ds'∧Ah.Nodup∧(∀v∈ds,v∈ds')∧∀v∈(rows.getD u []).take j,v∈ds',⟨v8,fs,Ah,ds,rfl,rfl,m,nd,fun _ h=>h,fun v h=>by simp at h⟩,?_,?_⟩))
 ·rintro j t _ _ e ⟨v8,fs,Ah,ds',rfl,rfl,m,nd,h1,h2⟩
  rw[cg] at e
  cases ec:(rows.getD u [])[j]? with
  |none=>rw[ec] at e;cases e
  |some z=>
   rw[ec] at e
   cases e
   have a:=Kx.mp (cU ec)
   have hb:=hw _ _ a
   obtain⟨v,rfl⟩:=dE hb.1
   refine⟨Fq n rows S l v3 bs (k+1) (some (.raw (.ref lb))) (some (.int u)) (some (.int v)),AU 8 Cb.nd (by show 8<9;decide),Og hll n1 hb.2 m nd hw hS hu a fun fs' bey' m' nd'=> ⟨_,_,_,_,rfl,rfl,m',nd',fun x hx=>eU _ (h1 x hx),fun x hx=>?_⟩⟩
   rw[fu,ec] at hx
   rcases dt.mp hx with hx|hx
   ·exact eU _ (h2 x hx)
   ·exact eG _ hx
 ·rintro _ _ ⟨v8,fs,Ah,ds',rfl,rfl,m,nd,h1,h2⟩
  rw[b8,fj] at h2
  exact q v8 fs Ah ds' m nd h1 fun v a=>h2 v (Kx.mpr a)
theorem MM{v3 v6 v7 v8:Option T}{k:Nat}{fs:List (Option Nat)}{Φ:BL}{N Bk Ct:Fv}(hlO:O l=none)(wn:RowsN n rows)(hS:∀z∈S,0≤z∧z<n)(h:Fr n (Rw rows) S k fs)(hb:∀v,v∈bs↔IsD (Rw rows) S v k)
  (q:∀v6 v7 v8 fs Ah,Fr n (Rw rows) S (k+1) fs→(∀v,v∈Ah↔IsD (Rw rows) S v (k+1))→N (Fq n rows S l v3 Ah (k+1) v6 v7 v8) (Aa O l (fs.map AS))):
  DS (zF P w K mg base f cdv A outer s H E O Ξ) (Fq n rows S l v3 bs k v6 v7 v8) (Aa O l (fs.map AS)) (Dm (bP 4)) {nx:=N,rt:=Φ,bk:=Bk,ct:=Ct}:=by
 have sb:=Ab
 refine AF (WL 5 VR rfl (ET.we AB (fun H v w Q ok r1 r2 acc=> ⟨_,_,r1.int_inv,r2.int_inv,acc _ H (.int (((k+1:Nat):Int))) _ ?_ (.refl ok) (.int _)⟩)) Cb.nd)
 refine AF (AV 6 (ER (Ai ⟨eS _,fun lb hlb=>?_⟩)) Cb.nd)
 have hll:lb≠l:=fun z=>by rw[z,AD] at hlb;cases hlb
 have hlb':O lb=none:=by rw[AO hll] at hlb;exact hlb
 refine AF (BF Ae.own rfl (EI.wi (Av (ev 4)) ⟨fun i ρ' O'=>∃v7 v8 fs Ah ds,ρ'=Fq n rows S l v3 bs (k+1) (some (.raw (.ref lb))) v7 v8∧O'=Fp O l lb fs Ah∧Mid n (Rw rows) S k fs Ah ds∧Ah.Nodup∧∀u∈bs.take i,∀v,Rw rows u v→v∈ds,⟨v7,v8,fs,[],[],rfl,rfl,h.mid,by simp,fun u hu=>by simp at hu⟩,?_,?_⟩))
 ·rintro i t _ _ e ⟨v7,v8,fs,Ah,ds,rfl,rfl,m,nd,h1⟩
  rw[cg] at e
  cases ec:bs[i]? with
  |none=>rw[ec] at e;cases e
  |some z=>
   rw[ec] at e
   cases e
   have hz:=(hb z).mp (cU ec)
   have hi:=hz.1.inb wn.hw hS
   obtain⟨u,rfl⟩:=dE hi.1
   refine⟨Fq n rows S l v3 bs (k+1) (some (.raw (.ref lb))) (some (.int u)) v8,AU 7 Cb.nd (by show 7<9;decide),ML hll wn.len wn.n1 hi.2 m nd wn.hw hS hz fun v8 fs' bey' ds' m' nd' g1 g2=> ⟨_,_,_,_,ds',rfl,rfl,m',nd',fun x hx v a=>?_⟩⟩
   rw[fu,ec] at hx
   rcases dt.mp hx with hx|hx
   ·exact g1 v (h1 x hx v a)
   ·have:x=(u:Int):=by simpa using hx
    rw[this] at a
    exact g2 v a
 ·rintro _ _ ⟨v7,v8,fs,Ah,ds,rfl,rfl,m,nd,h1⟩
  rw[b8,fj] at h1
  obtain⟨h2,h3⟩:=m.done fun u v hu a=>h1 u ((hb u).mpr hu) v a
  refine Bx (p:=lb) (n:=6) (ts:=Ah.map T.int) AD hlb' rfl ?_
  rw[show CF (Fp O l lb fs Ah) lb=Aa O l (fs.map AS) from Ax (by rw[AO hll];exact hlb')]
  exact AJ (AV 4 (ET.we (ev 6) (q _ _ _ fs Ah h2 h3)) Cb.nd)
theorem RJ{fd:dA}(F:Fun K "fars_from" "fars_from" IQ f fd):FnOk P w K mg base (CXe P w) 1 f fd ["nears","starts"] (Dl K NT):=by
 refine Aj F Cb ?_ ?_
 ·rintro ts O Φ Ξ ⟨n,rows,S,rfl,_⟩
  rfl
 ·rintro cdv A outer s H E O Ξ hr xf _ Φ ⟨n,rows,S,rfl,wn,hS,q⟩
  have sb:=Ab
  have n0:=wn.len
  have n1:=wn.n1
  refine AF (FI (i:=2) (nc:=["near"]) (cap:=[]) (by rfl) Cb.nd rfl (Bl (AA IQ) RH (by decide+kernel)) (EI.wi (Av (ev 0)) ?_))
  refine⟨fun i acc O'=>i≤200∧acc=(cY i (none:Option Nat)).map AS∧O=O',⟨by omega,rfl,rfl⟩,?_,?_⟩
  ·rintro i t acc _ c e ⟨_,rfl,rfl⟩ hc
   have hi:i<rows.length:=by
    have:=(cw.mp e).1
    simpa using this
   refine⟨[some t],fun X' Oe He is=> ⟨?_,Dc (Ih fun X' Oe He is=>?_)⟩⟩
   ·obtain⟨cl,s',H',fp,rfl⟩:=is
    exact AU 0 ZJ (by decide)
   ·obtain⟨cl,s',H',fp,rfl⟩:=is
    exact ET.we FB ⟨O,rfl,hc,by rw[b8,e9];omega,by omega,by rw[List.replicate_succ',dH];rfl,rfl⟩
  ·rintro acc _ ⟨_,rfl,rfl⟩ l hlO
   rw[b8]
   refine AF (BF Ae.own rfl (EI.wi (Av (ev 1)) ⟨fun j ρ' O'=>∃(fs:List (Option Nat)) (v3:Option T),ρ'=[some (Dn rows),some (.lst (S.map T.int)),some (.raw (.ref l)),v3,none,none,none,none,none]∧O'=Aa O l (fs.map AS)∧(fs.length:Int)=n∧∀v:Int,0≤v→v<n→∀d,fs[v.toNat]?=some (some d)↔(d=0∧v∈S.take j),⟨_,none,rfl,rfl,by rw[e9];omega,fun v v0 v1 d=>?_⟩,?_,?_⟩))
   ·rw[fm]
    simp
   ·rintro j t _ _ e ⟨fs,v3,rfl,rfl,hl,hf⟩
    rw[cg] at e
    cases ec:S[j]? with
    |none=>rw[ec] at e;cases e
    |some z=>
     rw[ec] at e
     cases e
     have hz:=hS z (cU ec)
     obtain⟨v,rfl⟩:=dE hz.1
     have hlt:v<fs.length:=by omega
     refine⟨[some (Dn rows),some (.lst (S.map T.int)),some (.raw (.ref l)),some (.int v),none,none,none,none,none],AU 3 Cb.nd (by show 3<9;decide),?_⟩
     refine AJ (Dx (ET.we AB (ET.we (ev 2) ⟨l,rfl,ET.we (ev 3) ⟨_,_,v,rfl,AD,by rw[b8];exact Ef hlt,?_⟩⟩)))
     refine⟨fs.set v (some 0),_,rfl,by rw[BC,i5];rfl,by rw[gG];exact hl,fun y y0 y1 d=>?_⟩
     rw[fu,ec]
     by_cases hy:y=(v:Int)
     ·subst hy
      rw[dS,dr hlt]
      simp[eq_comm]
     ·rw[dz (by omega),hf y y0 y1 d]
      simp[hy]
   ·rintro _ _ ⟨fs,v3,rfl,rfl,hl,hf⟩
    rw[b8,fj] at hf
    have fr:Fr n (Rw rows) S 0 fs:=JN hl hf
    refine AF (AV 4 (ET.we (ev 1) ?_) Cb.nd)
    refine AF (AV 5 (ET.we AB ?_) Cb.nd)
    refine AF (QZ Ae.own (fun m ρ' O'=>∃(k:Nat) (bs:List Int) (fs:List (Option Nat)) (v3 v6 v7 v8:Option T),ρ'=Fq n rows S l v3 bs k v6 v7 v8∧O'=Aa O l (fs.map AS)∧Fr n (Rw rows) S k fs∧(∀v,v∈bs↔IsD (Rw rows) S v k)∧m=n.toNat+1-k) ⟨_,0,S,fs,v3,none,none,none,rfl,rfl,fr,fun v=>RI.symm,rfl⟩ ?_)
    rintro m _ _ ⟨k,bs,fs,v3,v6,v7,v8,rfl,rfl,fr,hb,rfl⟩
    refine(show EB (zF P w K mg base f cdv A outer s H E O Ξ) (Fq n rows S l v3 bs k v6 v7 v8) (Aa O l (fs.map AS)) _ (!(bs.map T.int).isEmpty) from KN (t:=T.lst (bs.map T.int)) (ev 4) rfl) _ ?_
    cases bs with
    |nil=>
     refine La ?_
     have al:=fr.all_end fun v hv=>by
      have:=(hb v).mpr hv
      cases this
     refine Bx (p:=l) (n:=2) (ts:=fs.map AS) AD hlO rfl ?_
     rw[Ax hlO]
     exact AJ (AW (ET.we (ev 2) (q fs al)))
    |cons b bs'=>
     refine Ih (MM hlO wn hS fr hb fun v6 v7 v8 fs' Ah fr' hb'=> ⟨_,?_,k+1,Ah,fs',_,v6,v7,v8,rfl,rfl,fr',hb',rfl⟩)
     have:=((hb b).mp (by simp)).lt wn.hw hS
     omega
end
section
variable{P:Program}{w:World}{K:a8}{mg:Str→Option Value}{base:Heap}
def Ww:List Str:=["_law_web","_law_many","_law_far_here","_law_place","_law_size","_law_one","_law_other","_law_a","_law_b"]
theorem Fh:FnScope Ww ["_law_web"] (AA MJ):=⟨rfl,rfl,rfl,by decide+kernel,rfl,by decide+kernel,by decide+kernel⟩
abbrev Dg(O:AG)(l:Addr)(rs:List (Addr×List T))(p:Nat)(r:Addr×List T)(fs:List (Option Nat)):AG:=Aa (Fe O (rs.set p (r.1,fs.map AS))) l ((rs.set p (r.1,fs.map AS)).map Bf)
section
variable{O:AG}{l:Addr}{rs:List (Addr×List T)}{p:Nat}{r:Addr×List T}{fs gs:List (Option Nat)}
theorem RL{us:List T}(e:rs[p]?=some r):(rs.set p (r.1,us)).map Bf=rs.map Bf:=by
 have:=Bd (vs:=us) e
 have e1:∀rs:List (Addr×List T),rs.map Bf=(rs.map dX).map fun a=>T.raw (.ref a):=fun rs=>by rw[eu];rfl
 rw[e1,e1,this]
theorem RM{us:List T}(e:rs[p]?=some r)(nd:(rs.map dX).Nodup):((rs.set p (r.1,us)).map dX).Nodup:=by rw[Bd e];exact nd
theorem Wx{us:List T}(e:rs[p]?=some r)(ne:∀r∈rs,r.1≠l):∀r'∈rs.set p (r.1,us),r'.1≠l:=fun r' hr=>by
 have:r'.1∈(rs.set p (r.1,us)).map dX:=fK hr
 rw[Bd e] at this
 obtain⟨r2,h1,h2⟩:=df.mp this
 rw[←h2];exact ne r2 h1
theorem NU{us:List T}(e:rs[p]?=some r):(rs.set p (r.1,us))[p]?=some (r.1,us):=dr (cw.mp e).1
theorem NV(e:rs[p]?=some r):Dg O l rs p r fs l=some (rs.map Bf):=by
 show Aa _ l _ l=_
 rw[AD,RL e]
theorem NW(e:rs[p]?=some r)(nd:(rs.map dX).Nodup)(ne:∀r∈rs,r.1≠l):Dg O l rs p r fs r.1=some (fs.map AS):=by
 show Aa _ l _ r.1=_
 rw[AO (ne r (cU e))]
 exact CZ (r:=(r.1,fs.map AS)) (RM e nd) (cU (NU e))
theorem NX(e:rs[p]?=some r)(nd:(rs.map dX).Nodup)(ne:∀r∈rs,r.1≠l):Aa (Dg O l rs p r fs) r.1 (gs.map AS)=Dg O l rs p r gs:=by
 have:=Wv (O:=O) (us:=gs.map AS) (NU (us:=fs.map AS) e) (RM e nd) (Wx e ne)
 rw[List.set_set] at this
 exact this
end
theorem Tq{x:Option Nat}{k:Nat}{i:Int}(hi:i=(k:Int)):jr (dT (AS x)) (dT (.int i))=decide (x=some k):=by
 subst hi
 cases x with
 |none=>rfl
 |some d=>
  show((d:Int)==(k:Int))=decide (some d=some k)
  rw[i9]
  simp
  omega
theorem Tr{x:Option Nat}:DJ (AS x)=true:=by cases x<;> (unfold AS;rw[DJ])
theorem MN{x:Option Nat}:(dT (AS x)).depth≤100:=by cases x<;>simp[AS,dT,PyData.depth]
variable{f:Addr}{cdv:Value}{A:de}{outer:List Env}{s:Shared}{H:Hp}{E:XK}{O:AG}{Ξ:Value→AG→Prop}{n:Int}{ps:List (Int×Int)}{l:Addr}{rs:List (Addr×List T)}{p:Nat}{r:Addr×List T}
abbrev zG(P:Program)(w:World)(K:a8)(mg:Str→Option Value)(base:Heap)(f:Addr)(cdv:Value)(A:de)(outer:List Env)(s:Shared)(H:Hp)(E:XK)(O:AG)(Ξ:Value→AG→Prop):Zx:=zB P w K mg base Ww "_law_far" (AA MJ) f cdv A outer s H E O Ξ
abbrev Dh(n:Int)(ps:List (Int×Int))(l:Addr)(p:Nat)(v4 v5 v6 v7 v8:Option T):List (Option T):=[some (BU n ps),some (.int n),some (.raw (.ref l)),some (.int (0+(p:Int))),v4,v5,v6,v7,v8]
def ZK(i:Nat):Stmt:=(AY MJ).getD i (.Pass ⟨0,0,0,0⟩)
def XX(s:Stmt)(i:Nat):Stmt:=(Dm s).getD i (.Pass ⟨0,0,0,0⟩)
theorem NY{v5 v6:Option T}{k a b:Nat}{fs:List (Option Nat)}{Ah ds:List Int}{Φ:BL}{N Bk Ct:Fv}(hu:(zG P w K mg base f cdv A outer s H E O Ξ).X.A.units+101<cLine)(er:rs[p]?=some r)(nd:(rs.map dX).Nodup)(ne:∀r∈rs,r.1≠l)(ha:(a:Int)<n)(hb:(b:Int)<n)(m:Mid n ps [(p:Int)] k fs Ah ds)(ad:Adj ps a b)
  (q:∀fs Ah ds',Mid n ps [(p:Int)] k fs Ah ds'→(∀v∈ds,v∈ds')→(IsD ps [(p:Int)] a k→(b:Int)∈ds')→N (Dh n ps l p (some (.int (1+(k:Int)))) v5 v6 (some (.int a)) (some (.int b))) (Dg O l rs p r fs)):
  DS (zG P w K mg base f cdv A outer s H E O Ξ) (Dh n ps l p (some (.int (1+(k:Int)))) v5 v6 (some (.int a)) (some (.int b))) (Dg O l rs p r fs) (Dm (XX (XX (XX (ZK 2) 1) 0) 0)) {nx:=N,rt:=Φ,bk:=Bk,ct:=Ct}:=by
 have hl:=m.len
 have la:a<fs.length:=by omega
 have lb:b<fs.length:=by omega
 have er':(rs.map Bf)[p]?=some (.raw (.ref r.1)):=by rw[cg,er];rfl
 have gp:atI (rs.map Bf) (0+(p:Int))=some (.raw (.ref r.1)):=by rw[jz];exact BB er'
 have ga:atI (fs.map AS) (a:Int)=some (AS fs[a]):=BB (by rw[cg,cc la];rfl)
 have gb:atI (fs.map AS) (b:Int)=some (AS fs[b]):=BB (by rw[cg,cc lb];rfl)
 have ea:=m.eq a (by omega) ha
 rw[dS,cc la] at ea
 refine AJ (BY (k:=decide (fs[a]=some k)&&(fs[b]).isNone) (EW.eb (Dv (EB.cast (BN (Wc hu) (Au _) (Yk Tr (by rw[DJ]) MN) (BR (NW er nd ne) (BR (NV er) (ev 2) (ev 3) gp) (ev 7) ga) (Dt (ev 4) AB)) (Tq (by omega))) fun _=>Cw (EB.cast (JM HI (BR (NW er nd ne) (BR (NV er) (ev 2) (ev 3) gp) (ev 8) gb)) HJ))) (fun h=>?_) (fun h=>BS ?_))
 ·rw[eX] at h
  have h1:fs[a]=some k:=of_decide_eq_true h.1
  have hn:fs[(b:Int).toNat]?=some none:=by
   rw[dS,cc lb]
   cases z:fs[b] with
   |none=>rfl
   |some d=>rw[z] at h;cases h.2
  have ia:IsD ps [(p:Int)] a k:=by
   rcases(ea k).mp (by rw[h1]) with z|z
   ·exact z.2
   ·omega
  refine AJ (Dx (ET.we (ev 4) (ET.we (BR (NV er) (ev 2) (ev 3) gp) ⟨r.1,rfl,ET.we (ev 8) ⟨_,_,b,rfl,NW er nd ne,by rw[b8];exact Ef lb,?_⟩⟩)))
  have e1:(fs.map AS).set b (.int (1+(k:Int)))=(fs.set b (some (k+1))).map AS:=by
   rw[i5]
   congr 1
   show T.int _=T.int ((k+1:Nat):Int)
   congr 1
   omega
  rw[e1,NX er nd ne]
  have m2:=m.hit (v:=(b:Int)) (by omega) hb hn ia ad
  rw[dS] at m2
  exact q _ _ _ m2 (fun v hv=>eU _ hv) (fun _=>by simp)
 ·by_cases h1:fs[a]=some k
  ·rw[decide_eq_true h1,lN] at h
   cases z:fs[b] with
   |none=>rw[z] at h;cases h
   |some d=>exact q _ _ _ (m.miss (v:=(b:Int)) (by omega) hb (d:=d) (by rw[dS,cc lb,z])) (fun v hv=>eU _ hv) (fun _=>by simp)
  ·exact q _ _ _ m (fun v hv=>hv) (fun i=>absurd (dQ.inj ((ea k).mpr (.inl ⟨cW _,i⟩))) h1)
end
section
variable{P:Program}{w:World}{K:a8}{mg:Str→Option Value}{base:Heap}{f:Addr}{cdv:Value}{A:de}{outer:List Env}{s:Shared}{H:Hp}{E:XK}{O:AG}{Ξ:Value→AG→Prop}{n:Int}{ps:List (Int×Int)}{l:Addr}{rs:List (Addr×List T)}{p:Nat}{r:Addr×List T}
theorem Ts{v7 v8:Option T}{k c e:Nat}{fs:List (Option Nat)}{Ah ds:List Int}{Φ:BL}{N Bk Ct:Fv}(hu:(zG P w K mg base f cdv A outer s H E O Ξ).X.A.units+101<cLine)(er:rs[p]?=some r)(nd:(rs.map dX).Nodup)(ne:∀r∈rs,r.1≠l)(hc:(c:Int)<n)(he:(e:Int)<n)(m:Mid n ps [(p:Int)] k fs Ah ds)(ad:Adj ps c e)
  (q:∀v7 v8 fs Ah ds',Mid n ps [(p:Int)] k fs Ah ds'→(∀v∈ds,v∈ds')→(IsD ps [(p:Int)] c k→(e:Int)∈ds')→(IsD ps [(p:Int)] e k→(c:Int)∈ds')→N (Dh n ps l p (some (.int (1+(k:Int)))) (some (.int c)) (some (.int e)) v7 v8) (Dg O l rs p r fs)):
  DS (zG P w K mg base f cdv A outer s H E O Ξ) (Dh n ps l p (some (.int (1+(k:Int)))) (some (.int c)) (some (.int e)) v7 v8) (Dg O l rs p r fs) (Dm (XX (XX (ZK 2) 1) 0)) {nx:=N,rt:=Φ,bk:=Bk,ct:=Ct}:=by
 refine AJ (BF Ae.own rfl (EI.wi (Av (Bw (ts:=[((c:Int),(e:Int)),((e:Int),(c:Int))].map AC) (AZ (BG (ev 5) (ev 6)) (AZ (BG (ev 6) (ev 5)) AE)) (by show 2≤sizeLine;decide))) ⟨fun i ρ' O'=>∃v7 v8 fs Ah ds',ρ'=Dh n ps l p (some (.int (1+(k:Int)))) (some (.int c)) (some (.int e)) v7 v8∧O'=Dg O l rs p r fs∧Mid n ps [(p:Int)] k fs Ah ds'∧(∀v∈ds,v∈ds')∧(1≤i→IsD ps [(p:Int)] c k→(e:Int)∈ds')∧(2≤i→IsD ps [(p:Int)] e k→(c:Int)∈ds'),⟨v7,v8,fs,Ah,ds,rfl,rfl,m,fun _ h=>h,fun h=>by omega,fun h=>by omega⟩,?_,?_⟩))
 ·rintro i t _ _ et ⟨v7,v8,fs,Ah,ds',rfl,rfl,m,h0,h1,h2⟩
  match i,et with
  |0,et=>
   cases et
   exact⟨Dh n ps l p (some (.int (1+(k:Int)))) (some (.int c)) (some (.int e)) (some (.int c)) (some (.int e)),BD 7 8 rfl Fh.nd (by show 7<9;decide) (by show 8<9;decide),NY hu er nd ne hc he m ad fun fs Ah ds2 m2 g0 g1=> ⟨_,_,_,_,_,rfl,rfl,m2,fun v hv=>g0 v (h0 v hv),fun _=>g1,fun h=>by omega⟩⟩
  |1,et=>
   cases et
   exact⟨Dh n ps l p (some (.int (1+(k:Int)))) (some (.int c)) (some (.int e)) (some (.int e)) (some (.int c)),BD 7 8 rfl Fh.nd (by show 7<9;decide) (by show 8<9;decide),NY hu er nd ne he hc m ad.symm fun fs Ah ds2 m2 g0 g1=> ⟨_,_,_,_,_,rfl,rfl,m2,fun v hv=>g0 v (h0 v hv),fun _ z=>g0 _ (h1 (cW _) z),fun _=>g1⟩⟩
  |i+2,et=>simp at et
 ·rintro _ _ ⟨v7,v8,fs,Ah,ds',rfl,rfl,m,h0,h1,h2⟩
  exact q v7 v8 fs Ah ds' m h0 (h1 (by simp)) (h2 (by simp))
theorem RN{v5 v6 v7 v8:Option T}{k:Nat}{fs:List (Option Nat)}{Φ:BL}{N Bk Ct:Fv}(hu:(zG P w K mg base f cdv A outer s H E O Ξ).X.A.units+101<cLine)(hw:Ff n ps)(er:rs[p]?=some r)(nd:(rs.map dX).Nodup)(ne:∀r∈rs,r.1≠l)(h:Fr n ps [(p:Int)] k fs)
  (q:∀v5 v6 v7 v8 fs,Fr n ps [(p:Int)] (k+1) fs→N (Dh n ps l p (some (.int (1+(k:Int)))) v5 v6 v7 v8) (Dg O l rs p r fs)):
  DS (zG P w K mg base f cdv A outer s H E O Ξ) (Dh n ps l p (some (.int (1+(k:Int)))) v5 v6 v7 v8) (Dg O l rs p r fs) (Dm (XX (ZK 2) 1)) {nx:=N,rt:=Φ,bk:=Bk,ct:=Ct}:=by
 refine AJ (BF Ae.own rfl (EI.wi (Cz (Af (ev 0) AB)) ⟨fun j ρ' O'=>∃v5 v6 v7 v8 fs Ah ds,ρ'=Dh n ps l p (some (.int (1+(k:Int)))) v5 v6 v7 v8∧O'=Dg O l rs p r fs∧Mid n ps [(p:Int)] k fs Ah ds∧∀z∈ps.take j,(IsD ps [(p:Int)] z.1 k→z.2∈ds)∧(IsD ps [(p:Int)] z.2 k→z.1∈ds),⟨v5,v6,v7,v8,fs,[],[],rfl,rfl,h.mid,fun z hz=>by simp at hz⟩,?_,?_⟩))
 ·rintro j t _ _ e ⟨v5,v6,v7,v8,fs,Ah,ds,rfl,rfl,m,h1⟩
  rw[cg] at e
  cases ec:ps[j]? with
  |none=>rw[ec] at e;cases e
  |some z=>
   rw[ec] at e
   cases e
   have hz:=cU ec
   have hb:=hw z hz
   obtain⟨a,b⟩:=z
   simp only at hb
   obtain⟨c,rfl⟩:=dE hb.1
   obtain⟨e,rfl⟩:=dE (show 0≤b by omega)
   refine⟨Dh n ps l p (some (.int (1+(k:Int)))) (some (.int c)) (some (.int e)) v7 v8,BD 5 6 rfl Fh.nd (by show 5<9;decide) (by show 6<9;decide),Ts hu er nd ne (by omega) hb.2.2 m (.inl hz) fun v7 v8 fs Ah ds2 m2 g0 g1 g2=> ⟨_,_,_,_,_,_,_,rfl,rfl,m2,fun y hy=>?_⟩⟩
   rw[fu,ec] at hy
   rcases dt.mp hy with hy|hy
   ·exact⟨fun i=>g0 _ ((h1 y hy).1 i),fun i=>g0 _ ((h1 y hy).2 i)⟩
   ·have:y=((c:Int),(e:Int)):=by simpa using hy
    subst this
    exact⟨g1,g2⟩
 ·rintro _ _ ⟨v5,v6,v7,v8,fs,Ah,ds,rfl,rfl,m,h1⟩
  rw[b8,fj] at h1
  exact q v5 v6 v7 v8 fs (m.done fun u v i a=>by
   rcases a with a|a
   ·exact(h1 _ a).1 i
   ·exact(h1 _ a).2 i).1
theorem Oh{v4 v5 v6 v7 v8:Option T}{Φ:BL}{N Bk Ct:Fv}(Tx:Txt mg)(hu:(zG P w K mg base f cdv A outer s H E O Ξ).X.A.units+101<cLine)(wn:WebN n ps)(hp:(p:Int)<n)(er:rs[p]?=some r)(nd:(rs.map dX).Nodup)(ne:∀r∈rs,r.1≠l)
  (q:∀v4 v5 v6 v7 v8 fs,All n ps [(p:Int)] fs→N (Dh n ps l p v4 v5 v6 v7 v8) (Dg O l rs p r fs)):
  DS (zG P w K mg base f cdv A outer s H E O Ξ) (Dh n ps l p v4 v5 v6 v7 v8) (Dg O l rs p r (cY n.toNat none)) (Dm (ZK 2)) {nx:=N,rt:=Φ,bk:=Bk,ct:=Ct}:=by
 have n0:=wn.n0
 have n1:=wn.n1
 have hpl:p<n.toNat:=by omega
 have er':(rs.map Bf)[p]?=some (.raw (.ref r.1)):=by rw[cg,er];rfl
 have gp:atI (rs.map Bf) (0+(p:Int))=some (.raw (.ref r.1)):=by rw[jz];exact BB er'
 refine AF (Dx (ET.we AB (ET.we (BR (NV er) (ev 2) (ev 3) gp) ⟨r.1,rfl,ET.we (ev 3) ⟨_,_,p,rfl,NW er nd ne,by rw[b8,e9,jz];exact Ef hpl,?_⟩⟩)))
 have e1:((cY n.toNat (none:Option Nat)).map AS).set p (.int 0)=((cY n.toNat none).set p (some 0)).map AS:=by rw[i5];rfl
 rw[e1,NX er nd ne]
 have hS:∀z∈[(p:Int)],0≤z∧z<n:=fun z hz=>by rw[cq.mp hz];omega
 have fr:Fr n ps [(p:Int)] 0 ((cY n.toNat none).set p (some 0)):=JN (by rw[gG,e9];omega) fun v v0 v1 d=>by
  by_cases hv:v=(p:Int)
  ·subst hv
   rw[dS,dr (by rw[e9];exact hpl)]
   simp[eq_comm]
  ·rw[dz (by omega),fm]
   simp[hv]
 refine AJ (BF Ae.own rfl (EI.wi (Ci Tx.nRange AB (ev 1) ⟨by decide,by decide,by omega,by omega⟩) ⟨fun j ρ' O'=>∃v4 v5 v6 v7 v8 fs,ρ'=Dh n ps l p v4 v5 v6 v7 v8∧O'=Dg O l rs p r fs∧Fr n ps [(p:Int)] j fs,⟨_,_,_,_,_,_,rfl,rfl,fr⟩,?_,?_⟩))
 ·rintro j t _ _ e ⟨v4,v5,v6,v7,v8,fs,rfl,rfl,fr⟩
  obtain⟨hj,rfl⟩:=Ao e
  exact⟨Dh n ps l p (some (.int (1+(j:Int)))) v5 v6 v7 v8,AU 4 Fh.nd (by show 4<9;decide),RN hu wn.hw er nd ne fr fun v5 v6 v7 v8 fs fr'=> ⟨_,_,_,_,_,_,rfl,rfl,fr'⟩⟩
 ·rintro _ _ ⟨v4,v5,v6,v7,v8,fs,rfl,rfl,fr⟩
  rw[Ad] at fr
  exact q v4 v5 v6 v7 v8 fs (fr.all_n wn.hw hS (by omega))
end
section
variable{P:Program}{w:World}{K:a8}{mg:Str→Option Value}{base:Heap}
def ZL(FL:List (List (Option Nat))):T:=.lst (FL.map fun fs=> .lst (fs.map AS))
structure FarL(n:Int)(ps:List (Int×Int))(FL:List (List (Option Nat))):Prop where
 len:(FL.length:Int)=n
 all:∀(i:Nat) fs,FL[i]?=some fs→All n ps [(i:Int)] fs
def Up:DR:=fun ts O Φ _=>∃n ps,ts=[BU n ps]∧WebN n ps∧∀FL,FarL n ps FL→Φ (ZL FL) O
theorem ZM:(Ak ["_law_place"] [(("_law_many" :Str),1)]).Nodup:=by decide+kernel
theorem RO{α:Type}{xs:List α}{i:Nat}{x:α}(h:xs[i]?=some x):xs.set i x=xs:=by
 apply fv
 intro m
 by_cases hm:i=m
 ·subst hm
  rw[dr (cw.mp h).1,h]
 ·rw[dz hm]
theorem Wy{f:Addr}{fd:dA}(F:Fun K "_law_far" "_law_far" MJ f fd)(Tx:Txt mg):FnOk P w K mg base (CXe P w) 1 f fd ["_law_web"] (Dl K Up):=by
 refine Aj F Fh ?_ ?_
 ·rintro ts O Φ Ξ ⟨n,ps,rfl,_⟩
  rfl
 ·rintro cdv A outer s H E O Ξ hr xf _ Φ ⟨n,ps,rfl,wn,q⟩
  have sb:=Ab
  have n0:=wn.n0
  have n1:=wn.n1
  have hu:(A.deeper (hZ "_law_far" (AA MJ) s.heap.objs.size f cdv)).units+101<cLine:=by have:=hr.un;omega
  refine AF (AV 1 (ET.we (Af (ev 0) AB) ?_) Fh.nd)
  refine AF (FI (i:=2) (nc:=["_law_place"]) (cap:=[("_law_many",1)]) (by rfl) Fh.nd rfl (Bl (AA MJ) Ww (by decide+kernel)) (EI.wi (Ap Tx.nRange (ev 1) ⟨by omega,by omega⟩) ?_))
  refine⟨fun i acc O'=>i≤200∧∃as:List Addr,acc=(as.map fun a=> (a,(cY n.toNat (none:Option Nat)).map AS)).map Bf∧as.length=i∧as.Nodup∧(∀a∈as,O a=none)∧O'=Fe O (as.map fun a=> (a,(cY n.toNat (none:Option Nat)).map AS)),⟨by omega,[],rfl,rfl,by simp,(fun _ h=>by cases h),rfl⟩,?_,?_⟩
  ·rintro i t acc O' c e ⟨_,as,rfl,hal,hnd,hfr,rfl⟩ hc
   obtain⟨hi,rfl⟩:=Ao e
   refine⟨[some (.int (0+(i:Int))),some (.int n)],fun X' Oe He is=> ⟨?_,Dc (Ih fun X' Oe He is=>?_)⟩⟩
   ·obtain⟨cl,s',H',fp,rfl⟩:=is
    exact AU 0 ZM (by decide)
   ·obtain⟨cl,s',H',fp,rfl⟩:=is
    refine TK (Bw (AZ FB AE) (by show 1≤sizeLine;decide)) (ev 1) ⟨by omega,by omega⟩ fun p hp=>?_
    have hpc:p≠c:=fun z=>by rw[z,AD] at hp;cases hp
    rw[AO hpc] at hp
    have hk:((as.map fun a=> (a,(cY n.toNat (none:Option Nat)).map AS)).map dX)=as:=by rw[eu];simp[jY]
    have hpa:p∉as:=fun z=>by
     rw[CZ (r:=(p,(cY n.toNat (none:Option Nat)).map AS)) (by rw[hk];exact hnd) (fK (f:=fun a=> (a,(cY n.toNat (none:Option Nat)).map AS)) z)] at hp
     cases hp
    have hpO:O p=none:=by
     rw[CK fun r hr=>by
      obtain⟨a,ha,rfl⟩:=df.mp hr
      exact fun z=>hpa (z▸ha)] at hp
     exact hp
    have er:cY n.toNat T.non=(cY n.toNat (none:Option Nat)).map AS:=by rw[List.map_replicate];rfl
    rw[er]
    refine⟨Aa (Fe O (as.map fun a=> (a,(cY n.toNat (none:Option Nat)).map AS))) p ((cY n.toNat (none:Option Nat)).map AS),BJ hpc,by rw[AO hpc.symm];exact hc,by rw[b8,b8];omega,by omega,as++[p],by rw[dH,dH];rfl,by simp;omega,?_,fun a ha=>?_,?_⟩
    ·rw[eY]
     refine⟨hnd,by simp,fun a ha b hb z=>?_⟩
     rw[cq.mp hb] at z
     exact hpa (z▸ha)
    ·rcases dt.mp ha with ha|ha
     ·exact hfr a ha
     ·rw[cq.mp ha];exact hpO
    ·rw[dH];exact(Kc (r:=(p,(cY n.toNat (none:Option Nat)).map AS))).symm
  ·rintro acc O' ⟨_,as,rfl,hal,hnd,hfr,rfl⟩ l hlO
   rw[Ad] at hal
   have hk:((as.map fun a=> (a,(cY n.toNat (none:Option Nat)).map AS)).map dX)=as:=by rw[eu];simp[jY]
   have hne:∀r∈(as.map fun a=> (a,(cY n.toNat (none:Option Nat)).map AS)),r.1≠l:=fun r hr z=>by
    rw[←z,CZ (by rw[hk];exact hnd) hr] at hlO
    cases hlO
   have hlO':O l=none:=by rw[CK hne] at hlO;exact hlO
   refine AF (BF Ae.own rfl (EI.wi (Ap Tx.nRange (ev 1) ⟨by omega,by omega⟩) ⟨fun j ρ' O'=>∃(rs:List (Addr×List T)) (FL:List (List (Option Nat))) (v3 v4 v5 v6 v7 v8:Option T),ρ'=[some (BU n ps),some (.int n),some (.raw (.ref l)),v3,v4,v5,v6,v7,v8]∧O'=Aa (Fe O rs) l (rs.map Bf)∧rs.map dX=as∧rs.map jU=FL.map (fun fs=>fs.map AS)∧∀(i:Nat) fs,FL[i]?=some fs→(i<j→All n ps [(i:Int)] fs)∧(j≤i→fs=cY n.toNat none),
    ⟨_,cY as.length (cY n.toNat none),none,none,none,none,none,none,rfl,rfl,hk,?_,fun i fs e=> ⟨fun h=>by omega,fun _=>?_⟩⟩,?_,?_⟩))
   ·have rep:∀(bs:List Addr) (x:List (Option Nat)),(bs.map fun a=> (a,x.map AS)).map jU=(cY bs.length x).map fun fs=>fs.map AS:=fun bs x=>by
     induction bs with
     |nil=>rfl
     |cons b bs ih=>
      rw[dv,dv,ih]
      rfl
    exact rep as _
   ·rw[fm] at e
    split at e
    ·cases e;rfl
    ·cases e
   ·rintro j t _ _ e ⟨rs,FL,v3,v4,v5,v6,v7,v8,rfl,rfl,h1,h2,h3⟩
    obtain⟨hj,rfl⟩:=Ao e
    have hrl:rs.length=n.toNat:=by rw[←b8 (f:=dX),h1];exact hal
    have hjr:j<rs.length:=by omega
    have gj:=cc hjr
    have hfl:FL.length=rs.length:=by have:=congrArg List.length h2;simp at this;omega
    have gf:=cc (l:=FL) (i:=j) (by omega)
    have hrow:rs[j].2=(cY n.toNat (none:Option Nat)).map AS:=by
     have:(rs.map jU)[j]?=(FL.map fun fs=>fs.map AS)[j]?:=by rw[h2]
     rw[cg,gj,cg,gf,(h3 j _ gf).2 (cW _)] at this
     exact dQ.inj this
    have nd:(rs.map dX).Nodup:=by rw[h1];exact hnd
    have ne:∀r∈rs,r.1≠l:=fun r hr z=>by
     have:r.1∈as:=by rw[←h1];exact fK hr
     exact hne (r.1,_) (fK (f:=fun a=> (a,(cY n.toNat (none:Option Nat)).map AS)) this) z
    have e0:rs.set j (rs[j].1,(cY n.toNat (none:Option Nat)).map AS)=rs:=by
     rw[←hrow];exact RO gj
    refine⟨Dh n ps l j v4 v5 v6 v7 v8,AU 3 Fh.nd (by show 3<9;decide),?_⟩
    have st:=Oh (P:=P) (w:=w) (K:=K) (base:=base) (f:=f) (cdv:=cdv) (A:=A) (outer:=outer) (s:=s) (H:=H) (E:=E) (O:=O) (Ξ:=Ξ) (v4:=v4) (v5:=v5) (v6:=v6) (v7:=v7) (v8:=v8) (Φ:=Φ) (N:=fun ρ' O'=>∃(rs:List (Addr×List T)) (FL:List (List (Option Nat))) (v3 v4 v5 v6 v7 v8:Option T),ρ'=[some (BU n ps),some (.int n),some (.raw (.ref l)),v3,v4,v5,v6,v7,v8]∧O'=Aa (Fe O rs) l (rs.map Bf)∧rs.map dX=as∧rs.map jU=FL.map (fun fs=>fs.map AS)∧∀(i:Nat) fs,FL[i]?=some fs→(i<j+1→All n ps [(i:Int)] fs)∧(j+1≤i→fs=cY n.toNat none)) (Bk:=fun ρ' O'=>DS (zG P w K mg base f cdv A outer s H E O Ξ) ρ' O' [ZK 3] {nx:=fun _ O'=>Φ .non O',rt:=Φ}) (Ct:=fun ρ' O'=>∃(rs:List (Addr×List T)) (FL:List (List (Option Nat))) (v3 v4 v5 v6 v7 v8:Option T),ρ'=[some (BU n ps),some (.int n),some (.raw (.ref l)),v3,v4,v5,v6,v7,v8]∧O'=Aa (Fe O rs) l (rs.map Bf)∧rs.map dX=as∧rs.map jU=FL.map (fun fs=>fs.map AS)∧∀(i:Nat) fs,FL[i]?=some fs→(i<j+1→All n ps [(i:Int)] fs)∧(j+1≤i→fs=cY n.toNat none)) Tx hu wn (by omega) gj nd ne (fun v4 v5 v6 v7 v8 fs al=> ⟨_,FL.set j fs,_,_,_,_,_,_,rfl,rfl,by rw[Bd gj];exact h1,by rw[i5,h2,i5],fun i gs e=>?_⟩)
    ·have eo:Dg O l rs j rs[j] (cY n.toNat none)=Aa (Fe O rs) l (rs.map Bf):=by
      show Aa (Fe O (rs.set j (rs[j].1,(cY n.toNat (none:Option Nat)).map AS))) l ((rs.set j (rs[j].1,(cY n.toNat (none:Option Nat)).map AS)).map Bf)=_
      rw[e0]
     rw[←eo]
     exact st
    ·by_cases hi:j=i
     ·subst hi
      rw[dr (by omega)] at e
      cases e
      exact⟨fun _=>al,fun h=>by omega⟩
     ·rw[dz hi] at e
      obtain⟨g1,g2⟩:=h3 i gs e
      exact⟨fun h=>g1 (by omega),fun h=>g2 (by omega)⟩
   ·rintro _ _ ⟨rs,FL,v3,v4,v5,v6,v7,v8,rfl,rfl,h1,h2,h3⟩
    rw[Ad] at h3
    have hrl:rs.length=n.toNat:=by rw[←b8 (f:=dX),h1];exact hal
    have hfl:FL.length=rs.length:=by have:=congrArg List.length h2;simp at this;omega
    have nd:(rs.map dX).Nodup:=by rw[h1];exact hnd
    have mem:∀r∈rs,r.1∈as:=fun r hr=>by rw[←h1];exact fK hr
    refine Kg nd (fun r hr=>hne (r.1,(cY n.toNat (none:Option Nat)).map AS) (fK (f:=fun a=> (a,(cY n.toNat (none:Option Nat)).map AS)) (mem r hr))) (fun r hr=>hfr _ (mem r hr)) (fun r hr=>hfr _ (mem r hr)) ?_
    refine Bx (p:=l) (n:=2) (ts:=rs.map fun r=>T.lst r.2) AD hlO' rfl ?_
    rw[Ax hlO']
    refine AJ (AW (ET.we (ev 2) ?_))
    show Φ (T.lst (rs.map fun r=>T.lst r.2)) O
    have:(rs.map fun r=>T.lst r.2)=FL.map fun fs=>T.lst (fs.map AS):=by
     have e1:(rs.map fun r=>T.lst r.2)=(rs.map jU).map T.lst:=by rw[eu];rfl
     rw[e1,h2,eu];rfl
    rw[this]
    exact q FL ⟨by omega,fun i fs e=> (h3 i fs e).1 (by have:=(cw.mp e).1;omega)⟩
end
theorem JY{n:Int}{ps:List (Int×Int)}{i:Nat}(hw:Ff n ps)(hp:ps.Pairwise FF):(BO ps i).Pairwise (· < ·):=by
 unfold BO
 rw[List.pairwise_filterMap]
 refine fI ?_ hp
 intro p q hp hq h x hx y hy
 have a:=hw p hp
 have b:=hw q hq
 unfold FF at h
 have f:∀(r:Int×Int) (z:Int),(if r.1=(i:Int) then some r.2 else if r.2=(i:Int) then some r.1 else none)=some z→(r.1=(i:Int)∧r.2=z)∨(r.1≠(i:Int)∧r.2=(i:Int)∧r.1=z):=fun r z e=>by
  by_cases h:r.1=(i:Int)
  ·rw[if_pos h] at e
   cases e
   exact .inl ⟨h,rfl⟩
  ·rw[if_neg h] at e
   by_cases h2:r.2=(i:Int)
   ·rw[if_pos h2] at e
    cases e
    exact .inr ⟨h,h2,rfl⟩
   ·rw[if_neg h2] at e;cases e
 rcases f p x hx with c|c<;>rcases f q y hy with d|d<;>omega
def mm(p:Int×Int):Int×Int:=(min p.1 p.2,max p.1 p.2)
section
variable{P:Program}{w:World}{K:a8}{mg:Str→Option Value}{base:Heap}{CP CL:Addr}
theorem Wz:(Ak ["a","b"] []).Nodup:=by decide+kernel
def Ky:DR:=fun ts O Φ _=>∃ps:List (Int×Int),ts=[.lst (ps.map AC)]∧ps.length≤300∧(∀p∈ps,(0≤p.1∧p.1<65536)∧0≤p.2∧p.2<65536)∧
 ∀qs:List (Int×Int),qs.Pairwise FF→(∀q,q∈qs↔q∈ps.map mm)→qs.length≤ps.length→Φ (.tup (qs.map AC)) O
theorem RQ:FnScope ["pairs"] ["pairs"] (AA Ec):=⟨rfl,rfl,rfl,by decide+kernel,rfl,by decide+kernel,by decide+kernel⟩
theorem MO{f:Addr}{fd:dA}(F:Fun K "ties_of" "ties_of" Ec f fd)(Tx:Txt mg):FnOk P w K mg base (CXe P w) 1 f fd ["pairs"] (Dl K Ky):=by
 refine Aj F RQ ?_ ?_
 ·rintro ts O Φ Ξ ⟨ps,rfl,_⟩
  rfl
 ·rintro cdv A outer s H E O Ξ hr xf _ Φ ⟨ps,rfl,hl,hp,q⟩
  have hu:(A.deeper (hZ "ties_of" (AA Ec) s.heap.objs.size f cdv)).units+8<cLine:=by have:=hr.un;omega
  have hz:ps.length≤sizeLine:=dZ hl (by decide)
  refine AJ (AW (Ba Tx.nTuple (DA (ps:=ps.map mm) Tx.nSorted Tx.nSet rfl hu ?_ (by simpa using hl) ?_ fun qs h1 h2 h3=> ⟨_,rfl,q qs h1 h2 (by simpa using h3)⟩)))
  ·rw[eu]
   refine By ["a","b"] [] ps AC _ rfl (Bl (AA Ec) ["pairs"] (by decide+kernel)) (Av (ev 0)) hz fun x hx=> ⟨[some (.int x.1),some (.int x.2)],fun X' Oe He is O'=>?_⟩
   obtain⟨cl,s',H',fp,rfl⟩:=is
   exact⟨BD 0 1 rfl Wz (by decide) (by decide),BX (AZ (NG Tx.nMin rfl (ev 0) (ev 1)) (AZ (JJ Tx.nMax rfl (ev 0) (ev 1)) AE))⟩
  ·intro z hz
   obtain⟨p,h1,rfl⟩:=df.mp hz
   have:=hp p h1
   show 0≤max _ _∧max _ _<65536
   omega
end
theorem cM:dY "ValueError" =some (.type "ValueError"):=by decide+kernel
theorem Eg{H H':Hp}{p:Addr}{o:HO}(s:Same H H')(hp:H' p=none):Same H (upd H' p o):=fun b u e=>by
 rw[AH (AR (s b u e) hp)];exact s b u e
structure Asks(K:a8)(mg:Str→Option Value)(CN:Addr)(x:Str)(b:Bool):Prop where
 ex:∃C,mg x=some (.ref C)∧du K (.ref CN) (.ref C)=some b
structure Kinds(K:a8)(mg:Str→Option Value)(CN:Addr)(b0 b1 b2 b3 b4 b5 b6 b7:Bool):Prop where
 a0:Asks K mg CN "NoPlace" b0
 a1:Asks K mg CN "NoNumber" b1
 a2:Asks K mg CN "NoLine" b2
 a3:Asks K mg CN "NoRing" b3
 a4:Asks K mg CN "NotEven" b4
 a5:Asks K mg CN "NoWeb" b5
 a6:Asks K mg CN "NoText" b6
 a7:Asks K mg CN "TooGreat" b7
 ve:du K (.ref CN) (.type "ValueError")=some true
 eN:ExcCls K CN
section
variable{P:Program}{w:World}{K:a8}{mg:Str→Option Value}{base:Heap}{CP:Addr}
theorem MP:FnScope ["_law_e","_law_marks"] ["_law_e"] (AA NO):=⟨rfl,rfl,rfl,by decide+kernel,rfl,by decide+kernel,by decide+kernel⟩
theorem Tt{f:Addr}{fd:dA}{b0 b1 b2 b3 b4 b5 b6 b7:Bool}{y:Str}{j:Nat}(F:Fun K "_law_kind_of" "_law_kind_of" NO f fd)(T:Txt mg)(U:Kinds K mg CP b0 b1 b2 b3 b4 b5 b6 b7)(hc:(([.bl b0,.bl b1,.bl b2,.bl b3]++[.bl b4,.bl b5,.bl b6,.bl b7]:List V).countP fun z=>LL z (.bl true))=1)(hj:([.bl b0,.bl b1,.bl b2,.bl b3]++[.bl b4,.bl b5,.bl b6,.bl b7]:List V)[j]?=some (.bl true))(hno:∀m z,m<j→([.bl b0,.bl b1,.bl b2,.bl b3]++[.bl b4,.bl b5,.bl b6,.bl b7]:List V)[m]?=some z→LL z (.bl true)=false)(hw:([.str "place",.str "number",.str "line",.str "ring",.str "even",.str "web",.str "text",.str "great"]:List V)[j]?=some (.str y)):FnH P w K mg base 1 f fd ["_law_e"] (JL CP y):=by
 obtain⟨c0,m0,k0⟩:=U.a0.ex
 obtain⟨c1,m1,k1⟩:=U.a1.ex
 obtain⟨c2,m2,k2⟩:=U.a2.ex
 obtain⟨c3,m3,k3⟩:=U.a3.ex
 obtain⟨c4,m4,k4⟩:=U.a4.ex
 obtain⟨c5,m5,k5⟩:=U.a5.ex
 obtain⟨c6,m6,k6⟩:=U.a6.ex
 obtain⟨c7,m7,k7⟩:=U.a7.ex
 refine F.okH MP (fun vs H Q E h=>?_) (fun cdv A outer s H vs Q hr h=>?_)
 ·obtain⟨x,rfl,_⟩:=h
  rfl
 ·obtain⟨x,rfl,hx,k⟩:=h
  refine⟨_,Cd (LO (i:=1) MP.nd rfl (ku rfl) (GP
    (AM (Aw BH (by rfl) T.nIsi Hb (AM (pv 0) (AM (Bh (v:=.ref c0) (by rfl) m0 rfl) Ay)))
    (AM (Aw BH (by rfl) T.nIsi Hb (AM (pv 0) (AM (Bh (v:=.ref c1) (by rfl) m1 rfl) Ay)))
    (AM (Aw BH (by rfl) T.nIsi Hb (AM (pv 0) (AM (Bh (v:=.ref c2) (by rfl) m2 rfl) Ay)))
    (AM (Aw BH (by rfl) T.nIsi Hb (AM (pv 0) (AM (Bh (v:=.ref c3) (by rfl) m3 rfl) Ay))) Ay))))))
   (Cd (LO (i:=1) MP.nd rfl (ku rfl) (UL LZ (pv 1) (GP
    (AM (Aw BH (by rfl) T.nIsi Hb (AM (pv 0) (AM (Bh (v:=.ref c4) (by rfl) m4 rfl) Ay)))
    (AM (Aw BH (by rfl) T.nIsi Hb (AM (pv 0) (AM (Bh (v:=.ref c5) (by rfl) m5 rfl) Ay)))
    (AM (Aw BH (by rfl) T.nIsi Hb (AM (pv 0) (AM (Bh (v:=.ref c6) (by rfl) m6 rfl) Ay)))
    (AM (Aw BH (by rfl) T.nIsi Hb (AM (pv 0) (AM (Bh (v:=.ref c7) (by rfl) m7 rfl) Ay))) Ay)))))))
   (Cd (Ow (UJ (Ou (Ji (Aw BH (by rfl) T.nIsi Hb (AM (pv 0) (AM (Ma (v:=.ty "ValueError") (by rfl) T.nVE cM rfl) Ay))) (fun _=>rfl)))
     (Ot (Ie Me (PM iS PySem.F.slot_list_count PySem.F.type_list_count Pb (pv 1) (AM Os Ay)) LN (Au _)))).pt
     (DW (Ep CQ)) Ia)
   (DW (Ep (PK EJ (GP (AM CQ (AM CQ (AM CQ (AM CQ (AM CQ (AM CQ (AM CQ (AM CQ Ay)))))))))
    (PM iS PySem.F.slot_list_index PySem.F.type_list_index Pc (pv 1) (AM Os Ay)) (fun _ _=>rfl)))))),?_⟩
  refine⟨_,rfl,_,.ref c0,_,_,b0,rfl,rfl,.inr ⟨x,CP,rfl,rfl,hx,U.eN⟩,k0,?_⟩
  refine⟨_,rfl,_,.ref c1,_,_,b1,rfl,rfl,.inr ⟨x,CP,rfl,rfl,hx,U.eN⟩,k1,?_⟩
  refine⟨_,rfl,_,.ref c2,_,_,b2,rfl,rfl,.inr ⟨x,CP,rfl,rfl,hx,U.eN⟩,k2,?_⟩
  refine⟨_,rfl,_,.ref c3,_,_,b3,rfl,rfl,.inr ⟨x,CP,rfl,rfl,hx,U.eN⟩,k3,(by show 4≤sizeLine;decide),fun p hp=>?_⟩
  have hx1:Rd (upd H p (.lst [.bl b0,.bl b1,.bl b2,.bl b3])) x (Dp CP x):=hx.upd hp
  refine⟨_,rfl,?_⟩
  refine⟨_,rfl,_,.ref c4,_,_,b4,rfl,rfl,.inr ⟨x,CP,rfl,rfl,hx1,U.eN⟩,k4,?_⟩
  refine⟨_,rfl,_,.ref c5,_,_,b5,rfl,rfl,.inr ⟨x,CP,rfl,rfl,hx1,U.eN⟩,k5,?_⟩
  refine⟨_,rfl,_,.ref c6,_,_,b6,rfl,rfl,.inr ⟨x,CP,rfl,rfl,hx1,U.eN⟩,k6,?_⟩
  refine⟨_,rfl,_,.ref c7,_,_,b7,rfl,rfl,.inr ⟨x,CP,rfl,rfl,hx1,U.eN⟩,k7,(by show 4≤sizeLine;decide),fun p2 hp2=>?_⟩
  have np:p≠p2:=fun z=>by rw[z,AI] at hp2;cases hp2
  refine⟨p,p2,_,_,rfl,rfl,(by rw[AH np];exact AI),AI,(by show 8≤sizeLine;decide),fun p3 hp3=>?_⟩
  have s1:Same H (upd H p (.lst [.bl b0,.bl b1,.bl b2,.bl b3])):=Eg (Same.refl H) hp
  have s2:=Eg (o:=.lst [.bl b4,.bl b5,.bl b6,.bl b7]) s1 hp2
  have s3:=Eg (o:=.lst ([.bl b0,.bl b1,.bl b2,.bl b3]++[.bl b4,.bl b5,.bl b6,.bl b7])) s2 hp3
  refine⟨_,rfl,_,.ty "ValueError",_,_,true,rfl,rfl,.inr ⟨x,CP,rfl,rfl,hx.same s3,U.eN⟩,U.ve,true,rfl,?_⟩
  refine La ?_
  refine⟨_,rfl,.inl ⟨rfl,_,SqL.of AI⟩,p3,_,_,rfl,rfl,SqL.of AI,rfl,rfl,rfl,_,rfl,?_⟩
  have ec:(!decide (V.int ((([.bl b0,.bl b1,.bl b2,.bl b3]++[.bl b4,.bl b5,.bl b6,.bl b7]:List V).countP fun z=>LL z (.bl true):Nat):Int)=V.int 1))=false:=by rw[hc];rfl
  rw[ec]
  refine La ?_
  refine⟨(by show 8≤sizeLine;decide),fun p4 hp4=>?_⟩
  have n4:p3≠p4:=fun z=>by rw[z,AI] at hp4;cases hp4
  refine⟨_,rfl,.inl ⟨rfl,_,SqL.of (by rw[AH n4];exact AI)⟩,p3,_,_,j,rfl,rfl,SqL.of (by rw[AH n4];exact AI),rfl,rfl,⟨.bl true,hj,rfl⟩,hno,?_⟩
  exact⟨p4,_,(j:Int),_,rfl,rfl,SqL.of AI,BB hw,k _ (Eg s3 hp4)⟩
theorem ZN{xs:List V}{j:Nat}(h:((dN j).all fun m=>match xs[m]? with|some z=>!LL z (.bl true)|none=>true)=true):∀m z,m<j→xs[m]?=some z→LL z (.bl true)=false:=fun m z hm e=>by
 have:=kh.mp h m (e8.mpr hm)
 rw[e] at this
 simpa using this
theorem Hf{f:Addr}{fd:dA}(F:Fun K "_law_kind_of" "_law_kind_of" NO f fd)(T:Txt mg)(U:Kinds K mg CP false false false false false false false true):FnH P w K mg base 1 f fd ["_law_e"] (JL CP "great"):=Tt (j:=7) F T U rfl rfl (ZN (by decide)) rfl
end
section
variable{P:Program}{w:World}{K:a8}{mg:Str→Option Value}{base:Heap}{CP CL:Addr}
end
end K63
namespace L2.TL
open PySem PySem.Spec PyProof.Rows
section
variable{Z:Zx}{ρ:List (Option T)}{O:AG}{a:Expr}{t:T}{us:List T}{K:a8}{p1 pos:Pos}
theorem Tu{j:Nat}(hr:Fd t=false)(ha:ET Z ρ O a t):EB Z ρ O (.Compare a [.IsNot] [.Constant .none j p1] pos) (!Kb t):=BN SG (Au _) (fun Φ p H v w Q ok r1 r2 q=>by
 refine⟨r2.non_inv,?_⟩
 have e:decide (v=V.non)=Kb t:=by
  cases r1<;>first|rfl|cases hr
 rw[e]
 exact q _ H _ O p (.refl ok) (.bl _)) ha FB
end
def Ag(ns:List Int):T:=.tup (ns.map T.int)
theorem GG:∀{ns:List Int},rdBs (ns.map T.int)=true
 | []=>rfl
 |n::ns=>by
  show(DJ (.int n)&&rdBs (ns.map T.int))=true
  rw[GG,DJ];rfl
theorem RS{ns:List Int}:DJ (Ag ns)=true:=by unfold Ag;rw[DJ];exact GG
theorem IV:∀{L:List (List Int)},rdBs (L.map Ag)=true
 | []=>rfl
 |x::L=>by
  show(DJ (Ag x)&&rdBs (L.map Ag))=true
  rw[RS,IV];rfl
theorem EE:∀{ns:List Int},fG (dTs (ns.map T.int))≤1
 | []=>by simp[dTs,fG]
 |n::ns=>by
  have:=EE (ns:=ns)
  simp only[dv,dTs,fG,dT,PyData.depth]
  omega
end L2.TL
namespace K63
open PySem L2 L2.TL PySem.Spec PyProof.Rows Gr
def Eh(fs:List (Option Nat)):List Int:=(fs.filter lM).map fun x=> ((x.getD 0:Nat):Int)
theorem HL:∀{fs:List (Option Nat)},(fs.filter lM).map AS=(Eh fs).map T.int
 | []=>rfl
 |none::fs=>HL (fs:=fs)
 |some d::fs=>by
  show T.int (d:Int)::(fs.filter lM).map AS=T.int (d:Int)::(Eh fs).map T.int
  rw[HL]
theorem Tv{fs:List (Option Nat)}{z:Int}:z∈Eh fs↔∃(i d:Nat),fs[i]?=some (some d)∧z=d:=by
 unfold Eh
 rw[df]
 constructor
 ·rintro⟨x,hx,rfl⟩
  obtain⟨h1,h2⟩:=eE.mp hx
  cases x with
  |none=>cases h2
  |some d=>
   obtain⟨i,hi⟩:=eF h1
   exact⟨i,d,hi,rfl⟩
 ·rintro⟨i,d,h,rfl⟩
  exact⟨some d,eE.mpr ⟨cU h,rfl⟩,rfl⟩
section
variable{P:Program}{w:World}{K:a8}{mg:Str→Option Value}{base:Heap}{CP CL:Addr}
end
end K63
namespace StT
open PySem PySem.SetTable PyProof.Rows
section
variable{prog:Program}{w:World}{A:de}{E:Value→Shared→Prop}{s:Shared}
variable{a:Addr}{xs:List (Int×Tok)}{o:Obj}{es:Array (Int×Value)}{ep:Nat}{t:fc}
end
section
variable{prog:Program}{w:World}{A:de}{E:Value→Shared→Prop}{s:Shared}
variable{a:Addr}{xs:List (Int×Tok)}{o:Obj}{es:Array (Int×Value)}{ep:Nat}{t:fc}
end
section
variable{prog:Program}{w:World}{A:de}{E:Value→Shared→Prop}{s:Shared}
end
open PySem.Calls PySem.W
section
variable{prog:Program}{w:World}{A:de}{E:Value→Shared→Prop}{s:Shared}
end
end StT
namespace L2
open PySem PySem.Spec PySem.Calls PyProof.Rows
section
variable{X:Cx}
end
end L2
namespace L2.TL
open PySem PySem.Spec PySem.Calls PyProof.Rows
section
variable{Z:Zx}{ρ:List (Option T)}{O:AG}{e:Expr}{Φ:BL}{pos p p1 pos1:Pos}
end
end L2.TL
namespace K63
open PySem L2 L2.TL PySem.Spec PyProof.Rows Gr
def AK(ps:List (Int×Int))(x:Int):List Int:=(ps.filter fun p=>decide (x∈[p.1,p.2])).map fun p=>p.1+p.2-x
theorem Bp{ps:List (Int×Int)}{x v:Int}:v∈AK ps x↔Adj ps x v:=by
 unfold AK
 rw[df]
 constructor
 ·rintro⟨p,hp,rfl⟩
  obtain⟨h1,h2⟩:=eE.mp hp
  have h2:x=p.1∨x=p.2:=by simpa using h2
  rcases h2 with h|h
  ·refine .inl ?_
   have e:(x,p.1+p.2-x)=p:=fR h (by show p.1+p.2-x=p.2;omega)
   rw[e];exact h1
  ·refine .inr ?_
   have e:(p.1+p.2-x,x)=p:=fR (by show p.1+p.2-x=p.1;omega) h
   rw[e];exact h1
 ·rintro(h|h)
  ·exact⟨_,eE.mpr ⟨h,by simp⟩,by show x+v-x=v;omega⟩
  ·exact⟨_,eE.mpr ⟨h,by simp⟩,by show v+x-x=v;omega⟩
section
variable{P:Program}{w:World}{K:a8}{mg:Str→Option Value}{base:Heap}
variable{f:Addr}{cdv:Value}{A:de}{outer:List Env}{s:Shared}{H:Hp}{E:XK}{O:AG}{Ξ:Value→AG→Prop}{n:Int}{ps:List (Int×Int)}{S bs:List Int}{l:Addr}
end
end K63
namespace L2.TL
open PySem PySem.Spec PyProof.Rows
section
variable{Z:Zx}{ρ:List (Option T)}{O:AG}{e:Expr}{Φ:BL}{pos p:Pos}{ts:List T}
theorem Oi(m:Z.X.mg "list" =none)(h:ET Z ρ O e (.lst ts))(q:∀a,O a=none→Φ (.raw (.ref a)) (Aa O a ts))(hg:Gl Z.X "list":=by rfl)(he:cb [e] Z.X.env=(false,eval e Z.X.env)::cb [] Z.X.env:=by rfl):WE Z ρ O (.Call (.Name "list" p) [e] [] pos) Φ:=
 Da Gk m QR (AL h AE he _ (fun H vs Q ok r k=>by
  obtain⟨v,rfl,r1⟩:=r.one_inv
  obtain⟨a,xs,rfl,h1,_,r1⟩:=r1.lst_inv
  exact⟨a,xs,rfl,.inl (.inl (.inl h1)),fun p hp=>k _ _ _ _ (q p (ok.none_of hp)) (.newO ok hp r1) (.raw _)⟩)) hg (by decide) (by decide) he
end
end L2.TL
namespace K63
open PySem L2 L2.TL PySem.Spec PyProof.Rows GrR
def Kz:List Int→Option Int
 | []=>none
 |x::xs=>some (match Kz xs with|none=>x|some m=>min x m)
theorem GH:∀(ns:List Int),FJ ns (Kz ns)
 | []=>rfl
 |x::xs=>by
  have h:=GH xs
  show FJ (x::xs) (some (match Kz xs with|none=>x|some m=>min x m))
  cases e:Kz xs with
  |none=>
   rw[e] at h
   rw[show xs=[] from h]
   exact⟨by simp,fun n hn=>by rw[cq.mp hn];exact iW _⟩
  |some m=>
   rw[e] at h
   refine⟨?_,fun n hn=>?_⟩
   ·rcases nG x m with hx|hx
    ·show min x m∈_
     rw[Int.min_eq_left hx];simp
    ·show min x m∈_
     rw[Int.min_eq_right hx];exact cX _ h.1
   ·rcases da.mp hn with rfl|hn
    ·exact Int.min_le_left ..
    ·exact i7 (Int.min_le_right ..) (h.2 n hn)
def HM(rows:List (List Int))(a b:Int):List (List Int):=rows.set a.toNat ((rows.getD a.toNat []).filter fun v=>decide (v≠b))
def HN(rows:List (List Int))(a b:Int):Option Nat:=(Hc (Rw (HM rows a b)) [a] b).map (· +1)
theorem MQ{rows:List (List Int)}{a b u v:Int}(a0:0≤a)(a1:a<rows.length):Rw (HM rows a b) u v↔Rw rows u v∧¬(u=a∧v=b):=by
 unfold Rw HM
 have hlt:a.toNat<rows.length:=by omega
 by_cases hu:u=a
 ·subst hu
  rw[dR,dr hlt]
  simp only[Option.getD_some,eE,decide_eq_true_eq]
  constructor
  ·rintro⟨h0,h1,h2⟩
   exact⟨⟨h0,h1⟩,fun z=>h2 z.2⟩
  ·rintro⟨⟨h0,h1⟩,h2⟩
   exact⟨h0,h1,fun z=>h2 ⟨trivial,z⟩⟩
 ·constructor
  ·rintro⟨h0,h1⟩
   rw[dR,dz (by omega),←dR] at h1
   exact⟨⟨h0,h1⟩,fun z=>hu z.1⟩
  ·rintro⟨⟨h0,h1⟩,_⟩
   refine⟨h0,?_⟩
   rw[dR,dz (by omega),←dR]
   exact h1
theorem XA{n:Int}{rows:List (List Int)}{a b:Int}(rn:RowsN n rows)(a0:0≤a)(a1:a<n):RowsN n (HM rows a b):=
 ⟨by unfold HM;rw[gG];exact rn.len,rn.n1,fun u v h=>rn.hw u v ((MQ a0 (by have:=rn.len;omega)).mp h).1⟩
def As(n:Int)(ps:List (Int×Int)):List (List Int):=(dN n.toNat).map fun i=>BO ps i
theorem Oj{n:Int}{ps:List (Int×Int)}:HH n ps=Dn (As n ps):=by
 unfold HH As
 show _=T.lst (((dN n.toNat).map fun i=>BO ps i).map fun r=>T.lst (r.map T.int))
 rw[eu]
 rfl
theorem Ei{n:Int}{ps:List (Int×Int)}{i:Nat}(h:(i:Int)<n):(As n ps).getD i []=BO ps i:=by
 unfold As
 rw[dR,cg,kB (by omega)]
 rfl
theorem JZ{n:Int}{ps:List (Int×Int)}(hw:Gr.Ff n ps){u v:Int}:Rw (As n ps) u v↔Gr.Adj ps u v:=by
 constructor
 ·rintro⟨h0,h⟩
  obtain⟨i,rfl⟩:=dE h0
  rw[dS] at h
  by_cases hi:(i:Int)<n
  ·rw[Ei hi] at h
   exact(IU hw).mp h
  ·unfold As at h
   rw[dR,cg,gi (by rw[iI];omega)] at h
   cases h
 ·intro a
  have hb:=a.symm.inb hw
  obtain⟨i,rfl⟩:=dE hb.1
  refine⟨by omega,?_⟩
  rw[dS,Ei hb.2.1]
  exact(IU hw).mpr a
theorem GI{n:Int}{ps:List (Int×Int)}(wn:WebN n ps):RowsN n (As n ps):=
 ⟨by have:=wn.n0;unfold As;simp;omega,wn.n1,fun u v h=>by have:=((JZ wn.hw).mp h).inb wn.hw;exact⟨this.1,this.2.1⟩⟩
section
variable{P:Program}{w:World}{K:a8}{mg:Str→Option Value}{base:Heap}{CP CL:Addr}
def Uq:DR:=Ry fun ts r=>∃xs:List (Option Nat),ts=[.lst (xs.map AS)]∧xs.length≤300∧r=Oa (Kz (Eh xs))
theorem ZO:FnScope ["numbers"] ["numbers"] (AA JT):=⟨rfl,rfl,rfl,by decide+kernel,rfl,by decide+kernel,by decide+kernel⟩
theorem ZP:(Ak ["number"] []).Nodup:=by decide+kernel
theorem RU{f:Addr}{fd:dA}(F:Fun K "least_told" "least_told" JT f fd)(Tx:Txt mg):FnOk P w K mg base (CXe P w) 1 f fd ["numbers"] (Dl K Uq):=by
 refine Aj F ZO ?_ ?_
 ·rintro ts O Φ Ξ ⟨r,⟨xs,rfl,_⟩,_⟩
  rfl
 ·rintro cdv A outer s H E O Ξ hr xf _ Φ ⟨_,⟨xs,rfl,hl,rfl⟩,q⟩
  have sb:=Ab
  refine AJ (AW (ET.we (Th (GH _) Tx.nMin rfl (ET.cast (Gx ["number"] [] xs AS AS lM rfl (Bl (AA JT) ["numbers"] (by decide+kernel)) (Av (ev 0)) (by omega) fun x hx=> ⟨[some (AS x)],fun X' Oe He is O'=>?_⟩) (by rw[HL]))) q))
  obtain⟨cl,s',H',fp,rfl⟩:=is
  refine⟨AU 0 ZP (by decide),EB.cast (Tu HI (ev 0)) ?_,fun _=>ev 0⟩
  cases x<;>rfl
def Ur:DR:=Ry fun ts r=>∃(n:Int) (rows:List (List Int)) (a b:Int),ts=[Dn rows,.int a,.int b]∧RowsN n rows∧(∀r∈rows,r.length≤300)∧(0≤a∧a<n)∧(0≤b∧b<n)∧r=AS (HN rows a b)
def ZQ:List Str:=["nears","a","b","cut","far"]
theorem RV:FnScope ZQ ["nears","a","b"] (AA Ti):=⟨rfl,rfl,rfl,by decide+kernel,rfl,by decide+kernel,by decide+kernel⟩
theorem ZR:(Ak ["near"] [(("b" :Str),2)]).Nodup:=by decide+kernel
theorem XB{f:Addr}{fd:dA}(F:Fun K "ring_by_tie" "ring_by_tie" Ti f fd)(Tx:Txt mg)(G:FnT P w K mg base "fars_from" 1 ["nears","starts"] NT):FnOk P w K mg base (CXe P w) 2 f fd ["nears","a","b"] (Dl K Ur):=by
 refine Aj F RV ?_ ?_
 ·rintro ts O Φ Ξ ⟨r,⟨n,rows,a,b,rfl,_⟩,_⟩
  rfl
 ·rintro cdv A outer s H E O Ξ hr xf _ Φ ⟨_,⟨n,rows,a,b,rfl,rn,hlr,ha,hb,rfl⟩,q⟩
  have sb:=Ab
  have hl:=rn.len
  have n1:=rn.n1
  obtain⟨i,rfl⟩:=dE ha.1
  obtain⟨j,rfl⟩:=dE hb.1
  have hi:i<rows.length:=by omega
  have hri:(rows.getD i []).length≤300:=hlr _ (by rw[dR,cc hi];exact gu hi)
  refine AF (AV 3 (Oi Tx.nList (ev 0) fun l hlO=>?_) RV.nd)
  refine AF (Dx (ET.we (t:=.lst (((rows.getD i []).filter fun v=>decide (v≠(j:Int))).map T.int)) (Gx ["near"] [("b",2)] (rows.getD i []) T.int T.int (fun v=>decide (v≠(j:Int))) rfl (Bl (AA Ti) ZQ (by decide+kernel)) (Av (Dw (ev 0) (ev 1) (GF hi))) (by omega) fun x hx=> ⟨[some (.int x),some (.int (j:Int))],fun X' Oe He is O'=>?_⟩) (ET.we (ev 3) ⟨l,rfl,ET.we (ev 1) ⟨_,_,i,rfl,AD,by rw[b8];exact Ef hi,?_⟩⟩)))
  ·obtain⟨cl,s',H',fp,rfl⟩:=is
   refine⟨AU 0 ZR (by decide),EB.cast (WC (ev 0) (ev 1)) ?_,fun _=>ev 0⟩
   by_cases h:x=(j:Int)<;>simp[h]
  ·rw[BC]
   have eset:(rows.map fun r=>T.lst (r.map T.int)).set i (.lst (((rows.getD i []).filter fun v=>decide (v≠(j:Int))).map T.int))=(HM rows (i:Int) (j:Int)).map fun r=>T.lst (r.map T.int):=by
    unfold HM
    rw[i5,dS]
   rw[eset]
   refine Bx (p:=l) (n:=3) AD hlO rfl ?_
   rw[Ax hlO]
   refine AF (AV 4 (UW EJ (fun _ _=>rfl) (Ac G hr xf (EA.wa (AZ (ev 3) (AZ (Bw (ts:=[(i:Int)].map T.int) (AZ (ev 1) AE) (by show 1≤sizeLine;decide)) AE)) ⟨n,HM rows i j,[(i:Int)],rfl,XA rn ha.1 ha.2,fun z hz=>?_,fun fs al=>?_⟩))) RV.nd)
   ·rw[cq.mp hz];exact ha
   ·have hlf:=al.len
    have hg:=al.get hb.1 hb.2
    rw[dS] at hg
    refine ET.we (ev 2) (QK (t:=AS (Hc (Rw (HM rows i j)) [(i:Int)] j)) (BB (by rw[cg,hg];rfl)) _ ?_)
    unfold HN at q
    generalize Hc (Rw (HM rows i j)) [(i:Int)] j=x at q
    cases x with
    |none=>exact AJ (AW (ET.we (Mz (x:=true) (ta:=.non) (tb:=.non) (JM (t:=.non) rfl (ev 4)) (fun _=>FB) (fun h=>by cases h)) q))
    |some d=>exact AJ (AW (ET.we (Mz (x:=false) (ta:=.non) (tb:=.int ((d:Int)+1)) (JM (t:=.int (d:Int)) rfl (ev 4)) (fun h=>by cases h) (fun _=>BM (ev 4) AB)) q))
theorem RW{n:Int}{ps:List (Int×Int)}(wn:WebN n ps):∀r∈As n ps,r.length≤300:=fun r hr=>by
 unfold As at hr
 obtain⟨i,_,rfl⟩:=df.mp hr
 have:=ED (qs:=ps) (i:=i)
 have:=wn.hl
 omega
end
end K63
namespace L2.TL
open PySem PySem.Spec PyProof.Rows
section
variable{Z:Zx}{ρ:List (Option T)}{O:AG}{a:Expr}{t:T}{p1 pos:Pos}
end
end L2.TL
namespace K63
open PySem L2 L2.TL PySem.Spec PyProof.Rows GrR
def Fj(ps:List (Int×Int))(t:Int×Int):List (Int×Int):=ps.filter fun q=>decide (q≠t)
def Ej(ps:List (Int×Int))(t:Int×Int):Option Nat:=(Hc (Gr.Adj (Fj ps t)) [t.1] t.2).map (· +1)
theorem Ek{n:Int}{ps:List (Int×Int)}(hw:Gr.Ff n ps){a b u v:Int}:Gr.Adj (Fj ps (mm (a,b))) u v↔Gr.Adj ps u v∧¬(u=a∧v=b)∧¬(u=b∧v=a):=by
 have key:∀x y:Int,(x,y)∈Fj ps (mm (a,b))↔(x,y)∈ps∧¬(x=a∧y=b)∧¬(x=b∧y=a):=fun x y=>by
  unfold Fj
  rw[eE,decide_eq_true_eq]
  constructor
  ·rintro⟨h,hne⟩
   have hxy:=(hw _ h).2.1
   simp only at hxy
   refine⟨h,fun⟨e1,e2⟩=>hne ?_,fun⟨e1,e2⟩=>hne ?_⟩
   ·subst e1 e2;exact fR (by show x=min x y;omega) (by show y=max x y;omega)
   ·subst e1 e2;exact fR (by show x=min y x;omega) (by show y=max y x;omega)
  ·rintro⟨h,h1,h2⟩
   refine⟨h,fun e=>?_⟩
   have e1:x=min a b:=congrArg dX e
   have e2:y=max a b:=congrArg jU e
   rcases nG a b with hab|hab
   ·exact h1 ⟨by omega,by omega⟩
   ·exact h2 ⟨by omega,by omega⟩
 unfold Gr.Adj
 rw[key,key]
 constructor
 ·rintro(⟨h,h1,h2⟩| ⟨h,h1,h2⟩)
  ·exact⟨.inl h,h1,h2⟩
  ·exact⟨.inr h,fun z=>h2 ⟨z.2,z.1⟩,fun z=>h1 ⟨z.2,z.1⟩⟩
 ·rintro⟨h|h,h1,h2⟩
  ·exact .inl ⟨h,h1,h2⟩
  ·exact .inr ⟨h,fun z=>h2 ⟨z.2,z.1⟩,fun z=>h1 ⟨z.2,z.1⟩⟩
theorem RX{n:Int}{ps:List (Int×Int)}(wn:WebN n ps){a b:Int}(ad:Gr.Adj ps a b):HN (As n ps) a b=Ej ps (mm (a,b)):=by
 have ha:=ad.symm.inb wn.hw
 have hl:=(GI wn).len
 have e1:Hc (Rw (HM (As n ps) a b)) [a] b=Hc (Gr.Adj (Fj ps (mm (a,b)))) [a] b:=IM fun d=>TY
  (fun u v h=> (MQ ha.1 (by omega)).mpr ⟨(JZ wn.hw).mpr ((Ek wn.hw).mp h).1,((Ek wn.hw).mp h).2.1⟩)
  (fun u v h=>by
   obtain⟨h1,h2⟩:=(MQ ha.1 (by omega)).mp h
   by_cases hu:u=b∧v=a
   ·exact .inr hu.1
   ·exact .inl ((Ek wn.hw).mpr ⟨(JZ wn.hw).mp h1,h2,hu⟩))
 unfold HN Ej
 rw[e1]
 congr 1
 rcases nG a b with hab|hab
 ·have:mm (a,b)=(a,b):=fR (by show min a b=a;omega) (by show max a b=b;omega)
  rw[this]
 ·have:mm (a,b)=(b,a):=fR (by show min a b=b;omega) (by show max a b=a;omega)
  rw[this]
  exact IM fun d=>NM fun u v h=>Gr.Adj.symm h
theorem Us{n:Int}{ps:List (Int×Int)}(hw:Gr.Ff n ps){p:Int×Int}(h:p∈ps):mm p=p∧mm (p.2,p.1)=p:=by
 have:=(hw _ h).2.1
 exact⟨fR (by show min p.1 p.2=p.1;omega) (by show max p.1 p.2=p.2;omega),fR (by show min p.2 p.1=p.1;omega) (by show max p.2 p.1=p.2;omega)⟩
section
variable{P:Program}{w:World}{K:a8}{mg:Str→Option Value}{base:Heap}{CP CL:Addr}
end
variable{n:Int}{ps:List (Int×Int)}{s:Nat}
theorem DF:∀u v,Gr.Adj ps u v→Gr.Adj ps v u:=fun _ _ h=>h.symm
theorem Cc:∀u v,v∈AK ps u↔Gr.Adj ps u v:=fun _ _=>Bp
theorem Df(hw:Gr.Ff n ps){i:Nat}:BO ps i=AK ps (i:Int):=by
 unfold BO AK
 induction ps with
 |nil=>rfl
 |cons p ps ih=>
  have ih:=ih fun q hq=>hw q (cX _ hq)
  have hp:=hw p (by simp)
  by_cases h1:p.1=(i:Int)
  ·rw[fL,if_pos h1,jy,if_pos (by simp[h1]),dv,←ih,show p.1+p.2- (i:Int)=p.2 by omega]
  ·by_cases h2:p.2=(i:Int)
   ·rw[fL,if_neg h1,if_pos h2,jy,if_pos (by simp[h2]),dv,←ih,show p.1+p.2- (i:Int)=p.1 by omega]
   ·rw[fL,if_neg h1,if_neg h2,jy,if_neg (by simp only[da,gq,or_false,decide_eq_true_eq];exact fun z=>z.elim (fun z=>h1 z.symm) (fun z=>h2 z.symm))]
    exact ih
theorem Tw(hw:Gr.Ff n ps){u:Int}(h:u<0):AK ps u=[]:=by
 cases e:AK ps u with
 |nil=>rfl
 |cons v l=>
  have:Gr.Adj ps u v:=Bp.mp (by rw[e];simp)
  have:=(this.symm.inb hw).1
  omega
theorem FQ(hw:Gr.Ff n ps)(hp:ps.Pairwise FF):∀u,(AK ps u).Pairwise (· < ·):=fun u=>by
 by_cases h:u<0
 ·rw[Tw hw h];exact hV
 ·obtain⟨i,rfl⟩:=dE (show 0≤u by omega)
  rw[←Df hw]
  exact JY hw hp
theorem Ck(hw:Gr.Ff n ps):∀u v,Gr.Adj ps u v→0≤v∧v<n:=fun u v h=> ⟨(h.inb hw).1,(h.inb hw).2.1⟩
def IW(ps:List (Int×Int)):Option Int:=Kz (Eh (ps.map fun p=>Ej ps p))
theorem LA(hw:Gr.Ff n ps){p:Int×Int}(hp:p∈ps):Gr.Adj (Fj ps p)=Uk (Gr.Adj ps) p.1 p.2:=by
 funext u v
 have:=Ek hw (a:=p.1) (b:=p.2) (u:=u) (v:=v)
 rw[(Us hw hp).1] at this
 exact propext this
theorem LB{z:Int}:z∈Eh (ps.map fun p=>Ej ps p)↔∃p∈ps,∃d:Nat,Hc (Gr.Adj (Fj ps p)) [p.1] p.2=some d∧z=d+1:=by
 rw[Tv]
 constructor
 ·rintro⟨i,d,h,rfl⟩
  rw[cg] at h
  cases e:ps[i]? with
  |none=>rw[e] at h;cases h
  |some p=>
   rw[e] at h
   have h:Ej ps p=some d:=by simpa using h
   unfold Ej at h
   cases e2:Hc (Gr.Adj (Fj ps p)) [p.1] p.2 with
   |none=>rw[e2] at h;cases h
   |some d'=>
    rw[e2] at h
    have:d'+1=d:=by simpa using h
    exact⟨p,cU e,d',e2,by omega⟩
 ·rintro⟨p,hp,d,h,rfl⟩
  obtain⟨i,hi,rfl⟩:=ie hp
  refine⟨i,d+1,?_,by omega⟩
  rw[cg,cc hi]
  unfold Ej
  simp[h]
theorem Ja(hw:Gr.Ff n ps){r:List Int}(h:Ring (Gr.Adj ps) r):∃m,IW ps=some m∧m≤r.length:=by
 obtain⟨a,b,hab,w⟩:=Wm h
 have key:∃z,z∈Eh (ps.map fun p=>Ej ps p)∧z≤r.length:=by
  have hl:=h.len
  have fin:∀p∈ps,W (Uk (Gr.Adj ps) p.1 p.2) [p.1] (r.length-1) p.2→∃z,z∈Eh (ps.map fun p=>Ej ps p)∧z≤r.length:=fun p hp w=>by
   obtain⟨d,hd,hD⟩:=w.least
   rw[←LA hw hp] at hD
   exact⟨d+1,LB.mpr ⟨p,hp,d,Bc hD,rfl⟩,by omega⟩
  have sy:∀u v,Uk (Gr.Adj ps) a b u v→Uk (Gr.Adj ps) a b v u:=fun u v c=> ⟨c.1.symm,fun e=>c.2.2 ⟨e.2,e.1⟩,fun e=>c.2.1 ⟨e.2,e.1⟩⟩
  have sw:∀u v,Uk (Gr.Adj ps) a b u v→Uk (Gr.Adj ps) b a u v:=fun u v c=> ⟨c.1,c.2.2,c.2.1⟩
  rcases hab with hm|hm
  ·exact fin (a,b) hm (w.rev sy)
  ·exact fin (b,a) hm (w.mono sw)
 obtain⟨z,hz,hle⟩:=key
 have hm:=GH (Eh (ps.map fun p=>Ej ps p))
 unfold IW
 cases e:Kz (Eh (ps.map fun p=>Ej ps p)) with
 |none=>rw[e] at hm;have hm:Eh (ps.map fun p=>Ej ps p)=[]:=hm;rw[hm] at hz;cases hz
 |some m=>
  rw[e] at hm
  exact⟨m,rfl,i7 (hm.2 z hz) hle⟩
theorem XC(hw:Gr.Ff n ps){m:Int}(h:IW ps=some m):∃r,Ring (Gr.Adj ps) r∧(r.length:Int)=m:=by
 have hm:=GH (Eh (ps.map fun p=>Ej ps p))
 unfold IW at h
 rw[h] at hm
 obtain⟨p,hp,d,hd,rfl⟩:=LB.mp hm.1
 rw[LA hw hp] at hd
 obtain⟨r,h1,h2⟩:=Ta DF (fun u hu=> (hu.inb hw).2.2 rfl) (show Gr.Adj ps p.1 p.2 from .inl hp) (EX.mp hd)
 exact⟨r,h1,by rw[h2];rfl⟩
theorem RY(hw:Gr.Ff n ps){r:List Int}(h:Ring (Gr.Adj ps) r):(r.length:Int)≤n∧3≤r.length:=by
 have:=Gr.JO (n:=n) h.nd (JQ (Ck hw) h)
 have:=h.len
 omega
theorem GJ(hw:Gr.Ff n ps){m:Int}(h:IW ps=some m):∃k:Nat,m=k∧3≤k∧(k:Int)≤n∧(∀M,Ring (Gr.Adj ps) M→k≤M.length)∧∃r,Ring (Gr.Adj ps) r∧r.length=k:=by
 obtain⟨r,h1,h2⟩:=XC hw h
 have hl:=RY hw h1
 refine⟨r.length,h2.symm,hl.2,hl.1,fun M hM=>?_,r,h1,rfl⟩
 obtain⟨m',e,hle⟩:=Ja hw hM
 rw[h] at e
 cases e
 omega
theorem RZ(hw:Gr.Ff n ps)(h:IW ps=none)(hs:3≤s):DC (Gr.Adj ps) (AK ps) s n.toNat=[]:=by
 cases e:DC (Gr.Adj ps) (AK ps) s n.toNat with
 |nil=>rfl
 |cons r l=>
  obtain⟨h1,_⟩:=(Cj DF Cc (Ck hw) hs).mp (by rw[e];exact dw ..)
  obtain⟨m,h2,_⟩:=Ja hw h1
  rw[h] at h2;cases h2
theorem Ra(hw:Gr.Ff n ps){m:Int}(h:IW ps=some m)(hs:3≤s)(hm:(s:Int)<m):DC (Gr.Adj ps) (AK ps) s n.toNat=[]:=by
 cases e:DC (Gr.Adj ps) (AK ps) s n.toNat with
 |nil=>rfl
 |cons r l=>
  obtain⟨h1,h3⟩:=(Cj DF Cc (Ck hw) hs).mp (by rw[e];exact dw ..)
  obtain⟨m',h2,hle⟩:=Ja hw h1
  rw[h] at h2;cases h2;omega
theorem Rb(hw:Gr.Ff n ps)(hp:ps.Pairwise FF)(hn:n≤32){k:Nat}(h:IW ps=some (k:Int)):DC (Gr.Adj ps) (AK ps) k n.toNat≠[]∧DC (Gr.Adj ps) (AK ps) k n.toNat=Td (Gr.Adj ps) (AK ps) k n.toNat:=by
 obtain⟨k',e,h3,hkn,hl,r,hr,hrl⟩:=GJ hw h
 have:k'=k:=by omega
 subst this
 refine⟨fun z=>?_,Te DF Cc (Ck hw) hn (FQ hw hp) h3 hl⟩
 have:=(Cj (s:=k') DF Cc (Ck hw) h3).mpr ⟨hr,hrl⟩
 rw[z] at this
 cases this
theorem Jb(hw:Gr.Ff n ps)(hp:ps.Pairwise FF)(hn:n≤20){c:Nat→Int→Bool}{p:Int}(h:0≤p∧p<n){k:Nat}(least:∀M,Ring (Gr.Adj ps) M→s≤M.length)(hk:k<s):(EZ (AK ps) c p k).length≤8000:=
 Tf DF Cc (FQ hw hp) (Ck hw) hn h least hk
end K63
namespace L2
open PySem PySem.Spec PyProof.Rows
section
variable{X:Cx}{W:St→XK}
end
end L2
namespace L2.TL
open PySem PySem.Spec PyProof.Rows
section
variable{Z:Zx}{ρ:List (Option T)}{O:AG}{Φ:BL}{p pos:Pos}{x:Str}{t:T}
end
theorem LD:∀{ns:List Int},rdBs (ns.map T.int)=true
 | []=>rfl
 |n::ns=>by
  rw[dv,rdBs,LD]
  rfl
section
variable{Z:Zx}{ρ:List (Option T)}{O:AG}{Ψ:Es}{a b o e:Expr}{apos cpos pos:Pos}{bs:List Bool}{i:Int}{ns:List Int}
end
end L2.TL
namespace L2
open PySem PySem.Spec PySem.Calls PyProof.Rows
section
variable{X:Cx}
end
end L2
namespace L2.TL
open PySem PySem.Spec PySem.Calls PyProof.Rows
section
variable{Z:Zx}{ρ:List (Option T)}{O:AG}{e:Expr}{p pos:Pos}{ns:List Int}
end
end L2.TL
namespace K63
open PySem L2 L2.TL PySem.Spec PyProof.Rows GrR
theorem ZS{n:Int}{ps:List (Int×Int)}(wn:WebN n ps):Kz (Eh (ps.map fun p=>HN (As n ps) p.1 p.2))=IW ps:=by
 unfold IW
 congr 2
 refine kA fun p hp=>?_
 rw[RX wn (show Gr.Adj ps p.1 p.2 from .inl hp)]
 exact congrArg (Ej ps) (Us wn.hw hp).1
theorem ZT:(Ak ["a","b"] [(("nears" :Str),1)]).Nodup:=by decide+kernel
section
variable{P:Program}{w:World}{K:a8}{mg:Str→Option Value}{base:Heap}
def NZ:DR:=Ry fun ts r=>∃n ps,ts=[BU n ps]∧WebN n ps∧r=Oa (IW ps)
theorem Na:FnScope ["web","nears"] ["web"] (AA JU):=⟨rfl,rfl,rfl,by decide+kernel,rfl,by decide+kernel,by decide+kernel⟩
theorem Rc{f:Addr}{fd:dA}(F:Fun K "shortest" "shortest" JU f fd)(G:FnT P w K mg base "nears_of" 1 ["web"] NS)(Gr:FnT P w K mg base "ring_by_tie" 2 ["nears","a","b"] Ur)(Gl:FnT P w K mg base "least_told" 1 ["numbers"] Uq):FnOk P w K mg base (CXe P w) 3 f fd ["web"] (Dl K NZ):=by
 refine Aj F Na ?_ ?_
 ·rintro ts O Φ Ξ ⟨r,⟨n,ps,rfl,_⟩,_⟩
  rfl
 ·rintro cdv A outer s H E O Ξ hr xf _ Φ ⟨_,⟨n,ps,rfl,wn,rfl⟩,q⟩
  have sb:=Ab
  have hl:=wn.hl
  refine AF (AV 1 (ET.we (Fc G (hr.mono (by decide)) xf (AZ (ev 0) AE) ⟨n,ps,rfl,wn.n0,wn.n1,wn.hw,wn.hl,rfl⟩) ?_) Na.nd)
  rw[Oj,←ZS wn] at*
  refine AJ (AW (ET.we (Fc Gl (hr.mono (by decide)) xf (AZ (By ["a","b"] [("nears",1)] ps AC (fun p=>AS (HN (As n ps) p.1 p.2)) rfl (Bl (AA JU) ["web","nears"] (by decide+kernel)) (Cz (Af (ev 0) AB)) (by omega) fun p hp=> ⟨[some (.int p.1),some (.int p.2),some (Dn (As n ps))],fun X' Oe He is O'=>?_⟩) AE) ⟨ps.map fun p=>HN (As n ps) p.1 p.2,by rw[eu];rfl,by rw[b8];omega,rfl⟩) q))
  obtain⟨cl,s',H',fp,rfl⟩:=is
  have hb:=wn.hw p hp
  exact⟨BD 0 1 rfl ZT (by decide) (by decide),Fc Gr hr ES (AZ (ev 2) (AZ (ev 0) (AZ (ev 1) AE))) ⟨n,As n ps,p.1,p.2,rfl,GI wn,RW wn,by omega,by omega,rfl⟩⟩
def Jc(c:Int→Bool)(r xs:List Int):List (List Int):=(xs.filter fun v=>c v&&!decide (v∈r)).map fun v=>r++[v]
theorem FR{c:Int→Bool}{r xs:List Int}{v:Int}:Jc c r (xs++[v])=Jc c r xs++(if(c v&&!decide (v∈r))=true then[r++[v]] else[]):=by
 unfold Jc
 rw[List.filter_append,dH]
 congr 1
 by_cases h:(c v&&!decide (v∈r))=true
 ·rw[if_pos h,jy,if_pos h];rfl
 ·rw[if_neg h,jy,if_neg h];rfl
theorem Re{c:Int→Bool}{r xs:List Int}{i:Nat}:(Jc c r (xs.take i)).length≤(Jc c r xs).length:=by
 unfold Jc
 rw[b8,b8]
 exact((iH i xs).filter _).length_le
theorem LF{nb:Int→List Int}{c:Int→Bool}{rs:List (List Int)}{r:List Int}:Kl nb c (rs++[r])=Kl nb c rs++Jc c r (nb (lst r)):=by
 unfold Kl
 rw[kH]
 simp only[List.flatMap_cons,List.flatMap_nil,eZ]
 rfl
theorem Tz{nb:Int→List Int}{c:Int→Bool}{rs:List (List Int)}{j:Nat}{r:List Int}(h:rs[j]?=some r)(i:Nat):(Kl nb c (rs.take j)).length+(Jc c r ((nb (lst r)).take i)).length≤(Kl nb c rs).length:=by
 have e:rs=rs.take j++[r]++rs.drop (j+1):=by
  obtain⟨hj,rfl⟩:=cw.mp h
  rw[fe,List.singleton_append,iq,fM]
 have h1:(Kl nb c rs).length=(Kl nb c (rs.take j++[r])).length+(Kl nb c (rs.drop (j+1))).length:=by
  conv=>lhs;rw[e]
  unfold Kl
  rw[kH,dh]
 rw[h1,LF,dh]
 have:=Re (c:=c) (r:=r) (xs:=nb (lst r)) (i:=i)
 omega
theorem DV:(9000000:Nat)<sizeLine:=by decide
theorem Nb{r:List Int}(h:r≠[]):atI (r.map T.int) (-1)=some (.int (lst r)):=by
 obtain⟨M,e⟩:=gJ.mp (Ca h)
 generalize lst r=v at*
 subst e
 rw[dH]
 exact PJ _ _
theorem Nc{r:List Int}(h:r≠[]):lst r∈r:=gU (Ca h)
end
structure WebR(n:Int)(ps:List (Int×Int)):Prop where
 wn:WebN n ps
 hp:ps.Pairwise FF
 n0:1≤n
 n1:n≤20
theorem Rf{n:Int}{ps:List (Int×Int)}(hw:Gr.Ff n ps){c:Nat→Int→Bool}{p:Int}(hp:0≤p∧p<n){k:Nat}{r:List Int}(h:r∈EZ (AK ps) c p k):r≠[]∧r.length=k+1∧∀z∈r,0≤z∧z<n:=by
 have w1:=((CM Cc).mp h).len
 exact⟨(fun z=>by rw[z] at w1;cases w1),w1,Qu Cc (Ck hw) hp h⟩
section
variable{P:Program}{w:World}{K:a8}{mg:Str→Option Value}{base:Heap}
end
end K63
namespace SrtG
open PySem PySem.Calls PySem.W PyProof.Rows
def LG(h:Heap)(v:Value)(r:List Int):Prop:=∃x o xs n,v=.ref x∧h.get? x=some o∧o.cls=.type "tuple"∧o.data=.seq (kL xs) n∧IntsAre xs r
def XD:Value→Option Int
 | .int a _=>some a
 |_=>none
theorem Nd:∀{vs:List Value} {ns:List Int},IntsAre vs ns→vs.filterMap XD=ns
 |_,_,.nil=>rfl
 |_,_,.cons n t r=>by rw[fL];show n::_=_;rw[Nd r]
def ZU(h:Heap)(v:Value):Int:=match v with
  | .ref x=>match h.get? x with
    |some o=>match o.data with
     | .seq xs _=>GrR.rk (xs.toList.filterMap XD)
     |_=>0
    |_=>0
  |_=>0
theorem FS{h:Heap}{v:Value}{r:List Int}(p:LG h v r):ZU h v=GrR.rk r:=by
 obtain⟨x,o,xs,n,e1,e2,_,e3,e4⟩:=p
 unfold ZU
 rw[e1]
 dsimp only
 rw[e2]
 dsimp only
 rw[e3]
 show GrR.rk (xs.filterMap XD)=_
 rw[Nd e4]
theorem EF:∀(r:List Int) (a:Int),r.foldl (fun a v=>a*32+v) a=a*32^r.length+GrR.rk r
 | [],a=>by show a=a*1+0;omega
 |v::r,a=>by
  show r.foldl (fun a v=>a*32+v) (a*32+v)=_
  have e:GrR.rk (v::r)=v*32^r.length+GrR.rk r:=by
   show r.foldl (fun a v=>a*32+v) (0*32+v)=_
   rw[EF r,Int.zero_mul,jz]
  rw[EF r,e,c9,nE,nO,nF (32^r.length) 32,←m8,Int.add_assoc]
theorem DG{v:Int}{r:List Int}:GrR.rk (v::r)=v*32^r.length+GrR.rk r:=by
 show r.foldl (fun a v=>a*32+v) (0*32+v)=_
 rw[EF r,Int.zero_mul,jz]
theorem Rg:∀{r:List Int},(∀z∈r,0≤z∧z<32)→0≤GrR.rk r∧GrR.rk r<32^r.length
 | [],_=>by show(0:Int)≤0∧(0:Int)<1;omega
 |v::r,h=>by
  have h1:=h v (by simp)
  have h2:=Rg (r:=r) fun z hz=>h z (cX _ hz)
  rw[DG,c9,nE]
  have hp:(0:Int)<32^r.length:=Int.pow_pos (by decide)
  have e1:=Int.mul_nonneg h1.1 (gE hp)
  have e2:v*32^r.length≤31*32^r.length:=gP (by omega) (gE hp)
  omega
theorem Ut{a c:Int}{r q:List Int}(hl:r.length=q.length)(hr:∀z∈r,0≤z∧z<32)(hq:∀z∈q,0≤z∧z<32)(h:a≠c):decide (a<c)=decide (GrR.rk (a::r)<GrR.rk (c::q)):=by
 have h1:=Rg hr
 have h2:=Rg hq
 rw[DG,DG,hl]
 rw[hl] at h1
 generalize (32:Int)^q.length=B at*
 refine decide_eq_decide.mpr ⟨fun z=>?_,fun z=>?_⟩
 ·have:(a+1)*B≤c*B:=gP (by omega) (by omega)
  rw[nO,Int.one_mul] at this
  omega
 ·by_cases z2:a<c
  ·exact z2
  ·have:(c+1)*B≤a*B:=gP (by omega) (by omega)
   rw[nO,Int.one_mul] at this
   omega
variable{prog:Program}{w:World}{A:de}{E:Value→Shared→Prop}{s:Shared}
theorem Nf{Q:Bool→Shared→Prop}:∀{xs ys:List Value} {ns ms:List Int} {i:Nat},IntsAre xs ns→IntsAre ys ms→ns.length=ms.length→(∀z∈ns,0≤z∧z<32)→(∀z∈ms,0≤z∧z<32)→Q (decide (GrR.rk ns<GrR.rk ms)) s→KatLex prog w A true false Q (xs.zip ys) (i+1) s
 |_,_,_,_,_,.nil,.nil,_,_,_,h=>kat_nil (by simpa using h)
 |_,_,_,_,_,.nil,.cons _ _ _,hl,_,_,_=>by cases hl
 |_,_,_,_,_,.cons _ _ _,.nil,hl,_,_,_=>by cases hl
 |_,_,_,_,_,@IntsAre.cons a t vs ns hx,@IntsAre.cons c u us ms hy,hl,hr,hq,h=>by
  have hl':ns.length=ms.length:=by simpa using hl
  have hr':=fun z (hz:z∈ns)=>hr z (cX _ hz)
  have hq':=fun z (hz:z∈ms)=>hq z (cX _ hz)
  refine kat_cons (jt (kat_go (fun e=>kat_yes ?_) fun e=>?_))
  ·have e':=eq_of_beq e
   subst e'
   refine Nf hx hy hl' hr' hq' ?_
   rw[DG,DG,hl'] at h
   rw[show decide (GrR.rk ns<GrR.rk ms)=decide (a*32^ms.length+GrR.rk ns<a*32^ms.length+GrR.rk ms) from decide_eq_decide.mpr (by omega)]
   exact h
  ·have e':a≠c:=fun q=>by rw[q] at e;simp at e
   exact kat_no (kat_one _ _ (lt_int (by rw[Ut hl' hr' hq' e'];exact h)))
def au(k:Nat)(h:Heap)(v:Value):Prop:=∃r,LG h v r∧r.length=k+1∧∀z∈r,0≤z∧z<32
theorem UA{k:Nat}:Rk prog w (au k) ZU (.type "int") where
 cmp:=by
  intro A E s st x y Q hk hx hy h
  obtain⟨r,px,lx,bx⟩:=hx
  obtain⟨q,py,ly,bY⟩:=hy
  have h:Q (some (decide (ZU s.heap x.1<ZU s.heap y.1))) st:=h
  rw[FS px,FS py] at h
  obtain⟨p,o,xs,n,e1,e2,_,e3,e4⟩:=px
  obtain⟨p',o',ys,n',e1',e2',_,e3',e4'⟩:=py
  rw[lt'_eq]
  refine cu (jC ?_)
  rw[hk,e1,e1']
  refine cu (ki (jb ?_))
  refine PySem.W.kat_lt e2 e3 e2' e3' ?_
  have fin:∀b:Bool,b=decide (GrR.rk r<GrR.rk q)→(s=s∧wpS (model prog w) A E s (match (Except.ok b:Except Value Bool) with
    | .ok b=>pure (some b)
    | .error e=>do
     modify (fun s=>kX (kindOf s) (arrOf s) (pendingOf s) (gallopOf s) (some e))
     pure none) Q st):=fun b hb=> ⟨rfl,by rw[hb];exact cV h⟩
  cases e4 with
  |nil=>cases lx
  | @cons a t vs ns hx=>
   cases e4' with
   |nil=>cases ly
   | @cons c u us ms hy=>
    have hl:ns.length=ms.length:=by simp only[c9] at lx ly;omega
    have hv:vs.length=us.length:=by rw[hx.length,hy.length];exact hl
    have br:=fun z (hz:z∈ns)=>bx z (cX _ hz)
    have bq:=fun z (hz:z∈ms)=>bY z (cX _ hz)
    have sz:decide ((jM a t::vs).toArray.size< (jM c u::us).toArray.size)=false:=decide_eq_false (by simp[hv])
    rw[sz]
    refine lQ (r:=vs.zip us) (jt ?_)
    refine mE (fun e=>?_) (fun e=>?_)
    ·have e':=eq_of_beq e
     subst e'
     refine ma (Nf hx hy hl br bq (fin _ ?_))
     rw[DG,DG,hl]
     exact decide_eq_decide.mpr (by omega)
    ·have e':a≠c:=fun q=>by rw[q] at e;simp at e
     exact mD (oneLt_int (fin _ (Ut hl br bq e')))
 kept:=by
  rintro h h' v ⟨r,p,q⟩ k
  have p':LG h' v r:=by
   obtain⟨x,o,xs,n,e1,e2,e3,e4,e5⟩:=p
   exact⟨x,o,xs,n,e1,k _ _ e3 e2,e3,e4,e5⟩
  exact⟨⟨r,p',q⟩,by rw[FS p,FS p']⟩
 kat:=fun{h vs}=>by
  induction vs with
  |nil=>exact fun _=> ⟨[],nD.nil,rfl,fun v hv=>by cases hv⟩
  |cons v vs ih=>
   intro ok
   obtain⟨fs,k,hl,hf⟩:=ih fun v hv=>ok v (.tail _ hv)
   obtain⟨r,⟨x,o,xs,n,rfl,e,hc,hd,e5⟩,lr,_⟩:=ok v (.head _)
   cases e5 with
   |nil=>cases lr
   |cons a t hx=>
    exact⟨.int a t::fs,nD.cons e hc hd rfl k,by rw[c9,c9,hl],fun v hv=>by
     rcases da.mp hv with rfl|hv
     ·exact fun M h'=>fun _ _ _ _ _ q=>b9 q
     ·exact hf v hv⟩
 t1:=rfl
 t2:=rfl
end SrtG
namespace L2
open PySem PySem.Spec PySem.Calls PyProof.Rows SrtG
section
variable{X:Cx}{pins:List (Addr×Obj)}{σ:St}{H:Hp}{s:Shared}
theorem Inv.rowAt{x:Addr}{r:List Int}(I:Inv X pins σ H s)(h:HU X.K H x (r.map V.int)):LG s.heap (.ref x) r:=by
 obtain⟨its,rr,⟨o,ho,hc,n,hd⟩,hz⟩:=I.tuple h
 exact⟨x,o,its,n,rfl,ho,hc,hd,LW rr⟩
theorem HP:∀{ps:List (List Int×Addr)} {us:List Value},Vals (ps.map fun p=>V.ref p.2) us→us=ps.map fun p=>Value.ref p.2
 | [],us,r=>by rw[kM] at r;cases r;rfl
 |p::ps,us,r=>by
  rw[dv] at r
  cases r with
  |cons r1 r2=>
   rw[HP r2]
   have r1:_=Value.ref p.2:=r1
   rw[r1]
   rfl
theorem HQ:∀(ps:List (List Int×Addr)),Vals (ps.map fun p=>V.ref p.2) (ps.map fun p=>Value.ref p.2)
 | []=> .nil
 |p::ps=> .cons rfl (HQ ps)
theorem El:BA X (.builtin "sorted") (fun xs H Q=>∃(a:Addr) (ks:List (List Int×Addr)) (m:Nat),xs=[.ref a]∧SqL X.K H a (ks.map fun p=>V.ref p.2)∧(∀k x,(k,x)∈ks→HU X.K H x (k.map V.int)∧k.length=m+1∧∀z∈k,0≤z∧z<32)∧ks.length≤9000000∧
  ∀(p:Addr) (ms:List (List Int×Addr)),H p=none→ms.Perm ks→ms.Pairwise (fun x y=>GrR.rk x.1≤GrR.rk y.1)→Q (.ref p) (upd H p (.lst (ms.map fun p=>V.ref p.2)))):=by
 intro pins s σ H xs us Q I r h
 obtain⟨a,ks,m,rfl,hS,hk,hn,q⟩:=h
 obtain⟨u,rfl,ru⟩:=Vals.one r
 cases ru
 obtain⟨its,rv,⟨o,n,e1,e2,_,e3⟩,_⟩:=I.list hS
 have ei:=HP rv
 subst ei
 have at_:∀k x,(k,x)∈ks→LG s.heap (.ref x) k:=fun k x h=>I.rowAt (hk k x h).1
 refine MF e1 e2 e3 (UA (k:=m)) (fun v hv=>?_) (by rw[b8];omega) fun h' b out c hb hg kp pm pw=>?_
 ·obtain⟨⟨k,x⟩,hx,rfl⟩:=df.mp hv
  exact⟨k,at_ k x hx,(hk k x hx).2⟩
 ·obtain⟨ms,pm',rfl⟩:=BQ pm rfl
  have hf:H b=none:=I.hok.none_of hb
  refine⟨.ref b,upd H b (.lst (ms.map fun p=>V.ref p.2)),I.laidF (t':=s.toks) kp hb ⟨?_,_,c,HQ ms,hg⟩,rfl,q b ms hf pm' ?_⟩
  ·rw[b8,pm'.length_eq,eT]
   omega
  ·rw[eJ] at pw
   refine fI (fun{x y} hx hy z=>?_) pw
   rw[FS (at_ x.1 x.2 (pm'.mem_iff.mp hx)),FS (at_ y.1 y.2 (pm'.mem_iff.mp hy))] at z
   exact z
end
end L2
namespace L2.TL
open PySem PySem.Spec PyProof.Rows SrtG
section
variable{K:a8}{O:AG}{H:Hp}
theorem FT:∀{ks:List (List Int)} {xs:List V},Reps K O H xs (ks.map fun r=>T.tup (r.map T.int))→∃qs:List (List Int×Addr),xs=qs.map (fun p=>V.ref p.2)∧qs.map (·.1)=ks∧∀k x,(k,x)∈qs→H x=some (.tup (k.map V.int))
 | [],xs,r=> ⟨[],r.nil_inv,rfl,fun _ _ h=>by cases h⟩
 |p::ks,xs,r=>by
  obtain⟨v,vs',rfl,h,r'⟩:=Reps.cons_inv r
  obtain⟨a,ys,rfl,ha,r2⟩:=h.tup_inv
  cases Reps.ints (ns:=p) r2
  obtain⟨qs,rfl,e,hk⟩:=FT r'
  refine⟨(p,a)::qs,rfl,by rw[dv,e],fun k x h=>?_⟩
  rcases da.mp h with h|h
  ·cases h;exact ha
  ·exact hk k x h
theorem FU:∀{qs:List (List Int×Addr)},(∀k x,(k,x)∈qs→H x=some (.tup (k.map V.int)))→Reps K O H (qs.map fun p=>V.ref p.2) ((qs.map (·.1)).map fun r=>T.tup (r.map T.int))
 | [],_=> .nil
 | (k,x)::qs,h=> .cons (.tup (h k x (dw ..)) (FH _)) (FU fun k x hk=>h k x (cX _ hk))
end
section
variable{Z:Zx}{ρ:List (Option T)}{O:AG}{e:Expr}{Φ:BL}{p pos:Pos}{ks:List (List Int)}
theorem MR{m:Nat}(mm:Z.X.mg "sorted" =none)(h:ET Z ρ O e (.lst (ks.map fun r=>T.tup (r.map T.int))))(hk:∀k∈ks,k.length=m+1∧∀z∈k,0≤z∧z<32)(hn:ks.length≤9000000)(pw:ks.Pairwise (fun x y=>GrR.rk x<GrR.rk y))(hg:Gl Z.X "sorted":=by rfl)
  (he:cb [e] Z.X.env=(false,eval e Z.X.env)::cb [] Z.X.env:=by rfl):ET Z ρ O (.Call (.Name "sorted" p) [e] [] pos) (.lst (ks.map fun r=>T.tup (r.map T.int))):=fun Φ q=>
 Gq El mm JH (AL h AE he _ (fun H vs Q ok r q'=>by
  obtain⟨v,rfl,r1⟩:=r.one_inv
  obtain⟨a,xs,rfl,h1,_,r1⟩:=r1.lst_inv
  obtain⟨qs,rfl,rfl,hq⟩:=FT r1
  refine⟨a,qs,m,rfl,.inl (.inl h1),fun k x hx=> ⟨.inl (.inl (hq k x hx)),hk k (df.mpr ⟨(k,x),hx,rfl⟩)⟩,by simpa using hn,fun p ms hp pm pw2=>?_⟩
  have r2:Reps Z.K O H (ms.map fun p=>V.ref p.2) ((ms.map (·.1)).map fun r=>T.tup (r.map T.int)):=FU fun k x hx=>hq k x (pm.mem_iff.mp hx)
  have e:ms.map (·.1)=qs.map (·.1):=by
   have p1:=pm.map (fun x:List Int×Addr=>x.1)
   have lt:∀{x y:List Int},x∈qs.map (·.1)→y∈qs.map (·.1)→GrR.rk x≤GrR.rk y→GrR.rk y≤GrR.rk x→x=y:=fun{x y} hx hy a b=>by
    obtain⟨i,hi,rfl⟩:=ie hx
    obtain⟨j,hj,rfl⟩:=ie hy
    rcases gc i j with c|c|c
    ·have:=dU.mp pw i j hi hj c;omega
    ·subst c;rfl
    ·have:=dU.mp pw j i hj hi c;omega
   exact gZ.eq_of_pairwise (fun a b ha hb x y=>lt (p1.mem_iff.mp ha) hb x y) (eJ.mpr pw2) (pw.imp fun h=>gE h) p1
  rw[e] at r2
  exact q' _ _ _ O q (.new ok hp) (.lst AI (ok.none_of hp) (r2.kp (BW ok hp) ok)))) hg (by decide) (by decide) he
end
end L2.TL
namespace K63
open PySem L2 L2.TL PySem.Spec PyProof.Rows GrR
def ZV:Stmt→Expr
 | .Assign _ e _=>e
 |_=> .Constant .none 0 ⟨0,0,0,0⟩
def av:Expr→Scope
 | .ListComp _ _ sc _=>sc
 |_=>AA BV
def Zw:List Str:=["_law_web","_law_size","_law_near","_law_far_here","_law_found","_law_place","_law_ways","_law_turn","_law_longer","_law_way","_law_there"]
theorem Fs:FnScope Zw ["_law_web","_law_size"] (AA BV):=⟨rfl,rfl,rfl,by decide+kernel,rfl,by decide+kernel,by decide+kernel⟩
def aw:Scope:=relabel (av (ZV ((AY BV).getD 0 (.Pass ⟨0,0,0,0⟩)))) (hZ "_law_rings" (AA BV) 0 0 .none)
theorem ZW:(Ak ["_law_place"] [(("_law_web" :Str),0)]).Nodup:=by decide+kernel
theorem ZX:(Ak ["_law_one","_law_other"] [(("_law_place" :Str),0)]).Nodup:=by decide+kernel
theorem ZY:(Ak ["_law_way"] [(("_law_place" :Str),5),(("_law_near" :Str),2)]).Nodup:=by decide+kernel
def Uu:Stmt→List Stmt
 | .For _ _ b _ _=>b
 |_=> []
def cN(i:Nat):Stmt:=(AY BV).getD i (.Pass ⟨0,0,0,0⟩)
def ax(i:Nat):Stmt:=(Uu (cN 3)).getD i (.Pass ⟨0,0,0,0⟩)
abbrev zR(P:Program)(w:World)(K:a8)(mg:Str→Option Value)(base:Heap)(f:Addr)(cdv:Value)(A:de)(outer:List Env)(s:Shared)(H:Hp)(E:XK)(O:AG)(Ξ:Value→AG→Prop):Zx:=zB P w K mg base Zw "_law_rings" (AA BV) f cdv A outer s H E O Ξ
abbrev Hg(n:Int)(ps:List (Int×Int))(s:Nat)(FL:List (List (Option Nat)))(fd:List (List Int))(v5 v6 v7 v8 v9 v10:Option T):List (Option T):=[some (BU n ps),some (.int (s:Int)),some (Dn (As n ps)),some (ZL FL),some (.lst (fd.map Ag)),v5,v6,v7,v8,v9,v10]
theorem UB{n:Int}{ps:List (Int×Int)}(wn:WebN n ps){FL:List (List (Option Nat))}(hF:FarL n ps FL){p:Nat}(hp:(p:Int)<n){c:Nat→Int→Bool}{k:Nat}{r:List Int}(hr:r∈EZ (AK ps) c (p:Int) k){v:Nat}(hv:(v:Int)∈AK ps (lst r)):
  ∃(fs:List (Option Nat)) (d:Nat),FL[v]?=some fs∧fs[p]?=some (some d)∧Hc (Gr.Adj ps) [(p:Int)] (v:Int)=some d:=by
 obtain⟨w1,w2,_,w4,_⟩:=(CM Cc).mp hr
 have hne:r≠[]:=fun z=>by rw[z] at w1;cases w1
 have hvn:=Ck wn.hw _ _ (Bp.mp hv)
 have hl:=hF.len
 have hlt:v<FL.length:=by omega
 have al:=Wl (hF.all v _ (cc hlt))
 have wk:W (Gr.Adj ps) [(p:Int)] (r.length) (v:Int):=by
  cases r with
  |nil=>exact absurd rfl hne
  |cons x L=>
   have:x=(p:Int):=by simpa using w2
   subst this
   exact .go (OW w4 (Ca hne)) (Bp.mp hv)
 obtain⟨d,_,hD⟩:=wk.least
 refine⟨FL[v],d,cc hlt,?_,Bc hD⟩
 have:=(al.eq (p:Int) (by omega) hp d).mpr ((NM DF).mp hD)
 rwa[dS] at this
section
variable{P:Program}{w:World}{K:a8}{mg:Str→Option Value}{base:Heap}{f:Addr}{cdv:Value}{A:de}{outer:List Env}{s0:Shared}{H:Hp}{E:XK}{O:AG}{Ξ:Value→AG→Prop}
theorem UC{n:Int}{ps:List (Int×Int)}{s:Nat}{FL:List (List (Option Nat))}{fd:List (List Int)}{v8 v9 v10:Option T}{p i:Nat}{Φ:BL}{N Bk Ct:Fv}(hu:(zR P w K mg base f cdv A outer s0 H E O Ξ).X.A.units+102<cLine)(wr:WebR n ps)(hF:FarL n ps FL)(hp:(p:Int)<n)(hi:i+1<s)(hs:(s:Int)≤n)(least:∀M,Ring (Gr.Adj ps) M→s≤M.length)
  (q:∀v8 v9 v10,N (Hg n ps s FL fd (some (.int p)) (some (.lst ((EZ (AK ps) (CA (Gr.Adj ps) s p) p (i+1)).map Ag))) (some (.int (1+(i:Int)))) v8 v9 v10) O):
  DS (zR P w K mg base f cdv A outer s0 H E O Ξ) (Hg n ps s FL fd (some (.int p)) (some (.lst ((EZ (AK ps) (CA (Gr.Adj ps) s p) p i).map Ag))) (some (.int (1+(i:Int)))) v8 v9 v10) O (Uu (ax 1)) {nx:=N,rt:=Φ,bk:=Bk,ct:=Ct}:=by
 have sb:=DV
 have wn:=wr.wn
 have n1:=wr.n1
 have hz:(Kl (AK ps) (CA (Gr.Adj ps) s p (i+1)) (EZ (AK ps) (CA (Gr.Adj ps) s p) p i)).length≤8000:=Jb (c:=CA (Gr.Adj ps) s p) (k:=i+1) wn.hw wr.hp wr.n1 ⟨by omega,hp⟩ least hi
 have hin:∀r∈EZ (AK ps) (CA (Gr.Adj ps) s p) (p:Int) i,_:=fun r hr=>Rf wn.hw (p:=(p:Int)) ⟨by omega,hp⟩ hr
 have hmem:∀r∈EZ (AK ps) (CA (Gr.Adj ps) s p) (p:Int) i,r∈EZ (AK ps) (CA (Gr.Adj ps) s p) (p:Int) i:=fun r h=>h
 have q:∀v8 v9 v10,N (Hg n ps s FL fd (some (.int p)) (some (.lst ((Kl (AK ps) (CA (Gr.Adj ps) s p (i+1)) (EZ (AK ps) (CA (Gr.Adj ps) s p) p i)).map Ag))) (some (.int (1+(i:Int)))) v8 v9 v10) O:=q
 have hfar:∀r∈EZ (AK ps) (CA (Gr.Adj ps) s p) (p:Int) i,∀v:Nat,(v:Int)∈AK ps (lst r)→∃(fs:List (Option Nat)) (d:Nat),FL[v]?=some fs∧fs[p]?=some (some d)∧CA (Gr.Adj ps) s p (i+1) (v:Int)=decide (d≤s- (i+1)):=fun r hr v hv=>by
  obtain⟨fs,d,h1,h2,h3⟩:=UB wn hF hp hr hv
  exact⟨fs,d,h1,h2,by unfold CA;rw[h3]⟩
 generalize CA (Gr.Adj ps) s p (i+1)=c at*
 generalize EZ (AK ps) (CA (Gr.Adj ps) s p) (p:Int) i=rs at*
 refine AF (AV 8 (ER (Ai ⟨eS _,fun l hl=>?_⟩)) Fs.nd)
 refine AF (BF Ae.own rfl (EI.wi (Av (ev 6)) ⟨fun j ρ' O'=>∃v9 v10:Option T,ρ'=Hg n ps s FL fd (some (.int p)) (some (.lst (rs.map Ag))) (some (.int (1+(i:Int)))) (some (.raw (.ref l))) v9 v10∧O'=Aa O l ((Kl (AK ps) c (rs.take j)).map Ag),⟨v9,v10,rfl,rfl⟩,?_,?_⟩))
 ·rintro j t _ _ e ⟨v9,v10,rfl,rfl⟩
  rw[cg] at e
  cases er:rs[j]? with
  |none=>rw[er] at e;cases e
  |some r=>
   rw[er] at e
   cases e
   have hrm:=cU er
   obtain⟨h1,h2,h3⟩:=hin r hrm
   have hll:=h3 _ (Nc h1)
   obtain⟨u,hu'⟩:=dE hll.1
   have hrow:(As n ps).getD u []=AK ps (lst r):=by
    rw[Ei (by omega),Df wn.hw,←hu']
   have hlen:u< (As n ps).length:=by have:=(GI wn).len;omega
   refine⟨Hg n ps s FL fd (some (.int p)) (some (.lst (rs.map Ag))) (some (.int (1+(i:Int)))) (some (.raw (.ref l))) (some (Ag r)) v10,AU 9 Fs.nd (by show 9<11;decide),?_⟩
   refine AJ (BF Ae.own rfl (EI.wi (Av (ts:=(AK ps (lst r)).map T.int) (ET.cast (Dw (ev 2) (ET.cast (Af (ts:=r.map T.int) (ev 9) (QC AB) (Nb h1)) (by rw[hu'])) (GF hlen)) (by rw[hrow]))) ⟨fun k ρ' O'=>∃v10:Option T,ρ'=Hg n ps s FL fd (some (.int p)) (some (.lst (rs.map Ag))) (some (.int (1+(i:Int)))) (some (.raw (.ref l))) (some (Ag r)) v10∧O'=Aa O l ((Kl (AK ps) c (rs.take j)++Jc c r ((AK ps (lst r)).take k)).map Ag),⟨v10,rfl,by rw[lg];show _=Aa O l ((_++[]).map _);rw[eZ]⟩,?_,?_⟩))
   ·rintro k t _ _ e ⟨v10,rfl,rfl⟩
    rw[cg] at e
    cases ei:(AK ps (lst r))[k]? with
    |none=>rw[ei] at e;cases e
    |some v=>
     rw[ei] at e
     cases e
     have hvm:=cU ei
     have hv:=Ck wn.hw _ _ (Bp.mp hvm)
     obtain⟨y,rfl⟩:=dE hv.1
     obtain⟨fs,d,g1,g2,g3⟩:=hfar r hrm y hvm
     refine⟨Hg n ps s FL fd (some (.int p)) (some (.lst (rs.map Ag))) (some (.int (1+(i:Int)))) (some (.raw (.ref l))) (some (Ag r)) (some (.int y)),AU 10 Fs.nd (by show 10<11;decide),?_⟩
     have a1:atI (FL.map fun fs=>T.lst (fs.map AS)) (y:Int)=some (.lst (fs.map AS)):=BB (by rw[cg,g1];rfl)
     have a2:atI (fs.map AS) (p:Int)=some (.int (d:Int)):=BB (by rw[cg,g2];rfl)
     have step:(AK ps (lst r)).take (k+1)=(AK ps (lst r)).take k++[(y:Int)]:=by rw[fu,ei];rfl
     refine AJ (BY (k:=c (y:Int)&&!decide ((y:Int)∈r)) (EW.eb (EW.cast (Dv (EB.cast (BN (We hu) rfl (QY (t:=.int (y:Int)) (us:=r.map T.int) (by rw[DJ]) LD (by show 0≤100;decide)) (ev 10) (ev 9)) (by rw[De])) fun _=>Cw (YY (Dw (Dw (ev 3) (ev 10) a1) (ev 5) a2) (Dt (ev 1) (ev 7)))) ?_)) (fun h=>?_) (fun h=>BS ?_))
     ·rw[g3,Bool.and_comm]
      congr 1
      exact decide_eq_decide.mpr (by omega)
     ·have hb:=Tz (nb:=AK ps) (c:=c) er (k+1)
      rw[step,FR,if_pos h,dh] at hb
      refine AJ (Cy (Bo (ET.we (ev 8) ⟨l,rfl,⟨_,AD⟩,ET.we (Su (ts:=r.map T.int) (us:=[.int (y:Int)]) (ev 9) (BX (AZ (ev 10) AE)) (by simp only[b8,c9,gH];omega)) ⟨_,AD,by rw[b8,dh];simp only[c9,gH] at hb;omega,⟨_,rfl,?_⟩⟩⟩)))
      rw[BC,step,FR,if_pos h]
      congr 1
      simp only[dH,fe]
      congr 2
      simp[Ag]
     ·refine⟨_,rfl,?_⟩
      rw[step,FR,if_neg (by rw[h];decide),eZ]
   ·rintro _ _ ⟨v10,rfl,rfl⟩
    refine⟨_,_,rfl,?_⟩
    rw[b8,fj,←LF,fu,er]
    rfl
 ·rintro _ _ ⟨v9,v10,rfl,rfl⟩
  rw[b8,fj]
  refine Bx (p:=l) (n:=8) (ts:=(Kl (AK ps) c rs).map Ag) AD hl rfl ?_
  rw[Ax hl]
  exact AJ (AV 6 (ET.we (ev 8) (q _ _ _)) Fs.nd)
def ZZ:DR:=Ry fun ts t=>∃(n:Int) (ps:List (Int×Int)) (s:Nat),ts=[BU n ps,.int (s:Int)]∧WebR n ps∧3≤s∧(s:Int)≤n∧(∀M,Ring (Gr.Adj ps) M→s≤M.length)∧t=.lst ((DC (Gr.Adj ps) (AK ps) s n.toNat).map Ag)
theorem Za{fd:dA}(F:Fun K "_law_rings" "_law_rings" BV f fd)(Tx:Txt mg)(G:FnT P w K mg base "_law_far" 1 ["_law_web"] Up):FnOk P w K mg base (CXe P w) 2 f fd ["_law_web","_law_size"] (Dl K ZZ):=by
 refine Aj F Fs ?_ ?_
 ·rintro ts O Φ Ξ ⟨r,⟨n,ps,s,rfl,_⟩,_⟩
  rfl
 ·rintro cdv A outer s0 H E O Ξ hr xf _ Φ ⟨_,⟨n,ps,s,rfl,wr,h3,hsn,least,rfl⟩,q⟩
  have sb:=DV
  have wn:=wr.wn
  have n0:=wr.n0
  have n1:=wr.n1
  have hpl:=wn.hl
  have hu:(A.deeper (hZ "_law_rings" (AA BV) s0.heap.objs.size f cdv)).units+102<cLine:=by have:=hr.un;omega
  have hnr:((dN n.toNat).map fun(i:Nat)=>T.lst ((AK ps (i:Int)).map T.int))=(As n ps).map fun r=>T.lst (r.map T.int):=by
   unfold As
   rw[eu]
   exact kA fun i _=>by rw[Function.comp,Df wn.hw]
  refine AF (AV 2 (ET.we (t:=Dn (As n ps)) (ET.cast (By ["_law_place"] [("_law_web",0)] (dN n.toNat) (fun(i:Nat)=>T.int (0+(i:Int))) (fun(i:Nat)=> .lst ((AK ps (i:Int)).map T.int)) rfl (Bl (AA BV) Zw (by decide+kernel)) (Ap Tx.nRange (Af (t:=.int n) (ev 0) AB) (by omega)) (by rw[iI];omega) fun x hx=> ⟨[some (.int (0+(x:Int))),some (BU n ps)],fun X' Oe He is O'=>?near⟩) (by rw[hnr])) ?_) Fs.nd)
  case near=>
   obtain⟨cl,s',H',fp,rfl⟩:=is
   rw[jz]
   refine⟨AU 0 ZW (by decide),ET.cast (Gx ["_law_one","_law_other"] [("_law_place",0)] ps AC (fun p=> .int (p.1+p.2- (x:Int))) (fun p=>decide ((x:Int)∈[p.1,p.2])) rfl (Bl aw ["_law_place","_law_web"] (by decide+kernel)) (Cz (Af (ev 1) AB)) (by omega) fun y hy=> ⟨[some (.int y.1),some (.int y.2),some (.int (x:Int))],fun X'' Oe' He' is' O''=>?_⟩) ?_⟩
   ·obtain⟨cl',s'',H'',fp',rfl⟩:=is'
    exact⟨BD 0 1 rfl ZX (by decide) (by decide),EB.cast (BN (Ui hu) rfl (QY (t:=.int (x:Int)) (us:=[y.1,y.2].map T.int) (by rw[DJ]) GG (by show 0≤100;decide)) (ev 2) (BX (AZ (ev 0) (AZ (ev 1) AE)) (by show 2≤sizeLine;decide))) De,fun _=>Dt (BM (ev 0) (ev 1)) (ev 2)⟩
   ·unfold AK
    rw[eu]
    rfl
  refine AF (AV 3 (Ac G (hr.mono (by decide)) xf (EA.wa (AZ (ev 0) AE) ⟨n,ps,rfl,wn,fun FL hF=>?_⟩)) Fs.nd)
  refine AF (AV 4 (ET.we (t:=.lst (([]:List (List Int)).map Ag)) (Bw AE (eS _)) ?_) Fs.nd)
  have big:∀j,j≤n.toNat→((dN j).flatMap fun(i:Nat)=>Fo (Gr.Adj ps) (AK ps) s (i:Int)).length≤j*8000:=fun j hj=>by
   have:=Km (f:=fun(i:Nat)=>Fo (Gr.Adj ps) (AK ps) s (i:Int)) (m:=8000) (xs:=dN j) fun i hi=>by
    have hi:=e8.mp hi
    exact dZ (j4 ..) (Jb wn.hw wr.hp n1 (p:=(i:Int)) ⟨by omega,by omega⟩ least (by omega))
   rwa[iI] at this
  refine AF (BF Ae.own rfl (EI.wi (Ap Tx.nRange (Af (t:=.int n) (ev 0) AB) (by omega)) ⟨fun j ρ' O'=>∃v5 v6 v7 v8 v9 v10:Option T,O'=O∧ρ'=Hg n ps s FL ((dN j).flatMap fun(i:Nat)=>Fo (Gr.Adj ps) (AK ps) s (i:Int)) v5 v6 v7 v8 v9 v10,⟨none,none,none,none,none,none,rfl,rfl⟩,?_,?_⟩))
  ·rintro j t _ _ ej ⟨v5,v6,v7,v8,v9,v10,rfl,rfl⟩
   obtain⟨hj,rfl⟩:=Ao ej
   rw[jz]
   have hp:(j:Int)<n:=by omega
   have hb:=big (j+1) (by omega)
   have hstep:((dN (j+1)).flatMap fun(i:Nat)=>Fo (Gr.Adj ps) (AK ps) s (i:Int))=((dN j).flatMap fun(i:Nat)=>Fo (Gr.Adj ps) (AK ps) s (i:Int))++Fo (Gr.Adj ps) (AK ps) s (j:Int):=by
    rw[List.range_succ,kH]
    simp
   rw[hstep,dh] at hb
   generalize ((dN j).flatMap fun(i:Nat)=>Fo (Gr.Adj ps) (AK ps) s (i:Int))=fd0 at*
   refine⟨Hg n ps s FL fd0 (some (.int (j:Int))) v6 v7 v8 v9 v10,AU 5 Fs.nd (by show 5<11;decide),?_⟩
   refine AF (AV 6 (ET.we (t:=.lst ([[(j:Int)]].map Ag)) (Bw (AZ (BX (AZ (ev 5) AE)) AE) (by show 1≤sizeLine;decide)) ?_) Fs.nd)
   refine AF (BF Ae.own rfl (EI.wi (Ci Tx.nRange AB (ev 1) (by omega)) ⟨fun i ρ' O'=>∃v7 v8 v9 v10:Option T,O'=O'∧ρ'=Hg n ps s FL fd0 (some (.int (j:Int))) (some (.lst ((EZ (AK ps) (CA (Gr.Adj ps) s j) (j:Int) i).map Ag))) v7 v8 v9 v10∧O'=_,⟨v7,v8,v9,v10,rfl,rfl,rfl⟩,?_,?_⟩))
   ·rintro i t _ _ ei ⟨v7,v8,v9,v10,_,rfl,rfl⟩
    obtain⟨hi,rfl⟩:=Ao ei
    exact⟨_,AU 7 Fs.nd (by show 7<11;decide),UC hu wr hF hp (by omega) hsn least fun v8 v9 v10=> ⟨_,_,_,_,rfl,rfl,rfl⟩⟩
   ·rintro _ _ ⟨v7,v8,v9,v10,_,rfl,rfl⟩
    rw[Ad]
    have es:((s:Int)-1).toNat=s-1:=by omega
    rw[es]
    have hel:(EZ (AK ps) (CA (Gr.Adj ps) s j) (j:Int) (s-1)).length≤8000:=Jb wn.hw wr.hp n1 (p:=(j:Int)) ⟨by omega,hp⟩ least (by omega)
    have hin:∀r∈EZ (AK ps) (CA (Gr.Adj ps) s j) (j:Int) (s-1),_:=fun r hr=>Rf wn.hw (p:=(j:Int)) ⟨by omega,hp⟩ hr
    have hlw:Fo (Gr.Adj ps) (AK ps) s (j:Int)=(EZ (AK ps) (CA (Gr.Adj ps) s j) (j:Int) (s-1)).filter fun r=>decide ((j:Int)∈AK ps (lst r)):=rfl
    rw[hlw] at hstep hb
    generalize EZ (AK ps) (CA (Gr.Adj ps) s j) (j:Int) (s-1)=rs at*
    refine AJ (AV 4 (ET.we (Dd (us:=(rs.filter fun r=>decide ((j:Int)∈AK ps (lst r))).map Ag) (ev 4) (Gx ["_law_way"] [("_law_place",5),("_law_near",2)] rs Ag Ag (fun r=>decide ((j:Int)∈AK ps (lst r))) rfl (Bl (AA BV) Zw (by decide+kernel)) (Av (ev 6)) (by omega) fun r hr=> ⟨[some (Ag r),some (.int (j:Int)),some (Dn (As n ps))],fun X' Oe He is O'=>?_⟩) ?_) ?_) Fs.nd)
    ·obtain⟨cl,s',H',fp,rfl⟩:=is
     obtain⟨h1,h2,h4⟩:=hin r hr
     have hll:=h4 _ (Nc h1)
     obtain⟨u,hu'⟩:=dE hll.1
     have hrow:(As n ps).getD u []=AK ps (lst r):=by
      rw[Ei (by omega),Df wn.hw,←hu']
     have hlen:u< (As n ps).length:=by have:=(GI wn).len;omega
     exact⟨AU 0 ZY (by decide),EB.cast (BN (Ui hu) rfl (Wf (t:=.int (j:Int)) (us:=(AK ps (lst r)).map T.int) (by rw[DJ]) GG (by show 0≤100;decide)) (ev 1) (ET.cast (Dw (ev 2) (ET.cast (Af (ts:=r.map T.int) (ev 0) (QC AB) (Nb h1)) (by rw[hu'])) (GF hlen)) (by rw[hrow]))) De,fun _=>ev 0⟩
    ·rw[b8,b8]
     omega
    ·refine⟨some (.int (j:Int)),some (.lst (rs.map Ag)),v7,v8,v9,v10,rfl,?_⟩
     rw[hstep]
     show _=[_,_,_,_,some (T.lst ((fd0++_).map Ag)),_,_,_,_,_,_]
     rw[dH]
     rfl
  ·rintro _ _ ⟨v5,v6,v7,v8,v9,v10,rfl,rfl⟩
   rw[Ad]
   have hb:=big n.toNat (cW _)
   have hmem:∀r∈DC (Gr.Adj ps) (AK ps) s n.toNat,r.length=(s-1)+1∧∀z∈r,0≤z∧z<32:=fun r hr=>by
    obtain⟨h1,h2⟩:=(Cj DF Cc (Ck wn.hw) h3).mp hr
    exact⟨by omega,fun z hz=>by have:=JQ (Ck wn.hw) h1 z hz;omega⟩
   exact AJ (AW (ET.we (MR (ks:=DC (Gr.Adj ps) (AK ps) s n.toNat) (m:=s-1) Tx.nSorted (ev 4) hmem (by show _≤_;unfold DC;omega) (Fg (FQ wn.hw wr.hp) (fun u v h=>by have:=Ck wn.hw u v (Bp.mp h);omega))) q))
end
section
variable{P:Program}{w:World}{K:a8}{mg:Str→Option Value}{base:Heap}{f:Addr}{cdv:Value}{A:de}{outer:List Env}{s:Shared}{H:Hp}{E:XK}{O0 O2:AG}{Ξ:Value→AG→Prop}{p:Addr}{most way n:Int}{es:List (Int×Int)}{v5:Option T}{Φ:BL}{N:Fv}
theorem cO(hr:Room 2 (zS P w K mg base f cdv A outer s H E O0 Ξ).X.A)(xf:XFly (zS P w K mg base f cdv A outer s H E O0 Ξ).X (zS P w K mg base f cdv A outer s H E O0 Ξ).W)(Tx:Txt mg)(G:FnT P w K mg base "_law_draw" 2 ["_law_pen","_law_many"] Az)(po2:PO O0 p O2)(w0:0≤way)(n0:1≤n)(n1:n≤16)(he:∀q∈es,AQ n q)(hz:es.length≤256)
  (q:∀(ps:List (Int×Int)) (O':AG),(∀q∈ps,AQ n q)→ps.length≤256→PO O0 p O'→Φ (.tup [.int n,.tup (ps.map AC)]) O') (w3:way<3):HS (zS P w K mg base f cdv A outer s H E O0 Ξ) (EC p most way n es v5) O2 (ZH (FP 4)) {nx:=N,rt:=Φ}:=by
 have sb:=Ab
 refine⟨?_⟩
 obtain⟨mm,em,mm0,mm1⟩:=ZG w0 w3
 refine AJ (AW (Be (Bm (ET.we (ev 3) (Bm (Ba Tx.nTuple (II (nc:=["_law_pair"]) (cap:=[("_law_pen",0),("_law_way",2)]) rfl (Bl (AA Bg) DD (by decide+kernel)) (EI.wi (Av (ev 4)) ?_))))))))
 refine⟨fun i acc O'=>∃qs:List (Int×Int),acc=qs.map AC∧(∀z∈qs,AQ n z)∧qs.length≤i∧i≤256∧PO O0 p O',⟨[],rfl,by simp,by simp,by omega,po2⟩,?_,?_⟩
 ·rintro i t acc O' c e ⟨qs,rfl,hq,hl,_,po⟩ hc
  rw[cg] at e
  cases ee:es[i]? with
  |none=>rw[ee] at e;cases e
  |some z=>
   rw[ee] at e
   cases e
   have hi:=(cw.mp ee).1
   refine⟨[some (AC z),some (.raw (.ref p)),some (.int way)],fun X' Oe He is=>?_⟩
   obtain⟨cl,s',H',fp,rfl⟩:=is
   refine⟨AU 0 ZC (by decide),JF (Lz Md (Au _) (Bz G hr ES po hc (ev 1) (Dw (Bw (AZ AB (AZ AB (AZ AB AE))) (by show 3≤sizeLine;decide)) (ev 2) em) mm0 mm1 fun r O3 r0 r1 po3 hc3=>ET.we AB (Ly _ ⟨_,rfl,?_⟩)))⟩
   refine Vk (fun h=>?_) (fun h=>?_)
   ·rintro X' Oe He ⟨cl,s',H',fp,rfl⟩
    refine ET.we (ev 0) ⟨O3,rfl,hc3,by rw[b8];omega,qs++[z],by rw[dH];rfl,fun y hy=>?_,by simp;omega,by omega,po3⟩
    rcases dt.mp hy with hy|hy
    ·exact hq y hy
    ·rw[cq.mp hy];exact he z (cU ee)
   ·exact⟨O3,rfl,hc3,qs,rfl,hq,by omega,by omega,po3⟩
 ·rintro acc O' ⟨qs,rfl,hq,hl,_,po⟩
  rw[b8] at hl
  exact⟨_,rfl,Ai ⟨by show 2≤sizeLine;decide,q qs O' hq (by omega) po⟩⟩
end
section
variable{P:Program}{w:World}{K:a8}{mg:Str→Option Value}{base:Heap}{f:Addr}{cdv:Value}{A:de}{outer:List Env}{s:Shared}{H:Hp}{E:XK}{O0 O2:AG}{Ξ:Value→AG→Prop}{p:Addr}{most way n:Int}{es:List (Int×Int)}{v5:Option T}{Φ:BL}{N:Fv}
theorem cP(hr:Room 2 (zS P w K mg base f cdv A outer s H E O0 Ξ).X.A)(xf:XFly (zS P w K mg base f cdv A outer s H E O0 Ξ).X (zS P w K mg base f cdv A outer s H E O0 Ξ).W)(Tx:Txt mg)(G:FnT P w K mg base "_law_draw" 2 ["_law_pen","_law_many"] Az)(po2:PO O0 p O2)(w0:0≤way)(n0:1≤n)(n1:n≤16)(he:∀q∈es,AQ n q)(hz:es.length≤256)
  (q:∀(ps:List (Int×Int)) (O':AG),(∀q∈ps,AQ n q)→ps.length≤256→PO O0 p O'→Φ (.tup [.int n,.tup (ps.map AC)]) O') (n2:2<n) (Gt:FnT P w K mg base "_law_turned" 2 ["_law_many","_law_steps"] DT):HS (zS P w K mg base f cdv A outer s H E O0 Ξ) (EC p most way n es v5) O2 (ZH (FP 5)) {nx:=N,rt:=Φ}:=by
 have sb:=Ab
 refine⟨?_⟩
 refine AJ (AW (Ac Gt hr xf (Bm (ET.we (ev 3) (Bm (II (nc:=["_law_step"]) (cap:=[("_law_pen",0)]) rfl (Bl (AA Bg) DD (by decide+kernel)) (EI.wi (Ci Tx.nRange AB (BM (JD (ev 3) AB ⟨by decide,by decide⟩) AB) ⟨by decide,by decide,by omega,by omega⟩) ?_)))))))
 refine⟨fun i acc O'=>∃ss:List Int,acc=ss.map T.int∧(∀z∈ss,1≤z∧z<n)∧ss.length≤i∧i≤16∧PO O0 p O',⟨[],rfl,by simp,by simp,by omega,po2⟩,?_,?_⟩
 ·rintro i t acc O' c e ⟨qs,rfl,hq,hl,_,po⟩ hc
  obtain⟨hi,rfl⟩:=Ao e
  refine⟨[some (.int (1+i)),some (.raw (.ref p))],fun X' Oe He is=>?_⟩
  obtain⟨cl,s',H',fp,rfl⟩:=is
  refine⟨AU 0 ZD (by decide),JF (Lz Md (Au _) (Bz G hr ES po hc (ev 1) AB (by decide) (by decide) fun r O3 r0 r1 po3 hc3=>ET.we AB (Ly _ ⟨_,rfl,?_⟩)))⟩
  refine Vk (fun h=>?_) (fun h=>?_)
  ·rintro X' Oe He ⟨cl,s',H',fp,rfl⟩
   refine ET.we (ev 0) ⟨O3,rfl,hc3,by rw[b8];omega,qs++[1+(i:Int)],by rw[dH];rfl,fun y hy=>?_,by simp;omega,by omega,po3⟩
   rcases dt.mp hy with hy|hy
   ·exact hq y hy
   ·rw[cq.mp hy];omega
  ·exact⟨O3,rfl,hc3,qs,rfl,hq,by omega,by omega,po3⟩
 ·rintro acc O' ⟨ss,rfl,hq,hl,hl2,po⟩
  exact Ai ⟨n,ss,rfl,by omega,by omega,by omega,hq,fun qs _ h2 h3=>q qs O' h2 h3 po⟩
end
section
variable{P:Program}{w:World}{K:a8}{mg:Str→Option Value}{base:Heap}{f:Addr}{cdv:Value}{A:de}{outer:List Env}{s:Shared}{H:Hp}{E:XK}{O0 O2:AG}{Ξ:Value→AG→Prop}{p:Addr}{most way n:Int}{es:List (Int×Int)}{v5:Option T}{Φ:BL}{N:Fv}
theorem cQ(hr:Room 2 (zS P w K mg base f cdv A outer s H E O0 Ξ).X.A)(xf:XFly (zS P w K mg base f cdv A outer s H E O0 Ξ).X (zS P w K mg base f cdv A outer s H E O0 Ξ).W)(Tx:Txt mg)(G:FnT P w K mg base "_law_draw" 2 ["_law_pen","_law_many"] Az)(po2:PO O0 p O2)(w0:0≤way)(n0:1≤n)(n1:n≤16)(he:∀q∈es,AQ n q)(hz:es.length≤256)
  (q:∀(ps:List (Int×Int)) (O':AG),(∀q∈ps,AQ n q)→ps.length≤256→PO O0 p O'→Φ (.tup [.int n,.tup (ps.map AC)]) O')  :HS (zS P w K mg base f cdv A outer s H E O0 Ξ) (EC p most way n es v5) O2 (ZH (FP 6)) {nx:=N,rt:=Φ}:=by
 have sb:=Ab
 refine⟨?_⟩
 refine AF (AV 6 (FZ GM (ET.we AB (JW G hr xf po2 (ev 0) (ev 3) (by omega) (by omega) fun side O3 u0 u1 po3=>IG _ ?_))) CO.nd)
 refine AJ (AW (Be (Bm (ET.we (ev 3) (Bm (ET.we (Gu Tx.nTuple (Gx ["_law_one","_law_other"] [("_law_side",6)] es AC AC (fun z=>!(decide (z.1<1+side)==decide (z.2<1+side))) rfl (Bl (AA Bg) DD (by decide+kernel)) (Av (ev 4)) (by omega) fun x hx=> ⟨[some (.int x.1),some (.int x.2),some (.int (1+side))],fun X' Oe He is O'=>?_⟩)) (Ai ⟨by show 2≤sizeLine;decide,?_⟩)))))))
 ·obtain⟨cl,s',H',fp,rfl⟩:=is
  exact⟨BD 0 1 rfl ZE (by decide) (by decide),WD (UX (ev 0) (ev 2)) (UX (ev 1) (ev 2)),fun _=>BG (ev 0) (ev 1)⟩
 ·exact q _ O3 (fun z hz=>he z (eE.mp hz).1) (dZ (j4 _ _) hz) po3
end
section
variable{P:Program}{w:World}{K:a8}{mg:Str→Option Value}{base:Heap}{f:Addr}{cdv:Value}{A:de}{outer:List Env}{s:Shared}{H:Hp}{E:XK}{O0 O2:AG}{Ξ:Value→AG→Prop}{p:Addr}{most way n:Int}{es:List (Int×Int)}{v5:Option T}{Φ:BL}{N:Fv}
theorem cR(hr:Room 2 (zS P w K mg base f cdv A outer s H E O0 Ξ).X.A)(xf:XFly (zS P w K mg base f cdv A outer s H E O0 Ξ).X (zS P w K mg base f cdv A outer s H E O0 Ξ).W)(Tx:Txt mg)(G:FnT P w K mg base "_law_draw" 2 ["_law_pen","_law_many"] Az)(po2:PO O0 p O2)(w0:0≤way)(n0:1≤n)(n1:n≤16)(he:∀q∈es,AQ n q)(hz:es.length≤256)
  (q:∀(ps:List (Int×Int)) (O':AG),(∀q∈ps,AQ n q)→ps.length≤256→PO O0 p O'→Φ (.tup [.int n,.tup (ps.map AC)]) O') (q10:∀(ps:List (Int×Int)) (O':AG),(∀q∈ps,AQ 10 q)→ps.length≤256→PO O0 p O'→Φ (.tup [.int 10,.tup (ps.map AC)]) O'):HS (zS P w K mg base f cdv A outer s H E O0 Ξ) (EC p most way n es v5) O2 (ZH (FP 7)) {nx:=N,rt:=Φ}:=by
 have sb:=Ab
 refine⟨?_⟩
 refine AF ?_
 refine Sw (ts:=List.map AC [(0,1),(1,2),(2,3),(3,4),(0,4),(5,7),(7,9),(6,9),(6,8),(5,8)]) 7 ?hE ?hl ?hk CO.nd ?ha ?hb ?hc
 case ha=>rfl
 case hb=>exact ku rfl
 case hc=>exact .inl rfl
 case hE=>exact CPs.hea (ps:=[(0,1),(1,2),(2,3),(3,4),(0,4),(5,7),(7,9),(6,9),(6,8),(5,8)]) (.cons (.cons (.cons (.cons (.cons (.cons (.cons (.cons (.cons (.cons .nil))))))))))
 case hl=>
  rw[b8]
  exact dZ (show 10≤1000 by decide) (iG sb)
 refine AJ ?_
 refine AW ?_
 refine Be ?_
 refine Bm (ET.we AB ?_)
 refine Bm ?_
 refine ET.we (t:=.tup (List.map AC [(0,1),(1,2),(2,3),(3,4),(0,4),(5,7),(7,9),(6,9),(6,8),(5,8)]++(dN 5).map fun(j:Nat)=>AC (0+(j:Int),0+(j:Int)+5))) ?u3 ?u4
 case u3=>
  refine Gu Tx.nTuple ?_
  refine Dd (ev 7) ?_ (by rw[b8,b8];exact dZ (show 15≤1000 by decide) (iG sb))
  refine By ["_law_place"] [] (dN 5) (fun(j:Nat)=> .int (0+(j:Int))) (fun(j:Nat)=>AC (0+(j:Int),0+(j:Int)+5)) rfl (Bl (AA Bg) DD (by decide+kernel)) ?_ (by show 5≤sizeLine;decide) ?_
  ·exact Ap (k:=5) Tx.nRange AB ⟨by decide,by decide⟩
  ·intro x hx
   refine⟨[some (.int (0+x))],fun X' Oe He is O'=>?_⟩
   obtain⟨cl,s',H',fp,rfl⟩:=is
   exact⟨AU 0 Uo (by decide),BG (ev 0) (BM (ev 0) AB)⟩
 refine Ai ⟨by show 2≤sizeLine;decide,?_⟩
 refine q10 [(0,1),(1,2),(2,3),(3,4),(0,4),(5,7),(7,9),(6,9),(6,8),(5,8),(0,5),(1,6),(2,7),(3,8),(4,9)] O2 ?_ (by decide) po2
 unfold AQ
 decide
end
section
variable{P:Program}{w:World}{K:a8}{mg:Str→Option Value}{base:Heap}{f:Addr}{cdv:Value}{A:de}{outer:List Env}{s:Shared}{H:Hp}{E:XK}{O0 O2:AG}{Ξ:Value→AG→Prop}{p:Addr}{most way n:Int}{es:List (Int×Int)}{v5:Option T}{Φ:BL}{N:Fv}
theorem cS(hr:Room 2 (zS P w K mg base f cdv A outer s H E O0 Ξ).X.A)(xf:XFly (zS P w K mg base f cdv A outer s H E O0 Ξ).X (zS P w K mg base f cdv A outer s H E O0 Ξ).W)(Tx:Txt mg)(G:FnT P w K mg base "_law_draw" 2 ["_law_pen","_law_many"] Az)(po2:PO O0 p O2)(w0:0≤way)(n0:1≤n)(n1:n≤16)(he:∀q∈es,AQ n q)(hz:es.length≤256)
  (q:∀(ps:List (Int×Int)) (O':AG),(∀q∈ps,AQ n q)→ps.length≤256→PO O0 p O'→Φ (.tup [.int n,.tup (ps.map AC)]) O') (n2:2<n):HS (zS P w K mg base f cdv A outer s H E O0 Ξ) (EC p most way n es v5) O2 (ZH (FP 8)) {nx:=N,rt:=Φ}:=by
 have sb:=Ab
 refine⟨?_⟩
 refine AJ (AW (Be (Bm (ET.we (ev 3) (Bm (ET.we (Gu Tx.nTuple (Dd (us:=[AC (0,n-1)]) (By ["_law_place"] [] (dN (n-1).toNat) (fun j=> .int (0+j)) (fun j=>AC (0+j,0+j+1)) rfl (Bl (AA Bg) DD (by decide+kernel)) (Ap Tx.nRange (Dt (ev 3) AB) ⟨by omega,by omega⟩) (by simp;omega) fun x hx=> ⟨[some (.int (0+x))],fun X' Oe He is O'=>?_⟩) (Bw (AZ (BG AB (Dt (ev 3) AB)) AE) (by show 1≤sizeLine;decide)) (by simp;omega))) (Ai ⟨by show 2≤sizeLine;decide,?_⟩)))))))
 ·obtain⟨cl,s',H',fp,rfl⟩:=is
  exact⟨AU 0 Uo (by decide),BG (ev 0) (BM (ev 0) AB)⟩
 ·have:=q ((dN (n-1).toNat).map (fun(j:Nat)=> (0+(j:Int),0+(j:Int)+1))++[(0,n-1)]) O2 (fun z hz=>by
   rcases dt.mp hz with hz|hz
   ·obtain⟨j,hj,rfl⟩:=df.mp hz
    have:=e8.mp hj
    show 0≤0+(j:Int)∧0+(j:Int)<0+(j:Int)+1∧0+(j:Int)+1<n
    omega
   ·rw[cq.mp hz]
    show(0:Int)≤0∧0<n-1∧n-1<n
    omega) (by simp;omega) po2
  rw[dH,eu] at this
  exact this
end
section
variable{P:Program}{w:World}{K:a8}{mg:Str→Option Value}{base:Heap}{f:Addr}{cdv:Value}{A:de}{outer:List Env}{s:Shared}{H:Hp}{E:XK}{O0 O2:AG}{Ξ:Value→AG→Prop}{p:Addr}{most way n:Int}{es:List (Int×Int)}{v5:Option T}{Φ:BL}{N:Fv}
theorem cT(hr:Room 2 (zS P w K mg base f cdv A outer s H E O0 Ξ).X.A)(xf:XFly (zS P w K mg base f cdv A outer s H E O0 Ξ).X (zS P w K mg base f cdv A outer s H E O0 Ξ).W)(Tx:Txt mg)(G:FnT P w K mg base "_law_draw" 2 ["_law_pen","_law_many"] Az)(po2:PO O0 p O2)(w0:0≤way)(n0:1≤n)(n1:n≤16)(he:∀q∈es,AQ n q)(hz:es.length≤256)
  (q:∀(ps:List (Int×Int)) (O':AG),(∀q∈ps,AQ n q)→ps.length≤256→PO O0 p O'→Φ (.tup [.int n,.tup (ps.map AC)]) O')  :HS (zS P w K mg base f cdv A outer s H E O0 Ξ) (EC p most way n es v5) O2 ([FP 9]) {nx:=N,rt:=Φ}:=by
 have sb:=Ab
 refine⟨?_⟩
 refine AJ (AW (Be (Bm (ET.we (ev 3) (Bm (Ba Tx.nTuple (II (nc:=["_law_place"]) (cap:=[("_law_pen",0)]) rfl (Bl (AA Bg) DD (by decide+kernel)) (EI.wi (Ci Tx.nRange AB (ev 3) ⟨by decide,by decide,by omega,by omega⟩) ?_))))))))
 refine⟨fun i acc O'=>∃qs:List (Int×Int),acc=qs.map AC∧(∀z∈qs,AQ n z)∧qs.length≤i∧i≤16∧PO O0 p O',⟨[],rfl,by simp,by simp,by omega,po2⟩,?_,?_⟩
 ·rintro i t acc O' c e ⟨qs,rfl,hq,hl,_,po⟩ hc
  obtain⟨hi,rfl⟩:=Ao e
  refine⟨[some (.int (1+i)),some (.raw (.ref p))],fun X' Oe He is=>?_⟩
  obtain⟨cl,s',H',fp,rfl⟩:=is
  refine⟨AU 0 ZF (by decide),Dc (Ih ?_)⟩
  rintro X' Oe He ⟨cl,s',H',fp,rfl⟩
  refine Be (Bm (Bz G hr ES po hc (ev 1) (ev 0) (by omega) (by omega) fun r O3 r0 r1 po3 hc3=>EA.wa (AZ (ev 0) AE) ⟨by show 2≤sizeLine;decide,O3,rfl,hc3,by rw[b8];omega,qs++[(r,1+(i:Int))],by rw[dH];rfl,fun y hy=>?_,by simp;omega,by omega,po3⟩))
  rcases dt.mp hy with hy|hy
  ·exact hq y hy
  ·rw[cq.mp hy]
   show 0≤r∧r<1+(i:Int)∧1+(i:Int)<n
   omega
 ·rintro acc O' ⟨qs,rfl,hq,hl,hl2,po⟩
  exact⟨_,rfl,Ai ⟨by show 2≤sizeLine;decide,q qs O' hq (by omega) po⟩⟩
end
section
variable{P:Program}{w:World}{K:a8}{mg:Str→Option Value}{base:Heap}{f:Addr}{cdv:Value}{A:de}{outer:List Env}{s:Shared}{H:Hp}{E:XK}{O0 O2:AG}{Ξ:Value→AG→Prop}{p:Addr}{most way n:Int}{es:List (Int×Int)}{v5:Option T}{Φ:BL}{N:Fv}
theorem t9(hr:Room 2 (zS P w K mg base f cdv A outer s H E O0 Ξ).X.A)(xf:XFly (zS P w K mg base f cdv A outer s H E O0 Ξ).X (zS P w K mg base f cdv A outer s H E O0 Ξ).W)(Tx:Txt mg)(G:FnT P w K mg base "_law_draw" 2 ["_law_pen","_law_many"] Az)(po2:PO O0 p O2)(w0:0≤way)(n0:1≤n)(n1:n≤16)(he:∀q∈es,AQ n q)(hz:es.length≤256)
  (q:∀(ps:List (Int×Int)) (O':AG),(∀q∈ps,AQ n q)→ps.length≤256→PO O0 p O'→Φ (.tup [.int n,.tup (ps.map AC)]) O'):HS (zS P w K mg base f cdv A outer s H E O0 Ξ) (EC p most way n es v5) O2 ([FP 9]) {nx:=N,rt:=Φ}:=by
 exact cT hr xf Tx G po2 w0 n0 n1 he hz q
theorem t8(hr:Room 2 (zS P w K mg base f cdv A outer s H E O0 Ξ).X.A)(xf:XFly (zS P w K mg base f cdv A outer s H E O0 Ξ).X (zS P w K mg base f cdv A outer s H E O0 Ξ).W)(Tx:Txt mg)(G:FnT P w K mg base "_law_draw" 2 ["_law_pen","_law_many"] Az)(po2:PO O0 p O2)(w0:0≤way)(n0:1≤n)(n1:n≤16)(he:∀q∈es,AQ n q)(hz:es.length≤256)
  (q:∀(ps:List (Int×Int)) (O':AG),(∀q∈ps,AQ n q)→ps.length≤256→PO O0 p O'→Φ (.tup [.int n,.tup (ps.map AC)]) O'):HS (zS P w K mg base f cdv A outer s H E O0 Ξ) (EC p most way n es v5) O2 ([FP 8,FP 9]) {nx:=N,rt:=Φ}:=by
 refine Ka (EW.eb (Dv (Du (ev 2) AB) fun _=>Cw (KP (ev 3) AB))) (fun h=>?_) (fun h=>t9 hr xf Tx G po2 w0 n0 n1 he hz q)
 have h:(decide (way=6)&&decide (2<n))=true:=h
 have n2:2<n:=by simp at h;exact h.2
 exact cS hr xf Tx G po2 w0 n0 n1 he hz q n2
theorem t7(hr:Room 2 (zS P w K mg base f cdv A outer s H E O0 Ξ).X.A)(xf:XFly (zS P w K mg base f cdv A outer s H E O0 Ξ).X (zS P w K mg base f cdv A outer s H E O0 Ξ).W)(Tx:Txt mg)(G:FnT P w K mg base "_law_draw" 2 ["_law_pen","_law_many"] Az)(po2:PO O0 p O2)(w0:0≤way)(n0:1≤n)(n1:n≤16)(he:∀q∈es,AQ n q)(hz:es.length≤256)
  (q:∀(ps:List (Int×Int)) (O':AG),(∀q∈ps,AQ n q)→ps.length≤256→PO O0 p O'→Φ (.tup [.int n,.tup (ps.map AC)]) O') (q10:9<most→∀(ps:List (Int×Int)) (O':AG),(∀q∈ps,AQ 10 q)→ps.length≤256→PO O0 p O'→Φ (.tup [.int 10,.tup (ps.map AC)]) O'):HS (zS P w K mg base f cdv A outer s H E O0 Ξ) (EC p most way n es v5) O2 ([FP 7,FP 8,FP 9]) {nx:=N,rt:=Φ}:=by
 refine Ka (EW.eb (Dv (Du (ev 2) AB) fun _=>Cw (KP (ev 1) AB))) (fun h=>?_) (fun h=>t8 hr xf Tx G po2 w0 n0 n1 he hz q)
 have h:(decide (way=5)&&decide (9<most))=true:=h
 have n2:9<most:=by simp at h;exact h.2
 exact cR hr xf Tx G po2 w0 n0 n1 he hz q (q10 n2)
theorem t6(hr:Room 2 (zS P w K mg base f cdv A outer s H E O0 Ξ).X.A)(xf:XFly (zS P w K mg base f cdv A outer s H E O0 Ξ).X (zS P w K mg base f cdv A outer s H E O0 Ξ).W)(Tx:Txt mg)(G:FnT P w K mg base "_law_draw" 2 ["_law_pen","_law_many"] Az)(po2:PO O0 p O2)(w0:0≤way)(n0:1≤n)(n1:n≤16)(he:∀q∈es,AQ n q)(hz:es.length≤256)
  (q:∀(ps:List (Int×Int)) (O':AG),(∀q∈ps,AQ n q)→ps.length≤256→PO O0 p O'→Φ (.tup [.int n,.tup (ps.map AC)]) O') (q10:9<most→∀(ps:List (Int×Int)) (O':AG),(∀q∈ps,AQ 10 q)→ps.length≤256→PO O0 p O'→Φ (.tup [.int 10,.tup (ps.map AC)]) O'):HS (zS P w K mg base f cdv A outer s H E O0 Ξ) (EC p most way n es v5) O2 ([FP 6,FP 7,FP 8,FP 9]) {nx:=N,rt:=Φ}:=by
 exact Ka (Du (ev 2) AB) (fun h=>cQ hr xf Tx G po2 w0 n0 n1 he hz q) (fun h=>t7 hr xf Tx G po2 w0 n0 n1 he hz q q10)
theorem t5(hr:Room 2 (zS P w K mg base f cdv A outer s H E O0 Ξ).X.A)(xf:XFly (zS P w K mg base f cdv A outer s H E O0 Ξ).X (zS P w K mg base f cdv A outer s H E O0 Ξ).W)(Tx:Txt mg)(G:FnT P w K mg base "_law_draw" 2 ["_law_pen","_law_many"] Az)(po2:PO O0 p O2)(w0:0≤way)(n0:1≤n)(n1:n≤16)(he:∀q∈es,AQ n q)(hz:es.length≤256)
  (q:∀(ps:List (Int×Int)) (O':AG),(∀q∈ps,AQ n q)→ps.length≤256→PO O0 p O'→Φ (.tup [.int n,.tup (ps.map AC)]) O') (q10:9<most→∀(ps:List (Int×Int)) (O':AG),(∀q∈ps,AQ 10 q)→ps.length≤256→PO O0 p O'→Φ (.tup [.int 10,.tup (ps.map AC)]) O') (Gt:FnT P w K mg base "_law_turned" 2 ["_law_many","_law_steps"] DT):HS (zS P w K mg base f cdv A outer s H E O0 Ξ) (EC p most way n es v5) O2 ([FP 5,FP 6,FP 7,FP 8,FP 9]) {nx:=N,rt:=Φ}:=by
 refine Ka (EW.eb (Dv (Du (ev 2) AB) fun _=>Cw (KP (ev 3) AB))) (fun h=>?_) (fun h=>t6 hr xf Tx G po2 w0 n0 n1 he hz q q10)
 have h:(decide (way=3)&&decide (2<n))=true:=h
 have n2:2<n:=by simp at h;exact h.2
 exact cP hr xf Tx G po2 w0 n0 n1 he hz q n2 Gt
theorem t4(hr:Room 2 (zS P w K mg base f cdv A outer s H E O0 Ξ).X.A)(xf:XFly (zS P w K mg base f cdv A outer s H E O0 Ξ).X (zS P w K mg base f cdv A outer s H E O0 Ξ).W)(Tx:Txt mg)(G:FnT P w K mg base "_law_draw" 2 ["_law_pen","_law_many"] Az)(po2:PO O0 p O2)(w0:0≤way)(n0:1≤n)(n1:n≤16)(he:∀q∈es,AQ n q)(hz:es.length≤256)
  (q:∀(ps:List (Int×Int)) (O':AG),(∀q∈ps,AQ n q)→ps.length≤256→PO O0 p O'→Φ (.tup [.int n,.tup (ps.map AC)]) O') (q10:9<most→∀(ps:List (Int×Int)) (O':AG),(∀q∈ps,AQ 10 q)→ps.length≤256→PO O0 p O'→Φ (.tup [.int 10,.tup (ps.map AC)]) O') (Gt:FnT P w K mg base "_law_turned" 2 ["_law_many","_law_steps"] DT):HS (zS P w K mg base f cdv A outer s H E O0 Ξ) (EC p most way n es v5) O2 ([FP 4,FP 5,FP 6,FP 7,FP 8,FP 9]) {nx:=N,rt:=Φ}:=by
 exact Ka (QD (ev 2) AB) (fun h=>cO hr xf Tx G po2 w0 n0 n1 he hz q (of_decide_eq_true h)) (fun h=>t5 hr xf Tx G po2 w0 n0 n1 he hz q q10 Gt)
end
section
variable{P:Program}{w:World}{K:a8}{mg:Str→Option Value}{base:Heap}
theorem Rh{f:Addr}{fd:dA}(F:Fun K "_law_shape" "_law_shape" Bg f fd)(Tx:Txt mg)(G:FnT P w K mg base "_law_draw" 2 ["_law_pen","_law_many"] Az)(Gt:FnT P w K mg base "_law_turned" 2 ["_law_many","_law_steps"] DT):FnOk P w K mg base (CXe P w) 3 f fd ["_law_pen","_law_most"] (Dl K NQ):=by
 refine Sx F CO ?_ ?_
 ·rintro ts O Φ Ξ ⟨p,xs,m,rfl,_⟩
  rfl
 ·rintro cdv A outer s H E O0 Ξ hr xf _ Φ ⟨p,xs,most,rfl,hp,px,t0,t1,q⟩
  have sb:=Ab
  refine CJ (AV 2 (JW G hr xf (PO.start hp px) (ev 0) AB (by decide) (by decide) fun way O1 w0 w1 po1=>?_) CO.nd)
  refine CJ (AV 3 (FZ GM (ET.we AB (JW G hr xf po1 (ev 0) (ev 1) (by omega) (by omega) fun mm O2 u0 u1 po2=>IG _ ?_))) CO.nd)
  have n0:1≤1+mm:=by omega
  have n1:1+mm≤most:=by omega
  generalize 1+mm=n at n0 n1
  clear u0 u1 po1 mm
  have q':∀(ps:List (Int×Int)) (O':AG),(∀q∈ps,AQ n q)→ps.length≤256→PO O0 p O'→Φ (.tup [.int n,.tup (ps.map AC)]) O':=fun ps O' a b c=>q n ps O' n0 n1 a b c
  refine CJ (AV 4 (ET.we (Bw AE (eS _)) ?_) CO.nd)
  refine CJ (BF Ae.own rfl (EI.wi (Ap Tx.nRange (ev 3) ⟨by omega,by omega⟩) ⟨fun i ρ' O'=>∃(es:List (Int×Int)) (v5:Option T),ρ'=EC p most way n es v5∧O'=O2∧(∀q∈es,AQ n q)∧es.length≤16*i,⟨[],none,rfl,rfl,by simp,by simp⟩,?_,?_⟩))
  ·rintro i t _ _ e ⟨es,v5,rfl,rfl,he,hz⟩
   obtain⟨hi,rfl⟩:=Ao e
   refine⟨EC p most way n es (some (.int (0+i))),AU 5 CO.nd (by show 5<8;decide),?_⟩
   refine AJ (AV 4 (ET.we (Dd (ev 4) (By ["_law_one"] [("_law_other",5)] (dN (0+(i:Int)).toNat) (fun j=> .int (0+j)) (fun j=>AC (0+j,0+i)) rfl (Bl (AA Bg) DD (by decide+kernel)) (Ap Tx.nRange (ev 5) ⟨by omega,by omega⟩) (by simp;omega) fun x hx=> ⟨[some (.int (0+x)),some (.int (0+i))],fun X' Oe He is O'=>?_⟩) (by simp;omega)) ?_) CO.nd)
   ·obtain⟨cl,s',H',fp,rfl⟩:=is
    exact⟨AU 0 ZA (by decide),BG (ev 0) (ev 1)⟩
   ·refine⟨es++(dN (0+(i:Int)).toNat).map fun(j:Nat)=> (0+(j:Int),0+(i:Int)),some (.int (0+(i:Int))),?_,rfl,fun z hz=>?_,by simp;omega⟩
    ·unfold EC
     rw[dH,eu];rfl
    ·rcases dt.mp hz with hz|hz
     ·exact he z hz
     ·obtain⟨j,hj,rfl⟩:=df.mp hz
      have:=e8.mp hj
      show 0≤0+(j:Int)∧0+(j:Int)<0+(i:Int)∧0+(i:Int)<n
      omega
  ·rintro _ _ ⟨es,v5,rfl,rfl,he,hz⟩
   rw[Ad] at hz
   have hz:es.length≤256:=by omega
   have n16:n≤16:=by omega
   exact t4 hr xf Tx G po2 w0 n0 n16 he hz q' (fun n2 ps O' a b c=>q 10 ps O' (by decide) (by omega) a b c) Gt
end
end K63
namespace L2.TL
open PySem PySem.Spec PyProof.Rows
theorem Ng:∀{ns:List Int},(∀z∈ns,z.natAbs<10^12)→shBs (ns.map T.int)=true
 | [],_=>rfl
 |n::ns,h=>by
  show(EV (.int n)&&shBs (ns.map T.int))=true
  rw[Ng fun z hz=>h z (cX _ hz),EV,decide_eq_true (h n (dw ..))]
  rfl
theorem Nh:∀{ns:List Int},(∀z∈ns,z.natAbs<10^12)→iT (dTs (ns.map T.int))≤43*ns.length
 | [],_=>cW _
 |n::ns,h=>by
  show mX (dT (.int n))+1+iT (dTs (ns.map T.int))≤_
  have h1:=Nh fun z hz=>h z (cX _ hz)
  have h2:=Gy (h n (dw ..))
  rw[c9]
  omega
theorem Em:∀{L:List (List Int)},fG (dTs (L.map Ag))≤2
 | []=>by simp[dTs,fG]
 |x::L=>by
  have h1:=Em (L:=L)
  have h2:=EE (ns:=x)
  simp only[dv,dTs,fG,Ag,dT,PyData.depth]
  omega
section
variable{Z:Zx}{ρ:List (Option T)}{O:AG}{e lo:Expr}{p2 pos:Pos}{ts:List T}{i:Int}
end
end L2.TL
namespace K63
open PySem L2 L2.TL PySem.Spec PyProof.Rows GrR
section
variable{P:Program}{w:World}{K:a8}{mg:Str→Option Value}{base:Heap}
theorem UD{L:List (List Int)}:jr (dT (.lst (L.map Ag))) (dT (.lst []))=L.isEmpty:=by
 cases L<;>rfl
def Uv:DR:=Ry fun ts t=>∃n ps,ts=[BU n ps]∧WebR n ps∧t=Oa (IW ps)
theorem Uw:FnScope ["_law_web","_law_size"] ["_law_web"] (AA GB):=⟨rfl,rfl,rfl,by decide+kernel,rfl,by decide+kernel,by decide+kernel⟩
theorem XF{f:Addr}{fd:dA}(F:Fun K "_law_shortest" "_law_shortest" GB f fd)(Tx:Txt mg)(G:FnT P w K mg base "_law_rings" 2 ["_law_web","_law_size"] ZZ):FnOk P w K mg base (CXe P w) 3 f fd ["_law_web"] (Dl K Uv):=by
 refine Aj F Uw ?_ ?_
 ·rintro ts O Φ Ξ ⟨r,⟨n,ps,rfl,_⟩,_⟩
  rfl
 ·rintro cdv A outer s0 H E O Ξ hr xf _ Φ ⟨_,⟨n,ps,rfl,wr,rfl⟩,q⟩
  have sb:=DV
  have n0:=wr.n0
  have n1:=wr.n1
  have hw:=wr.wn.hw
  have hu:(A.deeper (hZ "_law_shortest" (AA GB) s0.heap.objs.size f cdv)).units+101<cLine:=by have:=hr.un;omega
  refine AF (BF Ae.own rfl (EI.wi (Ci Tx.nRange AB (BM (Af (t:=.int n) (ev 0) AB) AB) (by omega)) ⟨fun j ρ' O'=>∃v1:Option T,O'=O∧ρ'=[some (BU n ps),v1]∧∀s,3≤s→s<3+j→DC (Gr.Adj ps) (AK ps) s n.toNat=[],⟨none,rfl,rfl,fun s h1 h2=>by omega⟩,?_,?_⟩))
  ·rintro j t _ _ ej ⟨v1,rfl,rfl,hno⟩
   obtain⟨hj,rfl⟩:=Ao ej
   have e3:(3:Int)+(j:Int)=((3+j:Nat):Int):=by omega
   rw[e3]
   refine⟨[some (BU n ps),some (.int ((3+j:Nat):Int))],AU 1 Uw.nd (by show 1<2;decide),?_⟩
   refine AJ (BY (k:=!(DC (Gr.Adj ps) (AK ps) (3+j) n.toNat).isEmpty) (EB.cast (BN (Wd hu) (Au _) (Yk (t:=.lst ((DC (Gr.Adj ps) (AK ps) (3+j) n.toNat).map Ag)) (u:=.lst []) (by rw[DJ];exact IV) (by rw[DJ];rfl) (by show fG _+1≤100;have:=Em (L:=DC (Gr.Adj ps) (AK ps) (3+j) n.toNat);omega)) (Fc G (hr.mono (by decide)) xf (AZ (ev 0) (AZ (ev 1) AE)) ⟨n,ps,3+j,rfl,wr,by omega,by omega,fun M hM=>?least,rfl⟩) (Bw AE (eS _))) (by rw[UD])) (fun h=>?_) (fun h=>BS ⟨_,rfl,rfl,fun s h1 h2=>?_⟩))
   case least=>
    by_cases hlt:3+j≤M.length
    ·exact hlt
    ·have:=(Cj (s:=M.length) DF Cc (Ck hw) hM.len).mpr ⟨hM,rfl⟩
     rw[hno M.length hM.len (by omega)] at this
     cases this
   ·have hne:DC (Gr.Adj ps) (AK ps) (3+j) n.toNat≠[]:=fun z=>by rw[z] at h;cases h
    have:IW ps=some ((3+j:Nat):Int):=by
     cases e:IW ps with
     |none=>exact absurd (RZ hw e (by omega)) hne
     |some m=>
      obtain⟨k,rfl,hk3,hkn,_,_⟩:=GJ hw e
      have h1:=(Rb hw wr.hp (by omega) e).1
      rcases gc k (3+j) with c|c|c
      ·exact absurd (hno k hk3 c) h1
      ·rw[c]
      ·exact absurd (Ra hw e (by omega) (by omega)) hne
    rw[this] at q
    exact AJ (AW (ET.we (ev 1) q))
   ·by_cases hs:s=3+j
    ·subst hs
     revert h
     cases DC (Gr.Adj ps) (AK ps) (3+j) n.toNat with
     |nil=>exact fun _=>rfl
     |cons x l=>intro h;cases h
    ·exact hno s h1 (by omega)
  ·rintro _ _ ⟨v1,rfl,rfl,hno⟩
   rw[Ad] at hno
   have:IW ps=none:=by
    cases e:IW ps with
    |none=>rfl
    |some m=>
     obtain⟨k,rfl,hk3,hkn,_,_⟩:=GJ hw e
     exact absurd (hno k hk3 (by omega)) (Rb hw wr.hp (by omega) e).1
   rw[this] at q
   exact AJ (AW (ET.we FB q))
end
end K63
namespace L2
open PySem PySem.Spec
theorem FnH.imp{P:Program}{w:World}{K:a8}{mg:Str→Option Value}{base:Heap}{k:Nat}{f:Addr}{fd:dA}{ps:List Str}{sp sp':Sp}(F:FnH P w K mg base k f fd ps sp)(h:∀vs H Q E,sp' vs H Q E→sp vs H Q E):FnH P w K mg base k f fd ps sp':=
 ⟨fun vs H Q E s=>F.len vs H Q E (h _ _ _ _ s),fun A outer s H args us vs Q r e b v q=>F.run A outer s H args us vs Q r e b v (h _ _ _ _ q)⟩
end L2
namespace L2.TL
open PySem PySem.Spec PyProof.Rows
theorem UE{P:Program}{w:World}{K:a8}{mg:Str→Option Value}{base:Heap}{k:Nat}{f C:Addr}{fd:dA}{ps:List Str}{y:Str}(F:FnH P w K mg base k f fd ps (JL C y)):FnH P w K mg base k f fd ps (ah C (.str y)):=
 F.imp fun _ _ _ _ ⟨x,e,r,q⟩=> ⟨x,e,r,fun H' s=>q _ H' s fun _ _=> .str y⟩
structure Hk(P:Program)(w:World)(K:a8)(mg:Str→Option Value)(base:Heap)(g:Str)(k:Nat)(ps:List Str)(C:Addr)(t:T):Prop where
 ex:∃f fd,FnH P w K mg base k f fd ps (ah C t)∧mg g=some (.ref f)∧eM K (.ref f)=true∧Binds K fd ps []
theorem Zb{Z:Zx}{ρ:List (Option T)}{O:AG}{e:Expr}{t:T}{x C:Addr}{g:Str}{k:Nat}{ps:List Str}{p pos:Pos}(G:Hk Z.X.prog Z.X.w Z.X.K Z.X.mg Z.X.base g k ps C t)(hr:RoomH k Z.X.A)(hx:ExC Z x C)(h:ET Z ρ O e (.raw (.ref x)))(hg:Gl Z.X g:=by rfl)(hdb:(g==("__debug__" :Str))=false:=by decide)
  (he:cb [e] Z.X.env=(false,eval e Z.X.env)::cb [] Z.X.env:=by rfl) (hpl:(fY pos (cb [] Z.X.env)).any (·.1)=false:=by rfl):ET Z ρ O (.Call (.Name g p) [e] [] pos) t:=by
 obtain⟨f,fd,F,hm,hk,hb⟩:=G.ex
 exact Qh F hm hk hb hr hx h hg hdb he hpl
open SrtG
section
variable{Z:Zx}{ρ:List (Option T)}{O:AG}{e:Expr}{Φ:BL}{p pos:Pos}{ks:List (List Int)}
theorem MS{m:Nat}(mm:Z.X.mg "sorted" =none)(h:ET Z ρ O e (.lst (ks.map fun r=>T.tup (r.map T.int))))(hk:∀k∈ks,k.length=m+1∧∀z∈k,0≤z∧z<32)(hn:ks.length≤9000000)(k:∀ms:List (List Int),ms.Perm ks→ms.Pairwise (fun x y=>GrR.rk x≤GrR.rk y)→Φ (.lst (ms.map fun r=>T.tup (r.map T.int))) O)(hg:Gl Z.X "sorted":=by rfl)
  (he:cb [e] Z.X.env=(false,eval e Z.X.env)::cb [] Z.X.env:=by rfl):WE Z ρ O (.Call (.Name "sorted" p) [e] [] pos) Φ:=
 Gq El mm JH (AL h AE he _ (fun H vs Q ok r q'=>by
  obtain⟨v,rfl,r1⟩:=r.one_inv
  obtain⟨a,xs,rfl,h1,_,r1⟩:=r1.lst_inv
  obtain⟨qs,rfl,rfl,hq⟩:=FT r1
  refine⟨a,qs,m,rfl,.inl (.inl h1),fun k x hx=> ⟨.inl (.inl (hq k x hx)),hk k (df.mpr ⟨(k,x),hx,rfl⟩)⟩,by simpa using hn,fun p ms hp pm pw2=>?_⟩
  have r2:Reps Z.K O H (ms.map fun p=>V.ref p.2) ((ms.map (·.1)).map fun r=>T.tup (r.map T.int)):=FU fun k x hx=>hq k x (pm.mem_iff.mp hx)
  exact q' _ _ _ O (k (ms.map (·.1)) (pm.map _) (eJ.mpr pw2)) (.new ok hp) (.lst AI (ok.none_of hp) (r2.kp (BW ok hp) ok)))) hg (by decide) (by decide) he
theorem MU{ps:List (Int×Int)}(mm:Z.X.mg "sorted" =none)(h:ET Z ρ O e (.lst (ps.map AC)))(hb:∀q∈ps,(0≤q.1∧q.1<32)∧0≤q.2∧q.2<32)(nd:ps.Nodup)(hn:ps.length≤9000000)(k:∀qs:List (Int×Int),qs.Perm ps→qs.Pairwise FF→Φ (.lst (qs.map AC)) O)(hg:Gl Z.X "sorted":=by rfl)
  (he:cb [e] Z.X.env=(false,eval e Z.X.env)::cb [] Z.X.env:=by rfl):WE Z ρ O (.Call (.Name "sorted" p) [e] [] pos) Φ:=by
 have e2:∀qs:List (Int×Int),(qs.map fun q=> [q.1,q.2]).map (fun r=>T.tup (r.map T.int))=qs.map AC:=fun qs=>by rw[eu];rfl
 refine MS (m:=1) (ks:=ps.map fun q=> [q.1,q.2]) mm (by rw[e2];exact h) (fun r hr=>?_) (by rw[b8];exact hn) (fun ms pm pw=>?_) hg he
 ·obtain⟨q,hq,rfl⟩:=df.mp hr
  refine⟨rfl,fun z hz=>?_⟩
  simp only[da,gq,or_false] at hz
  rcases hz with rfl|rfl
  ·exact(hb q hq).1
  ·exact(hb q hq).2
 ·obtain⟨qs,pm',rfl⟩:=BQ pm rfl
  rw[e2]
  refine k qs pm' ?_
  have nd':qs.Nodup:=pm'.nodup_iff.mpr nd
  rw[eJ] at pw
  refine dD.imp ?_ (j6.mp (dD.and pw nd'))
  rintro x y ⟨hx,hy,h1,h2⟩
  have b1:=hb x (pm'.mem_iff.mp hx)
  have b2:=hb y (pm'.mem_iff.mp hy)
  have h1:(0*32+x.1)*32+x.2≤(0*32+y.1)*32+y.2:=h1
  have h2:¬(x.1=y.1∧x.2=y.2):=fun z=>h2 (fR z.1 z.2)
  unfold FF
  omega
end
end L2.TL
namespace K63
open PySem L2 L2.TL PySem.Spec PyProof.Rows GrR
def sO:Option Int→Str
 |none=> "None"
 |some i=>toString i
section
variable{Z:Zx}{ρ:List (Option T)}{O:AG}{e:Expr}{p pos:Pos}
theorem IX{x:Option Int}(m:Z.X.mg "repr" =none)(h:ET Z ρ O e (Oa x))(hx:∀i,x=some i→0≤i∧i≤1000)(hgl:Gl Z.X "repr")(he:cb [e] Z.X.env=(false,eval e Z.X.env)::cb [] Z.X.env):ET Z ρ O (.Call (.Name "repr" p) [e] [] pos) (.str (sO x)):=by
 cases x with
 |none=>exact Ql m h hgl he
 |some i=>
  have:=hx i rfl
  exact Qk m h (jJ (Nat.log2_le_self _) (by omega)) hgl he
end
def LH(n:Int)(ps:List (Int×Int)):List (Int×Int):=ps.map (fun p=> (p.1,n+p.2))++ps.map (fun p=> (p.2,n+p.1))
structure WebD(n:Int)(ps:List (Int×Int)):Prop where
 wr:WebR n ps
 n1:n≤10
 hl:ps.length≤100
structure Dbl(n:Int)(ps qs:List (Int×Int)):Prop where
 pw:qs.Pairwise FF
 mem:∀q,q∈qs↔q∈LH n ps
 len:qs.length≤200
theorem Dbl.uniq{n:Int}{ps qs rs:List (Int×Int)}(a:Dbl n ps qs)(b:Dbl n ps rs):qs=rs:=TB a.pw b.pw fun q=> (a.mem q).trans (b.mem q).symm
theorem HR{n:Int}{ps:List (Int×Int)}(wd:WebD n ps){q:Int×Int}(h:q∈LH n ps):0≤q.1∧q.1<n∧n≤q.2∧q.2<2*n:=by
 have hw:=wd.wr.wn.hw
 rcases dt.mp h with h|h
 ·obtain⟨p,hp,rfl⟩:=df.mp h
  have:=hw p hp
  simp only
  omega
 ·obtain⟨p,hp,rfl⟩:=df.mp h
  have:=hw p hp
  simp only
  omega
theorem Dbl.wr{n:Int}{ps qs:List (Int×Int)}(wd:WebD n ps)(d:Dbl n ps qs):WebR (2*n) qs:=by
 have n0:=wd.wr.n0
 have n1:=wd.n1
 refine⟨⟨by omega,by omega,fun q hq=>?_,d.len⟩,d.pw,by omega,by omega⟩
 have:=HR wd ((d.mem q).mp hq)
 omega
theorem Zc{n:Int}{ps:List (Int×Int)}(wd:WebD n ps):(LH n ps).map mm=LH n ps:=by
 refine(kA fun q hq=>?_).trans (nN _)
 have:=HR wd hq
 unfold mm
 refine fR ?_ ?_
 ·show min q.1 q.2=q.1;omega
 ·show max q.1 q.2=q.2;omega
theorem Zd{n:Int}{ps:List (Int×Int)}(wd:WebD n ps):(LH n ps).Nodup:=by
 have hw:=wd.wr.wn.hw
 have pn:ps.Pairwise (·≠·):=wd.wr.hp.imp fun{x y} h e=>by subst e;unfold FF at h;omega
 unfold LH
 rw[eY]
 refine⟨?_,?_,fun x hx y hy e=>?_⟩
 ·rw[fT,eJ]
  refine pn.imp fun{x y} h e=>h (fR (by have:=congrArg dX e;exact this) (by have:=congrArg jU e;simp only at this;omega))
 ·rw[fT,eJ]
  refine pn.imp fun{x y} h e=>h (fR (by have:=congrArg jU e;simp only at this;omega) (by have:=congrArg dX e;exact this))
 ·obtain⟨p,hp,rfl⟩:=df.mp hx
  obtain⟨q,hq,rfl⟩:=df.mp hy
  have h1:=hw p hp
  have h2:=hw q hq
  have e1:=congrArg dX e
  have e2:=congrArg jU e
  simp only at e1 e2
  omega
abbrev XG:Stmt:=(Yo (top 9)).getD 0 (.Pass ⟨0,0,0,0⟩)
section
variable{P:Program}{w:World}{K:a8}{mg:Str→Option Value}{base:Heap}{CG CR fi:Addr}
theorem Ze:FnScope ["self","many","most"] ["self","many","most"] (AA XG):=⟨rfl,rfl,rfl,by decide+kernel,rfl,by decide+kernel,by decide+kernel⟩
theorem XH{f C:Addr}{fd:dA}(F:Fun K "__init__" "TooGreat.__init__" XG f fd)(c:XfC K C f)(h1:dJ K (.ref C) "many" =some none)(h2:dJ K (.ref C) "most" =some none):FnOk P w K mg base (CXe P w) 1 f fd ["self","many","most"] (Qe C ["many","most"]):=by
 refine F.okX Ze (Qj rfl) fun cdv A outer s H vs Q E hr h=>?_
 obtain⟨x,t,is,rfl,hl,hx,k⟩:=h
 obtain⟨i,j,rfl⟩:∃i j,is=[i,j]:=by
  match is,hl with
  | [i,j],_=>exact⟨i,j,rfl⟩
 refine⟨_,Cd (Wg (pv 0) (pv 1) rfl) (DW (Wh (pv 0) (pv 2) rfl)),?_⟩
 refine⟨_,rfl,_,rfl,x,C,f,_,rfl,hx,c,h1,fun d hd dn=>?_⟩
 refine⟨_,rfl,_,rfl,x,C,f,_,d,[(("many" :Str),V.int i)],rfl,by rw[AH (Ne.symm dn)];exact AI,AI,by simp,c,h2,?_⟩
 have e:upd (upd (upd H x (Fw C x (some d) (HV t))) d (FW d [(("many" :Str),V.int i)])) d (FW d (GO "most" (V.int j) [(("many" :Str),V.int i)]))=upd (upd H x (Fw C x (some d) (HV t))) d (FW d [(("many" :Str),V.int i),(("most" :Str),V.int j)]):=by
  rw[MZ];rfl
 rw[e]
 exact k d hd dn
theorem MV{f:Addr}{fd:dA}(F:Fun K "_law_whole" "_law_whole" GC f fd)(T:Txt mg):FnH P w K mg base 1 f fd ["_law_found"] (Dl K HE):=by
 refine TU F Kt ?_ ?_
 ·rintro ts O Φ Ξ ⟨r,⟨t,rfl,_⟩,_⟩
  rfl
 ·rintro cdv A outer s H O hr _ Φ Ξ ⟨_,⟨t,rfl,ht,rfl⟩,q⟩
  exact AJ (AW (ET.we (QI (JI T.nIsi T.nInt WV ND (ev 0) ht) fun _=>QH (QJ (JI T.nIsi T.nBool Ud KS (ev 0) ht))) q))
def LI:DR:=fun ts O Φ _=>∃n ps,ts=[BU n ps]∧WebD n ps∧∀qs,Dbl n ps qs→Φ (BU (2*n) qs) O
theorem Ux:FnScope ["web","many"] ["web"] (AA Qw):=⟨rfl,rfl,rfl,by decide+kernel,rfl,by decide+kernel,by decide+kernel⟩
theorem Uy:(Ak ["a","b"] [(("many" :Str),1)]).Nodup:=by decide+kernel
theorem XI{f:Addr}{fd:dA}(F:Fun K "double_of" "double_of" Qw f fd)(G:FnT P w K mg base "ties_of" 1 ["pairs"] Ky):FnOk P w K mg base (CXe P w) 2 f fd ["web"] (Dl K LI):=by
 refine Aj F Ux ?_ ?_
 ·rintro ts O Φ Ξ ⟨n,ps,rfl,_⟩
  rfl
 ·rintro cdv A outer s H E O Ξ hr xf _ Φ ⟨n,ps,rfl,wd,q⟩
  have sb:=DV
  have hl:=wd.hl
  have n1:=wd.n1
  refine AF (AV 1 (ET.we (Af (t:=.int n) (ev 0) AB) ?_) Ux.nd)
  refine AJ (AW (Be (Bm (ET.we (t:=.int (2*n)) (ET.cast (FD (ev 1) AB (.inr ⟨by decide,by decide⟩)) (by rw[nF])) (Bm (Ac G (hr.mono (by decide)) xf (EA.wa (AZ (ET.cast (Dd (ts:=ps.map fun p=>AC (p.1,n+p.2)) (us:=ps.map fun p=>AC (p.2,n+p.1)) (By ["a","b"] [("many",1)] ps AC (fun p=>AC (p.1,n+p.2)) rfl (Bl (AA Qw) ["web","many"] (by decide+kernel)) (Cz (Af (ev 0) AB)) (by omega) fun x hx=> ⟨[some (.int x.1),some (.int x.2),some (.int n)],fun X' Oe He is O'=>?a⟩) (By ["a","b"] [("many",1)] ps AC (fun p=>AC (p.2,n+p.1)) rfl (Bl (AA Qw) ["web","many"] (by decide+kernel)) (Cz (Af (ev 0) AB)) (by omega) fun x hx=> ⟨[some (.int x.1),some (.int x.2),some (.int n)],fun X' Oe He is O'=>?b⟩) (by rw[b8,b8];omega)) (show _=T.lst ((LH n ps).map AC) by unfold LH;rw[dH,eu,eu];rfl)) AE) ⟨LH n ps,rfl,?_,fun p hp=>?_,fun qs h1 h2 h3=>Ai ⟨by show 2≤sizeLine;decide,q qs ⟨h1,fun z=>?_,?_⟩⟩⟩)))))))
  case a=>
   obtain⟨cl,s',H',fp,rfl⟩:=is
   exact⟨BD 0 1 rfl Uy (by decide) (by decide),BG (ev 0) (BM (ev 2) (ev 1))⟩
  case b=>
   obtain⟨cl,s',H',fp,rfl⟩:=is
   exact⟨BD 0 1 rfl Uy (by decide) (by decide),BG (ev 1) (BM (ev 2) (ev 0))⟩
  ·unfold LH;rw[dh,b8,b8];omega
  ·have:=HR wd hp;omega
  ·rw[h2 z,Zc wd]
  ·have:(LH n ps).length≤200:=by unfold LH;rw[dh,b8,b8];omega
   omega
def Uz(CG:Addr):DR:=fun ts O Φ Ξ=>∃n ps,ts=[BU n ps]∧WebD n ps∧(16<2*n→Ξ (Qf CG (2*n) 16) O)∧(2*n≤16→∀qs,Dbl n ps qs→Φ (BU (2*n) qs) O)
theorem Zf:FnScope ["web"] ["web"] (AA Wp):=⟨rfl,rfl,rfl,by decide+kernel,rfl,by decide+kernel,by decide+kernel⟩
theorem XJ{f:Addr}{fd:dA}(F:Fun K "doubled" "doubled" Wp f fd)(Tx:Txt mg)(c:XCl P w K mg base "TooGreat" CG fi ["many","most"])(G:FnT P w K mg base "double_of" 2 ["web"] LI):FnOk P w K mg base (CXe P w) 3 f fd ["web"] (Dl K (Uz CG)):=by
 refine Sy F Zf ?_ ?_
 ·rintro ts O Φ Ξ ⟨n,ps,rfl,_⟩
  rfl
 ·rintro cdv A outer s H E O Ξ hr xo _ Φ ⟨n,ps,rfl,wd,q1,q2⟩
  have xf:=xo.f
  have e2:n*2=2*n:=nF ..
  refine AF (BY (k:=decide (16<2*n)) (EB.cast (KP (FD (Af (t:=.int n) (ev 0) AB) AB (.inr ⟨by decide,by decide⟩)) (Mx Tx.iMost)) (by rw[e2])) (fun h=>?_) (fun h=>BS ?_))
  ·exact AJ (OV xo rfl c (hr.mono (by decide)) (is:=[n*2,16]) (AZ (FD (Af (t:=.int n) (ev 0) AB) AB (.inr ⟨by decide,by decide⟩)) (AZ (Mx Tx.iMost) AE)) rfl (by rw[e2];exact Kj (2*n) 16) (q1 (of_decide_eq_true h)))
  ·exact AJ (AW (Ac G (hr.mono (by decide)) xf (EA.wa (AZ (ev 0) AE) ⟨n,ps,rfl,wd,q2 (by have:=of_decide_eq_false h;omega)⟩)))
def Ri:DR:=fun ts O Φ _=>∃n ps,ts=[BU n ps]∧WebD n ps∧∀qs,Dbl n ps qs→Φ (Oa (IW qs)) O
theorem XM:FnScope ["web"] ["web"] (AA Qx):=⟨rfl,rfl,rfl,by decide+kernel,rfl,by decide+kernel,by decide+kernel⟩
theorem UF{f:Addr}{fd:dA}(F:Fun K "doubled_ring" "doubled_ring" Qx f fd)(G:FnT P w K mg base "double_of" 2 ["web"] LI)(Gs:FnT P w K mg base "shortest" 3 ["web"] NZ):FnOk P w K mg base (CXe P w) 4 f fd ["web"] (Dl K Ri):=by
 refine Aj F XM ?_ ?_
 ·rintro ts O Φ Ξ ⟨n,ps,rfl,_⟩
  rfl
 ·rintro cdv A outer s H E O Ξ hr xf _ Φ ⟨n,ps,rfl,wd,q⟩
  exact AJ (AW (Ac Gs hr xf (Bm (Ac G (hr.mono (by decide)) xf (EA.wa (AZ (ev 0) AE) ⟨n,ps,rfl,wd,fun qs d=>Ai ⟨_,⟨2*n,qs,rfl,(d.wr wd).wn,rfl⟩,q qs d⟩⟩)))))
theorem MW:FnScope ["_law_web","_law_many","_law_ties"] ["_law_web"] (AA Kr):=⟨rfl,rfl,rfl,by decide+kernel,rfl,by decide+kernel,by decide+kernel⟩
theorem VA:(Ak ["_law_one","_law_other"] [(("_law_many" :Str),1)]).Nodup:=by decide+kernel
theorem UG{f:Addr}{fd:dA}(F:Fun K "_law_double" "_law_double" Kr f fd)(Tx:Txt mg):FnOk P w K mg base (CXe P w) 1 f fd ["_law_web"] (Dl K LI):=by
 refine Aj F MW ?_ ?_
 ·rintro ts O Φ Ξ ⟨n,ps,rfl,_⟩
  rfl
 ·rintro cdv A outer s H E O Ξ hr xf _ Φ ⟨n,ps,rfl,wd,q⟩
  have sb:=DV
  have hl:=wd.hl
  have n1:=wd.n1
  have hdl:(LH n ps).length≤200:=by unfold LH;rw[dh,b8,b8];omega
  refine AF (AV 1 (ET.we (Af (t:=.int n) (ev 0) AB) ?_) MW.nd)
  refine AF (AV 2 (ET.we (t:=.lst ((LH n ps).map AC)) (ET.cast (Dd (ts:=ps.map fun p=>AC (p.1,n+p.2)) (us:=ps.map fun p=>AC (p.2,n+p.1)) (By ["_law_one","_law_other"] [("_law_many",1)] ps AC (fun p=>AC (p.1,n+p.2)) rfl (Bl (AA Kr) ["_law_web","_law_many","_law_ties"] (by decide+kernel)) (Cz (Af (ev 0) AB)) (by omega) fun x hx=> ⟨[some (.int x.1),some (.int x.2),some (.int n)],fun X' Oe He is O'=>?a⟩) (By ["_law_one","_law_other"] [("_law_many",1)] ps AC (fun p=>AC (p.2,n+p.1)) rfl (Bl (AA Kr) ["_law_web","_law_many","_law_ties"] (by decide+kernel)) (Cz (Af (ev 0) AB)) (by omega) fun x hx=> ⟨[some (.int x.1),some (.int x.2),some (.int n)],fun X' Oe He is O'=>?b⟩) (by rw[b8,b8];omega)) (by unfold LH;rw[dH,eu,eu];rfl)) ?_) MW.nd)
  case a=>
   obtain⟨cl,s',H',fp,rfl⟩:=is
   exact⟨BD 0 1 rfl VA (by decide) (by decide),ET.cast (BG (ev 0) (BM (ev 1) (ev 2))) (by show AC _=_;rw[Int.add_comm])⟩
  case b=>
   obtain⟨cl,s',H',fp,rfl⟩:=is
   exact⟨BD 0 1 rfl VA (by decide) (by decide),ET.cast (BG (ev 1) (BM (ev 0) (ev 2))) (by show AC _=_;rw[Int.add_comm])⟩
  refine AJ (AW (Be (Bm (ET.we (FD AB (ev 1) (.inl ⟨by decide,by decide⟩)) (Bm (Ba Tx.nTuple (MU (ps:=LH n ps) Tx.nSorted (ev 2) (fun p hp=>by have:=HR wd hp;omega) (Zd wd) (by omega) fun qs pm pw=> ⟨_,rfl,Ai ⟨by show 2≤sizeLine;decide,q qs ⟨pw,fun z=>pm.mem_iff,by rw[pm.length_eq];exact hdl⟩⟩⟩)))))))
structure Cat(P:Program)(w:World)(K:a8)(mg:Str→Option Value)(base:Heap)(CG CR fi:Addr):Prop where
 c:XCl P w K mg base "TooGreat" CG fi ["many","most"]
 hk:Hk P w K mg base "_law_kind_of" 1 ["_law_e"] CG (.str "great")
 wh:FnHT P w K mg base "_law_whole" 1 ["_law_found"] HE
 mR:mg "RingError" =some (.ref CR)
 bR:fU K CR (.type "BaseException")=some true
 kt:fE K (.ref CG) (.ref CR)=some true
def UH(n:Int):T:=.tup [.str "great",.int (2*n),.int 16]
def VB:DR:=fun ts O Φ _=>∃n ps,ts=[BU n ps]∧WebD n ps∧(16<2*n→Φ (UH n) O)∧(2*n≤16→∀qs,Dbl n ps qs→Φ (BU (2*n) qs) O)
theorem Zg:FnScope ["_law_web","_law_e"] ["_law_web"] (AA Ks):=⟨rfl,rfl,rfl,by decide+kernel,rfl,by decide+kernel,by decide+kernel⟩
theorem Zh{f:Addr}{fd:dA}(F:Fun K "_law_told" "_law_told" Ks f fd)(B:Cat P w K mg base CG CR fi)(G:FnT P w K mg base "doubled" 3 ["web"] (Uz CG)):FnOk P w K mg base (CXe P w) 4 f fd ["_law_web"] (Dl K VB):=by
 refine Aj F Zg ?_ ?_
 ·rintro ts O Φ Ξ ⟨n,ps,rfl,_⟩
  rfl
 ·rintro cdv A outer s H E O Ξ hr xf _ Φ ⟨n,ps,rfl,wd,q1,q2⟩
  have hk:=B.c.ek
  refine AJ (TQ (i:=1) (fun cls O'=>cls=Qf CG (2*n) 16∧O'=O∧Φ (UH n) O) (fun pins E' H1 fr xf1=>?_) (fun cls O' ⟨e,_⟩=> ⟨CG,.inr ⟨_,e⟩,B.kt⟩) (fun y cls O' C x o H1 hc h1 fr hz=>?_) rfl rfl rfl Zg.nd rfl rfl B.mR B.bR rfl (by decide))
  ·exact AJ (AW (Qg (Z:=⟨CD (zB P w K mg base ["_law_web","_law_e"] "_law_told" (AA Ks) f cdv A outer s H E O Ξ).X pins E',O,H1,fun cls O'=>cls=Qf CG (2*n) 16∧O'=O∧Φ (UH n) O⟩) G hr xf1 (EA.wa (AZ (ev 0) AE) ⟨n,ps,rfl,wd,fun h=> ⟨rfl,rfl,q1 h⟩,q2⟩)))
  ·obtain⟨rfl,rfl,q⟩:=hc
   obtain rfl:=HK.cls_of h1
   have exc:=HK.exc (y:=y) h1 fr hz
   have exf:=HK.exf (y:=y) h1 fr hz
   rw[Kj] at exf
   have rH:RoomH 1 (zH (zB P w K mg base ["_law_web","_law_e"] "_law_told" (AA Ks) f cdv A outer s H E O' Ξ) y O' (upd H1 x o)).X.A:=(Room.toH (hr.mono (by decide)))
   refine AF (BY (k:=false) (EB.cast (EW.eb (My (MI (Zb B.hk rH exc (ev 1)) Lw) fun _=>My (Gp (KO (Qi B.wh rH (AZ (Fy hk B.c.hd (B.c.nf _ (by simp)) exf (ev 1) rfl) AE) ⟨_,rfl,rfl,rfl⟩))) fun _=>QG (Gp (KO (Qi B.wh rH (AZ (Fy hk B.c.hd (B.c.nf _ (by simp)) exf (ev 1) rfl) AE) ⟨_,rfl,rfl,rfl⟩))))) rfl) (fun h=>by cases h) (fun _=>BS ?_))
   exact AJ (AW (ET.we (BX (AZ Lw (AZ (Fy hk B.c.hd (B.c.nf _ (by simp)) exf (ev 1) rfl) (AZ (Fy hk B.c.hd (B.c.nf _ (by simp)) exf (ev 1) rfl) AE)))) q))
end
end K63
namespace L2.TL
open PySem PySem.Spec PySem.Calls PyProof.Rows
mutual
def gB:T→Bool
 | .non=>true
 | .bl _=>true
 | .int i=>decide (i.natAbs<10^12)
 | .str x=>x.cps.toList.all fun c=>decide (c<16^8)
 | .tup ts=>gBs ts
 | .lst ts=>gBs ts
 | .frz _=>false
 | .dct=>false
 | .raw _=>false
def gBs:List T→Bool
 | []=>true
 |t::ts=>gB t&&gBs ts
end
mutual
theorem Rj:∀(t:T),gB t=true→(dT t).showable=true∧(dT t).hasDict=false∧(dT t).leavesShort 13=true
 | .non,_=> ⟨rfl,rfl,rfl⟩
 | .bl _,_=> ⟨rfl,rfl,rfl⟩
 | .int i,h=>JK (.int i) (by unfold gB at h;unfold EV;exact h)
 | .str x,h=> ⟨rfl,rfl,by unfold gB at h;exact h⟩
 | .tup ts,h=>gs_show ts (by unfold gB at h;exact h)
 | .lst ts,h=>gs_show ts (by unfold gB at h;exact h)
 | .frz _,h=>by unfold gB at h;cases h
 | .dct,h=>by unfold gB at h;cases h
 | .raw _,h=>by unfold gB at h;cases h
theorem gs_show:∀(ts:List T),gBs ts=true→jI (dTs ts)=true∧jT (dTs ts)=false∧jh 13 (dTs ts)=true
 | [],_=> ⟨rfl,rfl,rfl⟩
 |t::ts,h=>by
  unfold gBs at h
  rw[eX] at h
  obtain⟨a1,a2,a3⟩:=Rj t h.1
  obtain⟨b1,b2,b3⟩:=gs_show ts h.2
  refine⟨?_,?_,?_⟩
  ·show(PyData.showable (dT t)&&jI (dTs ts))=true
   rw[a1,b1];rfl
  ·show(PyData.hasDict (dT t)||jT (dTs ts))=false
   rw[a2,b2];rfl
  ·show(PyData.leavesShort 13 (dT t)&&jh 13 (dTs ts))=true
   rw[a3,b3];rfl
end
section
variable{K:a8}{O:AG}{H:Hp}{P:Program}{w:World}{h:Heap}
mutual
theorem Rep.readsG (hok:HOk P w H h):∀{v:V} {t:T} {u:Value},Rep K O H v t→gB t=true→RelV v u→∃as,Reads h u (dT t) as
 |_,_,_,.non,_,r=>by cases r;exact⟨_,.none⟩
 |_,_,_,.bl b,_,r=>by cases r;exact⟨_,.bool b⟩
 |_,_,_,.int i,_,r=>by obtain⟨t,rfl⟩:=r;exact⟨_,.int i t⟩
 |_,_,_,.str x,_,r=>by obtain⟨t,rfl⟩:=r;exact⟨_,.str x t⟩
 |_,_,_,.tup (ts:=ts) e q,g,r=>by
  cases r
  obtain⟨_,its,rv,⟨o,e1,e2,n,e3⟩⟩:=(show ObjOk P w H h _ (.tup _) from hok _ _ e)
  obtain⟨as,ra⟩:=Reps.readsG hok q (by unfold gB at g;exact g) rv
  exact⟨_,.tuple (vs:=its.toArray) e1 e2 e3 (by simpa using ra)⟩
 |_,_,_,.lst (ts:=ts) e _ q,g,r=>by
  cases r
  obtain⟨_,its,n,rv,e1⟩:=(show ObjOk P w H h _ (.lst _) from hok _ _ e)
  obtain⟨as,ra⟩:=Reps.readsG hok q (by unfold gB at g;exact g) rv
  exact⟨_,.list (vs:=its.toArray) e1 rfl rfl (by simpa using ra)⟩
 |_,_,_,.frz _ _,g,_=>by unfold gB at g;cases g
 |_,_,_,.dct _,g,_=>by unfold gB at g;cases g
 |_,_,_,.raw v,g,_=>by unfold gB at g;cases g
theorem Reps.readsG (hok:HOk P w H h):∀{vs:List V} {ts:List T} {us:List Value},Reps K O H vs ts→gBs ts=true→Vals vs us→∃as,ReadsAll h us (dTs ts) as
 |_,_,_,.nil,_,r=>by cases r;exact⟨_,.nil⟩
 |_,_,_,.cons a b,g,.cons r1 r2=>by
  unfold gBs at g
  rw[eX] at g
  obtain⟨as,x⟩:=Rep.readsG hok a g.1 r1
  obtain⟨bs,y⟩:=Reps.readsG hok b g.2 r2
  exact⟨_,.cons x y⟩
end
end
section
variable{X:Cx}
def XN(K:a8):List V→Hp→VK→Prop:=fun xs H Q=>∃v O t,xs=[v]∧Rep K O H v t∧TV t=true∧gB t=true∧(dT t).weight≤2^20∧(dT t).depth≤100∧Q (.str (dT t).shown) H
theorem MX(hg:X.A.guards=some [])(hu:X.A.units+101<cLine):BA X (.builtin "repr") (XN X.K):=by
 intro pins s σ H xs us Q I r h
 obtain⟨v,O,t,rfl,rep,sq,sh,hw,hd,q⟩:=h
 obtain⟨u,rfl,ru⟩:=Vals.one r
 obtain⟨as,rd⟩:=Rep.readsG I.hok rep sh ru
 obtain⟨s1,s2,s3⟩:=Rj t sh
 have hv:∃a,v=.ref a:=by
  cases t with
  |tup ts=>obtain⟨a,_,rfl,_⟩:=rep.tup_inv;exact⟨a,rfl⟩
  |lst ts=>obtain⟨a,_,rfl,_⟩:=rep.lst_inv;exact⟨a,rfl⟩
  |_=>cases sq
 obtain⟨a,rfl⟩:=hv
 cases ru
 exact repr_of_reads' rd s1 (PyData.noDict_hsm s2) hg (by omega) (fun _ _ e=>e) (fun h' u tk hk=> ⟨.str _,H,I.kept hk,⟨u,rfl⟩,q⟩) (PyData.shown_fits (by decide) (by decide) s3 hw)
end
section
variable{Z:Zx}{ρ:List (Option T)}{O:AG}{e:Expr}{p pos:Pos}{t:T}{ts:List T}{Φ:BL}
theorem LJ(hg:Z.X.A.guards=some [])(hu:Z.X.A.units+101<cLine)(m:Z.X.mg "repr" =none)(h:ET Z ρ O e t)(sq:TV t=true)(sh:gB t=true)(hw:(dT t).weight≤2^20)(hd:(dT t).depth≤100)
  (hgl:Gl Z.X "repr":=by rfl) (he:cb [e] Z.X.env=(false,eval e Z.X.env)::cb [] Z.X.env:=by rfl):ET Z ρ O (.Call (.Name "repr" p) [e] [] pos) (.str (dT t).shown):=
 BI (MX hg hu) m NK (AL h AE he) (fun Φ q H vs Q ok r k=>by
  obtain⟨v,rfl,r1⟩:=r.one_inv
  exact⟨v,O,t,rfl,r1,sq,sh,hw,hd,k _ H _ O q (.refl ok) (.str _)⟩) hgl (by decide) (by decide) he
end
end L2.TL
namespace K63
open PySem L2 L2.TL PySem.Spec PyProof.Rows GrR
theorem LK{Z:Zx}{ρ:List (Option T)}{O:AG}{e:Expr}{p pos:Pos}{n:Int}{ps:List (Int×Int)}(hg:Z.X.A.guards=some [])(hu:Z.X.A.units+101<cLine)(m:Z.X.mg "repr" =none)(h:ET Z ρ O e (BU n ps))(hn:0≤n∧n<100)(hps:∀q∈ps,0≤q.1∧q.1<100∧0≤q.2∧q.2<100)(hl:ps.length≤300)(hgl:Gl Z.X "repr":=by rfl)(he:cb [e] Z.X.env=(false,eval e Z.X.env)::cb [] Z.X.env:=by rfl):ET Z ρ O (.Call (.Name "repr" p) [e] [] pos) (.str (dT (BU n ps)).shown):=by
 have key:∀{qs:List (Int×Int)},(∀q∈qs,0≤q.1∧q.1<100∧0≤q.2∧q.2<100)→shBs (qs.map AC)=true∧iT (dTs (qs.map AC))≤100*qs.length∧fG (dTs (qs.map AC))≤2:=by
  intro qs
  induction qs with
  |nil=>intro _;exact⟨rfl,cW _,by simp[dTs,fG]⟩
  |cons q qs ih=>
   intro hq
   obtain⟨h1,h2,h3⟩:=ih fun z hz=>hq z (cX _ hz)
   have hb:=hq q (dw ..)
   have hs:∀z∈[q.1,q.2],z.natAbs<10^12:=fun z hz=>by
    simp only[da,gq,or_false] at hz
    rcases hz with rfl|rfl<;>omega
   have w1:=Nh hs
   have d1:=EE (ns:=[q.1,q.2])
   have s1:=Ng hs
   refine⟨?_,?_,?_⟩
   ·show(EV (.tup ([q.1,q.2].map T.int))&&shBs (qs.map AC))=true
    rw[h1,EV,s1];rfl
   ·show iT (dTs ([q.1,q.2].map T.int))+1+iT (dTs (qs.map AC))≤_
    simp only[c9,gH] at w1 ⊢
    omega
   ·show max (fG (dTs ([q.1,q.2].map T.int))+1) (fG (dTs (qs.map AC)))≤2
    omega
 obtain⟨h1,h2,h3⟩:=key hps
 have hi:n.natAbs<10^12:=by omega
 have hw:=Gy hi
 refine TX hg hu m h rfl ?_ ?_ ?_ hgl he
 ·show EV (.tup [.int n,.tup (ps.map AC)])=true
  rw[EV]
  show(EV (.int n)&&(EV (.tup (ps.map AC))&&true))=true
  rw[EV,EV,h1,decide_eq_true hi];rfl
 ·show mX (dT (.int n))+1+(iT (dTs (ps.map AC))+1+0)≤_
  omega
 ·show max (PyData.depth (dT (.int n))) (max (fG (dTs (ps.map AC))+1) 0)+1≤100
  have:PyData.depth (dT (.int n))=0:=by simp[dT,PyData.depth]
  omega
section
variable{P:Program}{w:World}{K:a8}{mg:Str→Option Value}{base:Heap}
def Zi:DR:=Ry fun ts r=>∃n ps,ts=[BU n ps]∧WebD n ps∧r=.bl true
theorem Zj:FnScope ["_law_web","_law_due"] ["_law_web"] (AA Dz):=⟨rfl,rfl,rfl,by decide+kernel,rfl,by decide+kernel,by decide+kernel⟩
theorem Zk{f:Addr}{fd:dA}(F:Fun K "_law_right" "_law_right" Dz f fd)(Tx:Txt mg)(Gd:FnT P w K mg base "_law_double" 1 ["_law_web"] LI)(Gt:FnT P w K mg base "_law_told" 4 ["_law_web"] VB)(Gr:FnT P w K mg base "doubled_ring" 4 ["web"] Ri)(Gs:FnT P w K mg base "_law_shortest" 3 ["_law_web"] Uv):FnOk P w K mg base (CXe P w) 5 f fd ["_law_web"] (Dl K Zi):=by
 refine Aj F Zj ?_ ?_
 ·rintro ts O Φ Ξ ⟨r,⟨n,ps,rfl,_⟩,_⟩
  rfl
 ·rintro cdv A outer s H E O Ξ hr xf _ Φ ⟨_,⟨n,ps,rfl,wd,rfl⟩,q⟩
  have hg:(A.deeper (hZ "_law_right" (AA Dz) s.heap.objs.size f cdv)).guards=some []:=hr.gd
  have hu:(A.deeper (hZ "_law_right" (AA Dz) s.heap.objs.size f cdv)).units+101<cLine:=by have:=hr.un;omega
  have n0:=wd.wr.n0
  have n1:=wd.n1
  refine AF (AV 1 (Ac Gd (hr.mono (by decide)) xf (EA.wa (AZ (ev 0) AE) ⟨n,ps,rfl,wd,fun qs d=>?_⟩)) Zj.nd)
  have wr2:=d.wr wd
  have hb:∀z∈qs,0≤z.1∧z.1<100∧0≤z.2∧z.2<100:=fun z hz=>by
   have:=HR wd ((d.mem z).mp hz)
   omega
  have hz:qs.length≤300:=dZ d.len (by decide)
  have hsh:∀i,IW qs=some i→0≤i∧i≤1000:=fun i e=>by
   obtain⟨k,rfl,_,hk,_⟩:=GJ wr2.wn.hw e
   omega
  have e2:∀{h:Bool},(h=true↔2*n<17)→decide (2*n<17)=h:=fun{h} z=>by
   cases h with
   |true=>exact decide_eq_true (z.mp rfl)
   |false=>exact decide_eq_false fun y=>by have:=z.mpr y;cases this
  have rest:DS (zB P w K mg base ["_law_web","_law_due"] "_law_right" (AA Dz) f cdv A outer s H E O Ξ) [some (BU n ps),some (BU (2*n) qs)] O ((AY Dz).drop 2) {nx:=fun _ O'=>Φ .non O',rt:=Φ}:=by
   refine AJ (AW (ET.we (ET.cast (Wo (x:=sO (IW qs)) (y:=sO (IW qs)) (IX Tx.nRepr (fun Φ' p=>Ac Gr (hr.mono (by decide)) xf (EA.wa (AZ (ev 0) AE) ⟨n,ps,rfl,wd,fun rs d'=>by rw[d'.uniq d];exact p⟩)) hsh rfl rfl) (IX Tx.nRepr (Fc Gs (hr.mono (by decide)) xf (AZ (ev 1) AE) ⟨2*n,qs,rfl,wr2,rfl⟩) hsh rfl rfl)) (by simp)) q))
  by_cases hs:2*n≤16
  ·refine AF (BY (k:=false) (EB.cast (MI (LK (n:=2*n) (ps:=qs) hg hu Tx.nRepr (fun Φ' p=>Ac Gt (hr.mono (by decide)) xf (EA.wa (AZ (ev 0) AE) ⟨n,ps,rfl,wd,fun h=>by omega,fun _ rs d'=>by rw[d'.uniq d];exact p⟩)) (by omega) hb hz) (LK (n:=2*n) (ps:=qs) hg hu Tx.nRepr (ET.cast (Mz (x:=true) (ta:=BU (2*n) qs) (tb:=.non) (EB.cast (QD (Af (t:=.int (2*n)) (ev 1) AB) AB) (decide_eq_true (by omega))) (fun _=>ev 1) (fun h=>by cases h)) rfl) (by omega) hb hz)) (by simp)) (fun h=>by cases h) (fun _=>BS rest))
  ·have gw:(dT (UH n)).weight≤2^20∧(dT (UH n)).depth≤100∧gB (UH n)=true:=by
    have hn:n=9∨n=10:=by omega
    rcases hn with rfl|rfl<;>exact⟨by decide+kernel,by decide+kernel,by decide+kernel⟩
   refine AF (BY (k:=false) (EB.cast (MI (LJ (t:=UH n) hg hu Tx.nRepr (fun Φ' p=>Ac Gt (hr.mono (by decide)) xf (EA.wa (AZ (ev 0) AE) ⟨n,ps,rfl,wd,fun _=>p,fun h=>by omega⟩)) rfl gw.2.2 gw.1 gw.2.1) (LJ (t:=UH n) hg hu Tx.nRepr (ET.cast (Mz (x:=false) (ta:=.non) (tb:=UH n) (EB.cast (QD (Af (t:=.int (2*n)) (ev 1) AB) AB) (decide_eq_false (by omega))) (fun h=>by cases h) (fun _=>BX (AZ Lw (AZ (Af (t:=.int (2*n)) (ev 1) AB) (AZ AB AE))))) rfl) rfl gw.2.2 gw.1 gw.2.1)) (by simp)) (fun h=>by cases h) (fun _=>BS rest))
end
def bS(i:Nat):Stmt:=(AY Ob).getD i (.Pass ⟨0,0,0,0⟩)
def ay:Stmt→Expr
 | .For _ i _ _ _=>i
 |_=> .Constant .none 0 ⟨0,0,0,0⟩
def az:Stmt→List Stmt
 | .For _ _ b _ _=>b
 |_=> []
def XO:List Str:=["_law_script","_law_cell","_law_pen"]
theorem Rm:FnScope XO ["_law_script"] (AA Ob):=⟨rfl,rfl,rfl,by decide+kernel,rfl,by decide+kernel,by decide+kernel⟩
abbrev zL(P:Program)(w:World)(K:a8)(mg:Str→Option Value)(base:Heap)(f:Addr)(cdv:Value)(A:de)(outer:List Env)(s:Shared)(H:Hp)(E:XK):Zx:=zB P w K mg base XO "law" (AA Ob) f cdv A outer s H E Ug (fun _ _=>False)
structure Has(P:Program)(w:World)(K:a8)(mg:Str→Option Value)(base:Heap):Prop where
 tx:Txt mg
 gp:FnT P w K mg base "_law_pen_of" 1 ["_law_cell"] Ul
 gy:FnT P w K mg base "_law_web_by" 4 ["_law_pen","_law_most"] NR
 gr:FnT P w K mg base "_law_right" 5 ["_law_web"] Zi
def Ni(K:a8):Sp:=fun vs H Q _=>∃(a:Addr) (ns:List Int),vs=[.ref a]∧SqL K H a (ns.map V.int)∧ns.length≤63∧∀H',Q (.bl true) H'
def bA:BL:=fun t _=>t=.bl true
theorem Rn{n:Int}{ps:List (Int×Int)}(n1:n≤10)(hP:∀q∈ps,AQ n q)(pw:ps.Pairwise FF):ps.length≤100:=by
 have h:=Gr.JO (n:=100) (L:=ps.map fun p=>p.1*10+p.2) ?_ ?_
 ·rw[b8] at h
  have:(100:Int).toNat=100:=rfl
  omega
 ·rw[fT,eJ]
  have:=j6.mp pw
  refine this.imp ?_
  rintro a b ⟨ha,hb,h⟩ e
  have h1:=hP a ha
  have h2:=hP b hb
  unfold AQ at h1 h2
  unfold FF at h
  omega
 ·intro z hz
  obtain⟨p,hp,rfl⟩:=df.mp hz
  have h1:=hP p hp
  unfold AQ at h1
  omega
theorem Nj{n:Int}{ps:List (Int×Int)}(n0:1≤n)(n1:n≤10)(hP:∀q∈ps,AQ n q)(pw:ps.Pairwise FF):WebD n ps:=⟨⟨⟨by omega,by omega,hP,by have:=Rn n1 hP pw;omega⟩,pw,n0,by omega⟩,n1,Rn n1 hP pw⟩
section
variable{Z:Zx}{ρ:List (Option T)}{O:AG}{i j n:Int}{k1 k2 x y:Nat}{p1 p2 pos pos':Pos}{es:List Expr}{ps:List (Int×Int)}
theorem Jd(h:HEA Z ρ O es (ps.map AC)):HEA Z ρ O (.Tuple [.Constant (.int i) k1 p1,.Constant (.int j) k2 p2] x pos::es) (((i,j)::ps).map AC):=⟨Yh (BG AB AB) h.out⟩
theorem MY:HEA Z ρ O [] (([]:List (Int×Int)).map AC):=⟨Yi⟩
theorem Ro(h:HEA Z ρ O es (ps.map AC))(hl:ps.length≤1000):HET Z ρ O (.Tuple [.Constant (.int n) k1 p1,.Tuple es y pos'] x pos) (BU n ps):=
 ⟨BX (AZ AB (AZ (BX h.out (by rw[b8];exact dZ hl (iG Ab))) AE)) (dZ (show 2≤1000 by decide) (iG Ab))⟩
end
theorem bB:WebD 1 []:=Nj (by decide) (by decide) (fun q hq=>by cases hq) hV
theorem bD:WebD 3 [(0,1),(0,2),(1,2)]:=Nj (by decide) (by decide) (fun q hq=>by
 simp only[da,gq,or_false] at hq
 rcases hq with rfl|rfl|rfl<;> (unfold AQ;decide)) (by unfold FF;decide)
theorem bE:WebD 9 [(0,8)]:=Nj (by decide) (by decide) (fun q hq=>by rw[cq.mp hq];unfold AQ;decide) (gm _ _)
section
variable{P:Program}{w:World}{K:a8}{mg:Str→Option Value}{base:Heap}{f:Addr}{cdv:Value}{A:de}{outer:List Env}{s:Shared}{H:Hp}{E:XK}
theorem Rp{O:AG}{v0 v2:Option T}{c:Int}{Φ:BL}{N Bk Ct:Fv}(B:Has P w K mg base)(hr:Room 6 (zL P w K mg base f cdv A outer s H E).X.A)(xf:XFly (zL P w K mg base f cdv A outer s H E).X (zL P w K mg base f cdv A outer s H E).W)
  (k:∀v2 O',N [v0,some (.int c),v2] O'):HS (zL P w K mg base f cdv A outer s H E) [v0,some (.int c),v2] O (az (bS 1)) {nx:=N,rt:=Φ,bk:=Bk,ct:=Ct}:=by
 refine CJ (AV 2 (Ac B.gp (hr.mono (by decide)) xf (EA.wa (AZ (ev 1) AE) ⟨c,rfl,fun p xs hp px=>?_⟩)) Rm.nd)
 have one:∀{e:Expr} {np cp:Pos} {O1:AG} {ys:List T} {m:Int} {k1:Nat} {p1 p2 p3 p4 p5 p6:Pos} {Ψ:JB},O1 p=some ys→FK ys→1≤m→m≤10→(∀O2,PO O1 p O2→Ψ false O2)→WT (zL P w K mg base f cdv A outer s H E) [v0,some (.int c),some (.raw (.ref p))] O1 (.UnaryOp .Not (.Call (.Name "_law_right" p1) [.Call (.Name "_law_web_by" p2) [.Name "_law_pen" p3,.Constant (.int m) k1 p4] [] p5] [] p6) cp) Ψ:=by
  intro e np cp O1 ys m k1 p1 p2 p3 p4 p5 p6 Ψ hy py m0 m1 h
  refine QE (KM (Ac B.gr (hr.mono (by decide)) xf (Bm (Ac B.gy (hr.mono (by decide)) xf (EA.wa (AZ (ev 2) (AZ AB AE)) ⟨p,ys,m,rfl,hy,py,m0,by omega,fun n ps O2 n0 n1 hP pw hl po=>Ai ⟨.bl true,⟨n,ps,rfl,Nj n0 (by omega) hP pw,rfl⟩,true,rfl,h O2 po⟩⟩)))))
 refine QW (Ua (WW.wt (UY (one (e:=.Constant .none 0 ⟨0,0,0,0⟩) (np:=⟨0,0,0,0⟩) AD px (by decide) (by decide) fun O2 po=>La (QF ?_)))))
 obtain⟨ys,hy,py⟩:=po.at
 exact one (e:=.Constant .none 0 ⟨0,0,0,0⟩) (np:=⟨0,0,0,0⟩) hy py (by decide) (by decide) fun O3 _=>La (BS (k _ _))
theorem Rq{ρ:List (Option T)}{a:Addr}{ns:List Int}{Φ:BL}{fC:Addr}{fdC:dA}(hr:Room 6 (zL P w K mg base f cdv A outer s H E).X.A)(xf:XFly (zL P w K mg base f cdv A outer s H E).X (zL P w K mg base f cdv A outer s H E).W)(hS:SqL K H a (ns.map V.int))(hn:ns.length≤63)(hρ:ρ[0]?=some (some (.raw (.ref a))))
  (FC:FnOk P w K mg base (CXe P w) 1 fC fdC ["_law_script","_law_k"] (HD K)) (mC:mg "_law_cell_at" =some (.ref fC)) (kC:eM K (.ref fC)=true) (bC:Binds K fdC ["_law_script","_law_k"] [])
  (k:∀ms:List Int,ms.length≤64→Φ (.lst (ms.map T.int)) Ug):HWE (zL P w K mg base f cdv A outer s H E) ρ Ug (ay (bS 1)) Φ:=by
 have sb:=Ab
 refine⟨?_⟩
 refine FZ LZ ?_
 refine QA (Bm (QU FC mC kC bC (hr.mono (by decide)) xf (AZ (ev 0 hρ) (AZ AB AE)) ?_))
 intro σ H1 vs Q as r acc
 obtain⟨v,u,rfl,r1,r2⟩:=r.two_inv
 cases r1.raw_inv
 cases r2.int_inv
 refine⟨a,ns,rfl,Uh as.fr.kp hS,fun c=>acc _ _ _ _ ?_ (.refl as.ok) (.int c)⟩
 refine Ai ⟨by show 1≤sizeLine;decide,?_⟩
 refine Wa rfl hS (ev 0 hρ) AB AB fun ms hm=>?_
 exact NH (ts:=[T.int c]) (us:=ms.map T.int) (by simp;omega) _ (k (c::ms) (by simp;omega))
theorem Rt{a:Addr}{ns:List Int}{fC:Addr}{fdC:dA}(B:Has P w K mg base)(hr:Room 6 (zL P w K mg base f cdv A outer s H E).X.A)(xf:XFly (zL P w K mg base f cdv A outer s H E).X (zL P w K mg base f cdv A outer s H E).W)(hS:SqL K H a (ns.map V.int))(hn:ns.length≤63)
  (FC:FnOk P w K mg base (CXe P w) 1 fC fdC ["_law_script","_law_k"] (HD K)) (mC:mg "_law_cell_at" =some (.ref fC)) (kC:eM K (.ref fC)=true) (bC:Binds K fdC ["_law_script","_law_k"] []):HS (zL P w K mg base f cdv A outer s H E) (CY XO [.raw (.ref a)]) Ug (AY Ob) {nx:=fun _ O'=>bA .non O',rt:=bA}:=by
 refine CJ (BY (k:=false) (EW.eb (EW.cast (My (Gp (KO (Fc B.gr (hr.mono (by decide)) xf (AZ (Ro MY (by decide)).out AE) ⟨1,[],rfl,bB,rfl⟩))) fun _=>My (Gp (KO (Fc B.gr (hr.mono (by decide)) xf (AZ (Ro (Jd (Jd (Jd MY))) (by decide)).out AE) ⟨3,_,rfl,bD,rfl⟩))) fun _=>QG (Gp (KO (Fc B.gr (hr.mono (by decide)) xf (AZ (Ro (Jd MY) (by decide)).out AE) ⟨9,_,rfl,bE,rfl⟩)))) rfl)) (fun h=>by cases h) (fun _=>BS ?_))
 refine CJ (Sz Ae.own rfl (Rq hr xf hS hn rfl FC mC kC bC fun ms hm=> ⟨ms.map T.int,rfl,fun i ρ' O'=>∃v1 v2,ρ'=[some (.raw (.ref a)),v1,v2],⟨none,none,rfl⟩,?_,?_⟩) (by intro _;rfl))
 ·rintro i t _ O1 e ⟨v1,v2,rfl⟩
  rw[cg] at e
  cases ec:ms[i]? with
  |none=>rw[ec] at e;cases e
  |some c=>
   rw[ec] at e
   cases e
   exact⟨[some (.raw (.ref a)),some (.int c),v2],AU 1 Rm.nd (by show 1<3;decide),Rp B hr xf fun _ _=> ⟨_,_,rfl⟩⟩
 ·rintro _ _ ⟨v1,v2,rfl⟩
  exact QW (AW (ET.we YU rfl))
theorem XQ{fd:dA}{fC:Addr}{fdC:dA}(F:Fun K "law" "law" Ob f fd)(B:Has P w K mg base)
  (FC:FnOk P w K mg base (CXe P w) 1 fC fdC ["_law_script","_law_k"] (HD K)) (mC:mg "_law_cell_at" =some (.ref fC)) (kC:eM K (.ref fC)=true) (bC:Binds K fdC ["_law_script","_law_k"] []):
  FnOk P w K mg base (CXe P w) 7 f fd ["_law_script"] (Ni K):=by
 refine Yj F Rm (fun vs H Q E h=>?_) (fun cdv A outer s H vs Q E hr h=>?_)
 ·obtain⟨a,ns,rfl,_⟩:=h
  rfl
 ·obtain⟨a,ns,rfl,hS,hn,k⟩:=h
  refine⟨[.raw (.ref a)],Ug,bA,fun _ _=>False,.cons (.raw _) .nil,QX,fun xf=>Rt B hr xf hS hn FC mC kC bC,fun v H' t O' p f r=>?_,fun cls O' H' z=>z.elim⟩
  have p:t=T.bl true:=p
  subst p
  cases r.bl_inv
  exact k H'
end
theorem Ru{P:Program}{w:World}{K:a8}{mg:Str→Option Value}{base:Heap}{C CR CNoPlace CNoNumber CNoLine CNoRing CNotEven CNoWeb CNoText CTooGreat:Addr}{b0 b1 b2 b3 b4 b5 b6 b7:Bool}(M:Mg P w K mg base)(mNoPlace:Cn K "NoPlace" CNoPlace)(mNoNumber:Cn K "NoNumber" CNoNumber)(mNoLine:Cn K "NoLine" CNoLine)(mNoRing:Cn K "NoRing" CNoRing)(mNotEven:Cn K "NotEven" CNotEven)(mNoWeb:Cn K "NoWeb" CNoWeb)(mNoText:Cn K "NoText" CNoText)(mTooGreat:Cn K "TooGreat" CTooGreat)(g:Xg K CR)(x:Xk K C CR CNoPlace CNoNumber CNoLine CNoRing CNotEven CNoWeb CNoText CTooGreat b0 b1 b2 b3 b4 b5 b6 b7):Kinds K mg C b0 b1 b2 b3 b4 b5 b6 b7:=
 ⟨⟨_,M.mm mNoPlace,x.e0⟩,⟨_,M.mm mNoNumber,x.e1⟩,⟨_,M.mm mNoLine,x.e2⟩,⟨_,M.mm mNoRing,x.e3⟩,⟨_,M.mm mNotEven,x.e4⟩,⟨_,M.mm mNoWeb,x.e5⟩,⟨_,M.mm mNoText,x.e6⟩,⟨_,M.mm mTooGreat,x.e7⟩,x.ve,⟨x.g1,x.g2,x.g3,x.g4,x.g5,g.g6,g.g7⟩⟩
theorem XR{l:me}{w:World}{K:a8}{h:Heap}{mg:Str→Option Value}{fa CR CNoPlace CNoNumber CNoLine CNoRing CNotEven CNoWeb CNoText CTooGreat:Addr}{tMOST_PLACES:Tok}(X:K.In h)(G:h.Ns fJ mg)(hfa:mg "law" =some (.ref fa))
  (H0:Fx K "least_told" JT) (H1:Fx K "ties_of" Ec) (H2:Fx K "nears_of" JS) (H3:Fx K "fars_from" IQ) (H4:Fx K "ring_by_tie" Ti) (H5:Fx K "shortest" JU) (H6:Fx K "double_of" Qw) (H7:Fx K "doubled" Wp) (H8:Fx K "doubled_ring" Qx) (H9:Fx K "_law_cell_at" Qy) (H10:Fx K "_law_next" Qz) (H11:Fx K "_law_pen_of" Wq) (H12:Fx K "_law_draw" RA) (H13:Fx K "_law_whole" GC) (H14:Fx K "_law_kind_of" NO) (H15:Fx K "_law_named" FM) (H16:Fx K "_law_names_by" Ed) (H17:Fx K "_law_turned" GD) (H18:Fx K "_law_shape" Bg) (H19:Fx K "_law_web_by" DE) (H20:Fx K "_law_far" MJ) (H21:Fx K "_law_rings" BV) (H22:Fx K "_law_shortest" GB) (H23:Fx K "_law_double" Kr) (H24:Fx K "_law_told" Ks) (H25:Fx K "_law_right" Dz) (H26:Fx K "law" Ob)
  (zint:Zn K "int") (zbool:Zn K "bool") (ztuple:Zn K "tuple") (zlist:Zn K "list") (zset:Zn K "set") (zrange:Zn K "range") (zisinstance:Zn K "isinstance") (zmax:Zn K "max") (zmin:Zn K "min") (zlen:Zn K "len") (zall:Zn K "all") (zsorted:Zn K "sorted") (zrepr:Zn K "repr") (zValueError:Zn K "ValueError") (zany:Zn K "any") (zenumerate:Zn K "enumerate") (vMOST_PLACES:jw K fJ "MOST_PLACES" =some (some (.int 16 tMOST_PLACES))) (mNoPlace:Cn K "NoPlace" CNoPlace) (mNoNumber:Cn K "NoNumber" CNoNumber) (mNoLine:Cn K "NoLine" CNoLine) (mNoRing:Cn K "NoRing" CNoRing) (mNotEven:Cn K "NotEven" CNotEven) (mNoWeb:Cn K "NoWeb" CNoWeb) (mNoText:Cn K "NoText" CNoText) (mTooGreat:Cn K "TooGreat" CTooGreat) (mR:Cn K "RingError" CR) (gR:Xg K CR)
  (yTooGreat:Xk K CTooGreat CR CNoPlace CNoNumber CNoLine CNoRing CNotEven CNoWeb CNoText CTooGreat false false false false false false false true) (iTooGreat:bO K CTooGreat "TooGreat.__init__" XG) (nMany:dJ K (.ref CTooGreat) "many" =some none) (nMost:dJ K (.ref CTooGreat) "most" =some none)
  :∃fd:dA,(∀(s:Shared) (v:Value),mP s fd ⟨[v],[]⟩ [("_law_script",v)])∧∀base:Heap,K.In base→base.Ns fJ mg→FnOk l.prog w K mg base (CXe l.prog w) 7 fa fd ["_law_script"] (Ni K):=by
 obtain⟨f0,d0,h0⟩:=H0
 obtain⟨f1,d1,h1⟩:=H1
 obtain⟨f2,d2,h2⟩:=H2
 obtain⟨f3,d3,h3⟩:=H3
 obtain⟨f4,d4,h4⟩:=H4
 obtain⟨f5,d5,h5⟩:=H5
 obtain⟨f6,d6,h6⟩:=H6
 obtain⟨f7,d7,h7⟩:=H7
 obtain⟨f8,d8,h8⟩:=H8
 obtain⟨f9,d9,h9⟩:=H9
 obtain⟨f10,d10,h10⟩:=H10
 obtain⟨f11,d11,h11⟩:=H11
 obtain⟨f12,d12,h12⟩:=H12
 obtain⟨f13,d13,h13⟩:=H13
 obtain⟨f14,d14,h14⟩:=H14
 obtain⟨f15,d15,h15⟩:=H15
 obtain⟨f16,d16,h16⟩:=H16
 obtain⟨f17,d17,h17⟩:=H17
 obtain⟨f18,d18,h18⟩:=H18
 obtain⟨f19,d19,h19⟩:=H19
 obtain⟨f20,d20,h20⟩:=H20
 obtain⟨f21,d21,h21⟩:=H21
 obtain⟨f22,d22,h22⟩:=H22
 obtain⟨f23,d23,h23⟩:=H23
 obtain⟨f24,d24,h24⟩:=H24
 obtain⟨f25,d25,h25⟩:=H25
 obtain⟨f26,d26,h26⟩:=H26
 have e:=hfa.symm.trans (PySem.W.mg_of X G h26.a)
 cases e
 have mm:∀{x:Str} {v:Value},jw K fJ x=some (some v)→mg x=some v:=fun e=>PySem.W.mg_of X G e
 have nn:∀{x:Str},Zn K x→mg x=none:=fun e=>PySem.W.mg_none_of X G e
 have Tx:Txt mg:=⟨nn zint,nn zbool,nn ztuple,nn zlist,nn zset,nn zrange,nn zisinstance,nn zmax,nn zmin,nn zlen,nn zall,nn zsorted,nn zrepr,nn zValueError,nn zany,nn zenumerate,⟨tMOST_PLACES,mm vMOST_PLACES⟩⟩
 refine⟨d26,fun s v=>?_,fun base _ _=>?_⟩
 ·obtain⟨⟨_,_,_,_,_,_,_,_,_,rfl,_⟩,_⟩:=h26.F
  exact .of_eq rfl
 have M:Mg l.prog w K mg base:=⟨mm⟩
 have UTooGreat:=Ru M mNoPlace mNoNumber mNoLine mNoRing mNotEven mNoWeb mNoText mTooGreat gR yTooGreat
 obtain⟨fi,di,hi⟩:=iTooGreat
 have G0:=h0.t M (RU h0.F Tx) (h0.b1 rfl fun _ _ _ _ _ _ _=>rfl)
 have G1:=h1.t M (MO h1.F Tx) (h1.b1 rfl fun _ _ _ _ _ _ _=>rfl)
 have G2:=h2.t M (RG h2.F Tx) (h2.b1 rfl fun _ _ _ _ _ _ _=>rfl)
 have G3:=h3.t M (RJ h3.F) (h3.b2 rfl fun _ _ _ _ _ _ _ _=>rfl)
 have G4:=h4.t M (XB h4.F Tx G3) (h4.b3 rfl fun _ _ _ _ _ _ _ _ _=>rfl)
 have G5:=h5.t M (Rc h5.F G2 G4 G0) (h5.b1 rfl fun _ _ _ _ _ _ _=>rfl)
 have G6:=h6.t M (XI h6.F G1) (h6.b1 rfl fun _ _ _ _ _ _ _=>rfl)
 have X:XCl l.prog w K mg base "TooGreat" CTooGreat fi ["many","most"]:=⟨hi.c,hi.kp,mm mTooGreat,⟨di,["self","many","most"],XH hi.F hi.c nMany nMost,hi.bu rfl fun _ _ _ _ _ _ _ _ _=>rfl⟩,UTooGreat.eN,fun n hn=>by simp only[da,gq,or_false] at hn;rcases hn with rfl|rfl;exact nMany;exact nMost,by decide⟩
 have G7:=h7.t M (XJ h7.F Tx X G6) (h7.b1 rfl fun _ _ _ _ _ _ _=>rfl)
 have G8:=h8.t M (UF h8.F G6 G5) (h8.b1 rfl fun _ _ _ _ _ _ _=>rfl)
 have W9:FnOk l.prog w K mg base (CXe l.prog w) 1 f9 _ _ (HD K):=Tj h9.F Tx
 have G10:=h10.t M (Tn h10.F) (h10.b1 rfl fun _ _ _ _ _ _ _=>rfl)
 have G11:=h11.t M (Wt h11.F Tx) (h11.b1 rfl fun _ _ _ _ _ _ _=>rfl)
 have G12:=h12.t M (To h12.F G10) (h12.b2 rfl fun _ _ _ _ _ _ _ _=>rfl)
 have G13:=h13.t M (Oc h13.F Tx) (h13.b1 rfl fun _ _ _ _ _ _ _=>rfl)
 have C:Cat l.prog w K mg base CTooGreat CR fi:=⟨X,⟨⟨f14,d14,UE (Hf h14.F Tx UTooGreat),mm h14.a,h14.F.kp,(h14.b1 rfl fun _ _ _ _ _ _ _=>rfl)⟩⟩,⟨⟨f13,d13,MV h13.F Tx,mm h13.a,h13.F.kp,(h13.b1 rfl fun _ _ _ _ _ _ _=>rfl)⟩⟩,mm mR,gR.bR,yTooGreat.kit⟩
 have G15:=h15.t M (RE h15.F Tx) (h15.b2 rfl fun _ _ _ _ _ _ _ _=>rfl)
 have G16:=h16.t M (Kv h16.F Tx G12) (h16.b2 rfl fun _ _ _ _ _ _ _ _=>rfl)
 have G17:=h17.t M (Od h17.F Tx) (h17.b2 rfl fun _ _ _ _ _ _ _ _=>rfl)
 have G18:=h18.t M (Rh h18.F Tx G12 G17) (h18.b2 rfl fun _ _ _ _ _ _ _ _=>rfl)
 have G19:=h19.t M (Of h19.F Tx G12 G18 G15 G16) (h19.b2 rfl fun _ _ _ _ _ _ _ _=>rfl)
 have G20:=h20.t M (Wy h20.F Tx) (h20.b1 rfl fun _ _ _ _ _ _ _=>rfl)
 have G21:=h21.t M (Za h21.F Tx G20) (h21.b2 rfl fun _ _ _ _ _ _ _ _=>rfl)
 have G22:=h22.t M (XF h22.F Tx G21) (h22.b1 rfl fun _ _ _ _ _ _ _=>rfl)
 have G23:=h23.t M (UG h23.F Tx) (h23.b1 rfl fun _ _ _ _ _ _ _=>rfl)
 have G24:=h24.t M (Zh h24.F C G7) (h24.b1 rfl fun _ _ _ _ _ _ _=>rfl)
 have G25:=h25.t M (Zk h25.F Tx G23 G24 G8 G22) (h25.b1 rfl fun _ _ _ _ _ _ _=>rfl)
 exact XQ h26.F ⟨Tx,G11,G19,G25⟩ W9 (mm h9.a) h9.F.kp (h9.b2 rfl fun _ _ _ _ _ _ _ _=>rfl)
theorem walk{l:me}{q:Program}{loose:List Str}{XP:(Str→Option Value)→Heap→Prop}{YP:World→Heap→Prop}{d:DefRec}{K:Params→a8}(hn:l.most=some 63)(hdf:d.params.defaults=[])
  (hY:∀(w:World) (h:Heap),YP w h→(K w.params).In h)
  (F:∀(w:World) (mg:Str→Option Value) (fa:Addr) (h:Heap),(K w.params).In h→h.Ns fJ mg→mg d.name=some (.ref fa)→
   ∃fd:dA,(∀(s:Shared) (u:Value),mP s fd ⟨[u],[]⟩ [("_law_script",u)])∧∀base:Heap,(K w.params).In base→base.Ns fJ mg→FnOk l.prog w (K w.params) mg base (CXe l.prog w) 7 fa fd ["_law_script"] (Ni (K w.params))):
  PySem.W.WalkO q loose XP YP l.row.toRowW d [] (fun f vs=>PySem.call f vs):=
 L2.SN (n:=63) (k:=7) (x:="_law_script") (CX:=fun w=>CXe l.prog w) (sp:=fun w=>Ni (K w.params)) hn (by decide) hdf ⟨rfl,by decide,by decide,rfl⟩ hY F (fun _ _ a ns hl _ hS=> ⟨a,ns,rfl,hS,hl,fun _=>rfl⟩) fun _ _ _ _ _ z=>z.never
end K63
open PySem PySem.W PyProof.Rows
set_option maxRecDepth 100000 in
set_option maxHeartbeats 0 in
theorem PySem.Challenge.cw_noshortring_k63_doubles_holds : PySem.Challenge.rw_noshortring_k63_doubles.Holds := by
 w_on;o_law
 refine PySem.W.holds_open (q:=K63.kq) (loose:=[]) (Xt:=fun s=>nA K63.kq [] s&&mW [] s) (XP:=PySem.W.XL K63.kq []) (Yf:=fun s=>K63.ka.map s.heap.get?) (Ya:=fun w=> (K63.Kk w.params).map fun(p:Addr×Obj)=>some p.2) (YP:=nM K63.Kk) (N:=5738) K63.left (nM.of fun _=>by kernel_rfl) nM.keeps (fun s e=>xl_of s (Bool.and_eq_true_iff.mp e).1) XL.keeps (by rfl) (by rfl) (by rfl) (fun s e=>recFacts_of (Bool.and_eq_true_iff.mp e).2) (by rfl) (by first|assumption|decide+kernel) (by first|k_qdec|decide+kernel) ⟨rfl,rfl,rfl,rfl,rfl,by decide+kernel⟩ ?hw ?hc
 (case hw=>w_witness2)
 k_fill
 refine K63.walk (l:=PySem.Challenge.rw_noshortring_k63_doubles) rfl rfl (fun w h Y=>Y) ?F
 case F=>
  intro w mg fa h KX G hmg
  refine' K63.XR KX G hmg ?H0 ?H1 ?H2 ?H3 ?H4 ?H5 ?H6 ?H7 ?H8 ?H9 ?H10 ?H11 ?H12 ?H13 ?H14 ?H15 ?H16 ?H17 ?H18 ?H19 ?H20 ?H21 ?H22 ?H23 ?H24 ?H25 ?H26 ?zint ?zbool ?ztuple ?zlist ?zset ?zrange ?zisinstance ?zmax ?zmin ?zlen ?zall ?zsorted ?zrepr ?zValueError ?zany ?zenumerate ?vMOST_PLACES ?mNoPlace ?mNoNumber ?mNoLine ?mNoRing ?mNotEven ?mNoWeb ?mNoText ?mTooGreat ?mR ?gR ?yTooGreat ?iTooGreat ?nMany ?nMost
  case H0|H1|H2|H3|H4|H5|H6|H7|H8|H9|H10|H11|H12|H13|H14|H15|H16|H17|H18|H19|H20|H21|H22|H23|H24|H25|H26=> (refine' L2.TL.fi ?a ?l ?q ?k;(case a=>k_is);(case l=>k_is);(case q=>k_is);(case k=>k_is))
  case zint|zbool|ztuple|zlist|zset|zrange|zisinstance|zmax|zmin|zlen|zall|zsorted|zrepr|zValueError|zany|zenumerate=> (delta L2.TL.Zn;k_is)
  case mNoPlace|mNoNumber|mNoLine|mNoRing|mNotEven|mNoWeb|mNoText|mTooGreat|mR=> (delta L2.TL.Cn;k_is)
  case vMOST_PLACES=>k_is
  case gR=>exact⟨by k_is,by k_is,by k_is⟩
  case yTooGreat=>exact⟨by kit_is,by kit_is,by kit_is,by kit_is,by kit_is,by kit_is,by kit_is,by kit_is,by kit_is,rfl,by kit_is,by k_is,by k_is,by k_is,by k_is,by k_is⟩
  case iTooGreat=> (refine' L2.TL.ini ?l ?r ?i ?t ?s ?k ?fl ?fq ?fk;(case l=>k_is);(case r=>k_exc);(case i=>k_is);(case t=>k_is);(case s=>k_is);(case k=>k_is);(case fl=>k_is);(case fq=>k_is);(case fk=>k_is))
  case nMany=>k_is
  case nMost=>k_is
