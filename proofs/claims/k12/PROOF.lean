import PyProof.Rows.All
import Wide.All
import OpenK.AllK
import Wide.FinOn
import Lean
import PyProof.EqAt
import PyProof.EqKinds
import PyProof.TupleCall
import PySem.Challenge.RW_noshortring_k12_whole_growth
noncomputable section
open Array renaming length_toList→dr,getElem?_toList→dY,getElem?_eq_some_iff→eX,toList_extract→fc,toList_reverse→fB,toList_append→gZ,toList_push→iJ,ext'→ju,getD→kA,toList_map→k4,replicate→lG
open Bool renaming false_ne_true→dc,false_eq_true→dC,not_eq_true'→fT,eq_iff_iff→gG,and_eq_true→gO,not_true→jn,not_eq_false'→ky,and_false→kz,not_false→lU,true_and→mh
open Classical renaming byContradiction→fZ
open False renaming elim→iM
open ForInStep renaming yield→gF
open Int renaming eq_ofNat_of_zero_le→dZ,toNat_natCast→eE,toNat_of_nonneg→gD,le_refl→gE,emod_lt_of_pos→gN,le_trans→hZ,emod_nonneg→iE,le_of_lt→iI,le_total→jG,le_antisymm→jX,pow_zero→lx,pow_succ→ly,natCast_pow→lE,natCast_mul→lF,mul_one→lT,mul_assoc→mf,toNat→nC
open List renaming mem_singleton→b8,getElem?_map→b9,length_map→c9,mem_cons→dh,getElem?_eq_getElem→di,mem_of_getElem?→dj,getElem?_eq_some_iff→dt,size_toArray→dv,mem_cons_of_mem→dw,mem_map→dy,length_append→dz,length_cons→dA,range→dE,not_mem_nil→dI,mem_append→dJ,map_cons→dM,nodup_cons→dO,mem_cons_self→dP,getElem?_append_right→dQ,mem_filter→dR,mem_range→dU,getElem?_set_ne→dX,getD_eq_getElem?_getD→eB,getElem?_set_self→eD,getElem?_append_left→eF,extract_eq_drop_take→eG,length_take→eH,getElem?_of_mem→eJ,map_map→eK,length_range→eP,lookup_cons→eS,filterMap_cons→eT,Pairwise→eU,mem_append_right→eV,nodup_append→eY,cons_append→eZ,getElem?_eq_none→e7,map_append→e8,replicate→e9,pairwise_iff_getElem→fk,ext_getElem?→fo,getElem_mem→fu,filter_cons→fv,take_length→fM,getElem?_range→fO,length_replicate→fQ,getLast?_cons_cons→fU,drop_eq_getElem_cons→fY,take_add_one→gh,append_assoc→gi,getElem?_drop→gm,mem_append_left→gu,getElem?_replicate→gw,all_eq_true→gx,pairwise_map→gC,take_append_drop→gI,perm_append_comm→gJ,mem_filterMap→gM,getLast?_append→gR,length_nil→gY,length_drop→ie,nodup_iff_pairwise_ne→iw,length_filter_le→iy,getLast?_eq_some_iff→iz,length_set→iC,getD→iD,mem_of_getLast?→iG,getElem?_take_of_lt→iL,getElem_of_mem→iR,getElem?_cons_succ→iU,append_nil→i8,Perm→jb,mem_of_mem_take→jg,pairwise_singleton→jx,take_of_length_le→jC,reverse_cons→jD,pairwise_lt_range→jE,length_pos_of_mem→jF,getElem_map→jK,pairwise_append→jR,getElem?_zipIdx→jS,reverse_append→jY,mem_map_of_mem→jZ,map_nil→j8,take_zero→ku,getElem?_take→kv,take_sublist→kK,drop_length→kX,map_set→lj,of_mem_zip→lD,drop_zero→lS,map_take→me,toArray→mO,cons→nB
open List.Pairwise renaming imp_of_mem→gQ,nil→iH,filter→jT,map→kL
open Nat renaming le_refl→dm,lt_of_lt_of_le→dG,ne_of_lt→dN,lt_irrefl→e6,zero_le→fb,lt_succ_of_lt→fA,le_trans→fI,lt_succ_self→gL,lt_trichotomy→gT,zero_add→hV,not_lt_zero→jq,le_of_lt→jB,le_of_not_lt→jJ,ne_of_gt→j7,lt_of_le_of_lt→kr,lt_of_succ_lt→kI,le_of_succ_le→kJ,strongRecOn→lC,add_assoc→md,mod_lt→mn,succ_pos→mG,succ_add→mH,pow_succ→mJ,mul_comm→mK,lt_trans→mM
open Option renaming some→dW,isSome→jm
open Or renaming inr→kS,inl→lQ
open Prod renaming ext→fK,fst→gB
open Prod.mk renaming injEq→ma
open PyProof.Rows renaming wpS_bind→de,wpS_pure→dg,SortSt→eO,wpS_forRange→eW,seqObj→fe,slot_tuple_getitem→fq,wpS_mono→fX,callWith_type1→g0,failedOf→iT,wpS_modify→iV,envOfC→je,SortKind→jf,wpS_get→jy,get?_update_seq→jW,IntsAre→j9,AllBare→kb,wpS_lift→kh,setPending→kl,listUpdate_at→kN,entry_list_sort→lz,slot_list_sort→lH,seqEpoch_at→lI,args_list_sort→lN,minRun'→lX,plain_sorted→mq,entry_sorted→mx,args_sorted1→mB,kind_sorted→mY
open PyProof.Rows.F renaming plain_set_update_loop→gc
open PyProof.Rows.SortSt renaming mk'→lh
open PySem renaming wpAny_bind→b4,Shared→b6,wpAny_pure→b7,starEach→df,Spec→dB,FuncData→dD,Around→dH,wpAny_holding→ef,bootBuiltins→eC,sizeLine_eq→fh,mainGlobals→fj,SetTable→fm,foldedSetIterable→fw,compareOp→fE,PyData→fP,wpAny_setState_of→fR,wpAny_newObj_type→fS,codeAny_builtin→fW,cellsFrom→gj,wpAny_call_entry→gq,plainId_quiet→gy,wpAny_tryCatch→gz,wpAny_truthy_bool→gS,backTo→gU,assignEach→gW,wpAny_seqItems→ip,wpAny_passesOwn→iB,codeAny_call_builtin→iF,wpAny_mono→iK,mem_of_lookup→iP,wpAny_callSpecial?_slot→iS,wpAny_rule→iW,wpAny_Call_Name_kw→iX,codeAny→iY,argBest→iZ,wpAny_updateSeq→i6,wpAny_letGo→jc,wpAny_standAt→jk,binaryOp→jl,wpAny_of_eq→jv,sliceBounds→jw,pyNext→jz,wpAny_askSetting→jH,checkBuiltinCall→jI,wpAny_newList→jL,wpAny_attempt→jM,wpAny_execs_nil→jU,letOwnedTupleGo→jV,wpAny_typeOf→j5,codeAny_mono→j6,swapsWith→kc,pickOrder→ke,PassesOwn→kg,wpAny_setField_rec→ki,wpAny_call→kj,wpAny_pyIter_list→kB,ofAClassStatement→kG,Keyword→kM,attributeBase→kO,Builtin→kR,wpAny_forIn_list→kT,wpAny_eqBool_int→kU,seqItems?→kW,rawInt→k6,IsPart→lu,pyIter→lJ,newFunctionEnv→lK,keywordEach→lL,isSubtype_type→lM,Operator→lR,pushCells→lW,getItem→lY,callerA→lZ,frameOf→l8,setEntries→mi,call_meets→mj,builtinsNs→ml,entryPlaceOf→my,compEnvC→mz,Within→mD,BindsTo→mR,updateSeq→mS,preSum→mT,Result→mV,wpAny_field→mW,seqIndex_of→mX,backToKw→nj,Fin→nA
open PySem.Around renaming under_plainId→fD
open PySem.Builtin.Builtins renaming bindParams→ic
open PySem.Builtin.List renaming listTooLong→iO
open PySem.Builtin.Slice renaming slicePlaces→iA,sliceAdjust→ji
open PySem.Builtin.Tuple renaming tupleExact→iN
open PySem.Challenge renaming pw_noshortring_k12_whole_growth→dS
open PySem.EntryCells renaming newEntry→j4
open PySem.F renaming plain_min_loop→ig,plain_max_loop→il,entry_min_loop→kY,entry_max_loop→kZ
open PySem.Heap renaming get?_push_of_some→da,lt_size→du,get?_push_size→dF,get?_update_other→eQ,size_push→fL,get?_update_self→gK,SameBut→i5,get?_update_ne→jj,FlyingW→mQ
open PySem.Heap.SameBut renaming update→j3
open PySem.NameKind renaming cell→ja
open PySem.Obj renaming mapSeq→fV,putSet→ko
open PySem.PyData renaming eqv→gX,depthAll→i7,eqvAll→jO
open PySem.SeqAt renaming EqAt→fF
open PySem.SetTable renaming insertAt→gH,runEnd→jd,sizeAbove→lV,fill→l7
open PySem.SetTable.below renaming go→ni
open PySem.SetTable.probe renaming go→jP
open PySem.Str renaming ofString→lg
open PySem.Value renaming type→jr,none→js,bool→km,int→l0,str→mU
open PySem.W renaming Frag→b5,kitOne→eu,openGood→fg,kia_one→fJ,excIn→gk,nsIn→gP,kitCls→iq,keepIn→iu,hideAll_get→iQ,Looks→i9,fnOf→jh,hideAll→jo,of_hideAll→jt,findIn→jA,sortI→jN,looks_findIn→jQ,methodObj→kH,mroIn→kP,clsIn→kQ,instObj→lA,OpenLaw→lB,lookIn→lO,codeIn→lP,recOk→l9,xlAt→mF,InK→mZ
open PySem.W.Fast renaming te14364793385576792824→fz,tw4187177175401517315→fG,te4187177175401517315→fH
open PySem.pickOrder renaming go→mw
open Sum renaming inr→k8,inl→k9
open True renaming intro→k7
set_option Elab.async false
set_option linter.all false
set_option maxRecDepth 100000
namespace L2
open PySem PySem.Spec PyProof.Rows
abbrev Ja:=Sum Int Str
def Ur:Ja→Value→Bool
 | .inl k,v=>Value.isInt k v
 | .inr x,v=>Value.isStrOf x v
def aa(w:World):Ja→Int
 | .inl k=>hashInt k
 | .inr x=>hashStr w x
theorem Al:∀{k:Ja} {v:Value},Ur k v=true→(∃i t,k=k9 i∧v=l0 i t)∨(∃x t,k=k8 x∧v=mU x t)
 | .inl i,v,h=>by
  obtain⟨t,e⟩:=Value.isInt_shape (k:=i) (v:=v) h
  exact .inl ⟨i,t,rfl,e⟩
 | .inr x,v,h=>by
  obtain⟨t,e⟩:=Value.isStrOf_shape (x:=x) (v:=v) h
  exact .inr ⟨x,t,rfl,e⟩
theorem Vb(a b:Int):decide ((k9 a:Ja)=k9 b)=(a==b):=by
 by_cases e:a=b
 ·subst e;simp
 ·have h:¬(k9 a:Ja)=k9 b:=fun q=>e (k9.inj q)
  rw[decide_eq_false h]
  exact(beq_eq_false_iff_ne.mpr e).symm
theorem Vc(a b:Str):decide ((k8 a:Ja)=k8 b)=decide (a=b):=by
 by_cases e:a=b
 ·subst e;simp
 ·have h:¬(k8 a:Ja)=k8 b:=fun q=>e (k8.inj q)
  rw[decide_eq_false h,decide_eq_false e]
theorem Vd(a:Int)(b:Str):decide ((k9 a:Ja)=k8 b)=false:=decide_eq_false (fun q=>nomatch q)
theorem Ve(a:Str)(b:Int):decide ((k8 a:Ja)=k9 b)=false:=decide_eq_false (fun q=>nomatch q)
def IF(prog:Program)(w:World):PySem.KeyKind prog w Ja where
 is:=Ur
 hash:=aa w
 inj:=fun v a b ha hb=>by
  rcases Al ha with⟨i,t,rfl,rfl⟩| ⟨x,t,rfl,rfl⟩
  ·rcases Al hb with⟨j,u,rfl,e⟩| ⟨y,u,rfl,e⟩
   ·injection e with e1 _;rw[e1]
   ·exact nomatch e
  ·rcases Al hb with⟨j,u,rfl,e⟩| ⟨y,u,rfl,e⟩
   ·exact nomatch e
   ·injection e with e1 _;rw[e1]
 byValue:=fun k v h=>by
  rcases Al h with⟨i,t,rfl,rfl⟩| ⟨x,t,rfl,rfl⟩<;>rfl
 pyHash:=fun hv h=>by
  rcases Al hv with⟨i,t,rfl,rfl⟩| ⟨x,t,rfl,rfl⟩
  ·exact wpAny_pyHash_int h
  ·exact wpAny_pyHash_str h
 eqBool:=fun hu hv h=>by
  rcases Al hu with⟨i,t,rfl,rfl⟩| ⟨x,t,rfl,rfl⟩
  ·rcases Al hv with⟨j,u,rfl,rfl⟩| ⟨y,u,rfl,rfl⟩
   ·rw[Vb] at h;exact kU h
   ·rw[Vd] at h;exact fF.int_str i t y u _ _ _ _ h
  ·rcases Al hv with⟨j,u,rfl,rfl⟩| ⟨y,u,rfl,rfl⟩
   ·rw[Ve] at h;exact fF.str_int x t j u _ _ _ _ h
   ·rw[Vc] at h;exact wpAny_eqBool_str h
 «strs»:=fun k x t v h=>by
  rcases Al h with⟨i,u,rfl,e⟩| ⟨y,u,rfl,e⟩
  ·exact nomatch e
  ·injection e with e1 _
   subst e1
   cases v<;>rfl
inductive V where
 |non|bl (b:Bool)|int (i:Int)|str (x:Str)|byt (b:Array UInt8)|flt (b:UInt64)|ref (a:Addr)|ty (n:String)
 deriving DecidableEq
def RelV:V→Value→Prop
 | .non,u=>u=js
 | .bl b,u=>u=km b
 | .int i,u=>∃t,u=l0 i t
 | .str x,u=>∃t,u=mU x t
 | .byt b,u=>∃t,u=Value.bytes b t
 | .flt b,u=>∃t,u=Value.float b t
 | .ref a,u=>u=Value.ref a
 | .ty n,u=>u=jr n
abbrev Vals:List V→List Value→Prop:=Paired RelV
theorem Vals.length{xs:List V}{us:List Value}(r:Vals xs us):xs.length=us.length:=Paired.length r
theorem Vals.get:∀{xs:List V} {us:List Value} {i:Nat} {x:V},Vals xs us→xs[i]?=some x→∃u,us[i]?=some u∧RelV x u
 |_,_,_,_,.nil,e=>by simp at e
 |_,_,0,_,.cons r _,e=>by simp at e;subst e;exact⟨_,rfl,r⟩
 |_,_,i+1,x,.cons _ t,e=>by
  obtain⟨u,h1,h2⟩:=Vals.get (i:=i) (x:=x) t (by simpa using e)
  exact⟨u,by simpa using h1,h2⟩
theorem Vals.set{x:V}{u:Value}(r:RelV x u):∀{xs:List V} {us:List Value} (i:Nat),Vals xs us→Vals (xs.set i x) (us.set i u)
 |_,_,_,.nil=> .nil
 |_,_,0,.cons _ t=> .cons r t
 |_,_,i+1,.cons q t=> .cons q (Vals.set r i t)
theorem Vals.append:∀{xs ys:List V} {us ws:List Value},Vals xs us→Vals ys ws→Vals (xs++ys) (us++ws)
 |_,_,_,_,.nil,s=>s
 |_,_,_,_,.cons r t,s=> .cons r (Vals.append t s)
theorem Vals.take:∀{xs:List V} {us:List Value} (n:Nat),Vals xs us→Vals (xs.take n) (us.take n)
 |_,_,0,_=> .nil
 |_,_,_+1,.nil=> .nil
 |_,_,n+1,.cons r t=> .cons r (Vals.take n t)
theorem Vals.drop:∀{xs:List V} {us:List Value} (n:Nat),Vals xs us→Vals (xs.drop n) (us.drop n)
 |_,_,0,r=>r
 |_,_,_+1,.nil=> .nil
 |_,_,n+1,.cons _ t=>Vals.drop n t
def SW:Option V→Option Value→Prop
 |some v,some u=>RelV v u
 |none,none=>True
 |_,_=>False
def KV{κ:Type}:List (κ×V)→List (κ×Value)→Prop:=Paired fun(p:κ×V) (q:κ×Value)=>p.1=q.1∧RelV p.2 q.2
def kV:Ja→V
 | .inl i=> .int i
 | .inr x=> .str x
inductive HO where
 /-- a list -/
 | lst (xs:List V)
 /-- a tuple (never changes) -/
 | tup (xs:List V)
 /-- a dict whose keys are ints and texts; one whose keys are tuples of ints and texts (the empty one is both) -/
 | dK (kvs:List (Ja × V)) | dT (kvs:List (List Ja × V))
 /-- a set of ints: its members,its size -/
 | set (S:Int→Bool) (n:Nat)
 /-- an instance of the class at C,its dict at dx,its attributes -/
 | ins (C dx:Addr) (fs:List (Str × V))
 /-- the dict of the instance at x -/
 | own (x:Addr)
 /-- the dict of an exception -/
 | xd (fs:List (Str × V))
 /-- a bound method,f of x -/
 | met (f x:Addr)
 /-- a range object lo,lo + 1,.. below hi -/
 | rng (lo hi:Int)
 /-- a thing that is known to the object (the script; a dict while a loop walks it): read,never written while it is so -/
 | frz (o:Obj) (u:HO)
 /-- a code object's table -/
 | tbl (ps:Array Value)
 /-- any other thing,by what is true of its one object (a def of one's own: SetO a S n:=HO.ext fun h => ..) -/
 | ext (φ:Heap→Prop)
abbrev Hp:=Addr→Option HO
def upd(H:Hp)(a:Addr)(o:HO):Hp:=fun b=>if b=a then some o else H b
theorem AX{H:Hp}{a:Addr}{o:HO}:upd H a o a=some o:=by unfold upd;rw[if_pos rfl]
theorem AR{H:Hp}{a b:Addr}{o:HO}(h:b≠a):upd H a o b=H b:=by unfold upd;rw[if_neg h]
theorem AN{H:Hp}{a b:Addr}{o:HO}(h:H a=some o)(h':H b=none):a≠b:=by
 intro e;subst e;rw[h] at h';cases h'
section
variable(P:Program)(w:World)
def ObjOk(H:Hp)(h:Heap)(a:Addr):HO→Prop
 | .lst xs=>xs.length≤sizeLine∧∃(its:List Value) (n:Nat),Vals xs its∧h.get? a=some {cls:=.type "list",data:=.seq its.toArray n}
 | .tup xs=>xs.length≤sizeLine∧∃its:List Value,Vals xs its∧IsTup h a its.toArray
 | .dK kvs=>kvs.length≤sizeLine∧(a==sysModules)=false∧∃vs,KV kvs vs∧h.DictOf (IF P w) a vs
 | .dT kvs=>kvs.length≤sizeLine∧(a==sysModules)=false∧∃xs:List (List Ja×Addr×Value),
   Paired (fun(p:List Ja×V) (q:List Ja×Addr×Value)=>p.1=q.1∧H q.2.1=some (.tup (p.1.map kV))∧RelV p.2 q.2.2) kvs xs∧
   ∃o es ep,h.get? a=some o∧o.ExactDict∧o.data=.dict es ep∧es.toList=xs.map (entryOfKey (tupleKind (IF P w)))∧(xs.map (·.1)).Nodup
 | .set S n=>h.SetOf (intKind P w) a S n
 | .ins C dx fs=>H dx=some (.own a)∧fs.length≤1000∧dx≠a∧h.get? a=some (lA C dx)∧
   ∃mA,h.Ns1 dx mA∧(∀f,SW (fs.lookup f) (mA f))∧mD mA (fs.map (·.1))
 | .own _=>∃o,h.get? a=some o
 | .xd fs=>∃mA,h.Ns1 a mA∧∀f,SW (fs.lookup f) (mA f)
 | .rng lo hi=>∃t u v,h.get? a=some {cls:=.type "range",data:=.fields #[.int lo t,.int hi u,.int 1 v]}
 | .frz o u=>h.get? a=some o∧ObjOk H h a u
 | .tbl ps=>h.get? a=some {cls:=.none,data:=.fields ps}
 | .met f x=>h.get? a=some (kH (.ref f) (.ref x))
 | .ext φ=>φ h∧(∃o,h.get? a=some o)∧∀h1 h2:Heap,φ h1→(∀o,h1.get? a=some o→h2.get? a=some o)→φ h2
def HOk(H:Hp)(h:Heap):Prop:=∀a o,H a=some o→ObjOk P w H h a o
end
section
variable{P:Program}{w:World}{H H':Hp}{h h':Heap}{a:Addr}{o:HO}
theorem ObjOk.lt(x:ObjOk P w H h a o):a<h.objs.size:=by
 cases o with
 |lst xs=>obtain⟨_,_,_,_,e⟩:=x;exact du e
 |tup xs=>obtain⟨_,_,_,p⟩:=x;exact p.lt
 |dK kvs=>obtain⟨_,_,_,_,o,_,_,e,_⟩:=x;exact du e
 |dT kvs=>obtain⟨_,_,_,_,o,_,_,e,_⟩:=x;exact du e
 |set S n=>obtain⟨o,_,_,_,e,_⟩:=x;exact du e
 |ins C dx fs=>obtain⟨_,_,_,e,_⟩:=x;exact du e
 |own y=>obtain⟨_,e⟩:=x;exact du e
 |xd fs=>obtain⟨_,⟨_,_,_,e,_⟩,_⟩:=x;exact du e
 |rng lo hi=>obtain⟨_,_,_,e⟩:=x;exact du e
 |frz ob u=>obtain⟨e,_⟩:=x;exact du e
 |tbl ps=>exact du (show h.get? a=some _ from x)
 |met f y=>exact du (show h.get? a=some _ from x)
 |ext φ=>obtain⟨_,⟨_,e⟩,_⟩:=x;exact du e
theorem Paired.mapP{α β:Type}{F G:α→β→Prop}:∀{l₁:List α} {l₂:List β},Paired F l₁ l₂→(∀a b,F a b→G a b)→Paired G l₁ l₂
 |_,_,.nil,_=> .nil
 |_,_,.cons r t,f=> .cons (f _ _ r) (Paired.mapP t f)
theorem ObjOk.stay(x:ObjOk P w H h a o)(k:∀b u,(b=a∨H b=some (.own a))→h.get? b=some u→h'.get? b=some u)
  (ho:∀b,H b=some (.own a)→H' b=some (.own a)) (ht:∀b xs,H b=some (.tup xs)→H' b=some (.tup xs)):ObjOk P w H' h' a o:=by
 induction o with
 |lst xs=>obtain⟨z,its,n,r,e⟩:=x;exact⟨z,its,n,r,k _ _ (.inl rfl) e⟩
 |tup xs=>obtain⟨z,its,r,ob,e,c⟩:=x;exact⟨z,its,r,ob,k _ _ (.inl rfl) e,c⟩
 |dK kvs=>obtain⟨z,y,vs,r,ob,es,ep,e,c⟩:=x;exact⟨z,y,vs,r,ob,es,ep,k _ _ (.inl rfl) e,c⟩
 |dT kvs=>
  obtain⟨z,y,xs,r,ob,es,ep,e,c⟩:=x
  exact⟨z,y,xs,Paired.mapP r fun p q z=> ⟨z.1,ht _ _ z.2.1,z.2.2⟩,ob,es,ep,k _ _ (.inl rfl) e,c⟩
 |set S n=>obtain⟨ob,es,ep,t,e,c⟩:=x;exact⟨ob,es,ep,t,k _ _ (.inl rfl) e,c⟩
 |ins C dx fs=>
  obtain⟨d,z,ne,e,mA,⟨od,es,ep,e2,c⟩,r⟩:=x
  exact⟨ho _ d,z,ne,k _ _ (.inl rfl) e,mA,⟨od,es,ep,k _ _ (.inr d) e2,c⟩,r⟩
 |own y=>obtain⟨ob,e⟩:=x;exact⟨ob,k _ _ (.inl rfl) e⟩
 |xd fs=>obtain⟨mA,⟨od,es,ep,e,c⟩,r⟩:=x;exact⟨mA,⟨od,es,ep,k _ _ (.inl rfl) e,c⟩,r⟩
 |rng lo hi=>obtain⟨t,u,v,e⟩:=x;exact⟨t,u,v,k _ _ (.inl rfl) e⟩
 |frz ob u ih=>obtain⟨e,q⟩:=x;exact⟨k _ _ (.inl rfl) e,ih q⟩
 |tbl ps=>
  have e:h.get? a=some {cls:=.none,data:=.fields ps}:=x
  show h'.get? a=some {cls:=.none,data:=.fields ps}
  exact k a _ (.inl rfl) e
 |met f y=>
  have e:h.get? a=some (kH (.ref f) (.ref y)):=x
  show h'.get? a=some (kH (.ref f) (.ref y))
  exact k a _ (.inl rfl) e
 |ext φ=>obtain⟨p,⟨o,e⟩,st⟩:=x;exact⟨st _ _ p fun o q=>k _ _ (.inl rfl) q,⟨o,k _ _ (.inl rfl) e⟩,st⟩
theorem HOk.lt(x:HOk P w H h)(e:H a=some o):a<h.objs.size:=(x a o e).lt
theorem HOk.fresh(x:HOk P w H h)(e:h.objs.size≤a):H a=none:=by
 cases q:H a with
 |none=>rfl
 |some u=>exact absurd (dG (x.lt q) e) (e6 _)
theorem HOk.kept(x:HOk P w H h)(k:∀b u,h.get? b=some u→h'.get? b=some u):HOk P w H h':=fun a o e=>
 (x a o e).stay (fun b u _ q=>k b u q) (fun _ q=>q) fun _ _ q=>q
theorem HOk.laid(x:HOk P w H h)(k:∀b u,h.get? b=some u→h'.get? b=some u)(hp:h.objs.size≤a)(new:ObjOk P w (upd H a o) h' a o):HOk P w (upd H a o) h':=fun b u e=>by
 have hn:=x.fresh hp
 by_cases hb:b=a
 ·subst hb;rw[AX] at e;cases e;exact new
 ·rw[AR hb] at e
  exact(x b u e).stay (fun c v _ q=>k c v q) (fun c q=>by rw[AR (AN q hn)];exact q) fun c xs q=>by rw[AR (AN q hn)];exact q
end
def Rd(H:Hp)(a:Addr)(u:HO):Prop:=H a=some u∨∃o,H a=some (.frz o u)
theorem Rd.ok{P:Program}{w:World}{H:Hp}{h:Heap}{a:Addr}{u:HO}(r:Rd H a u)(x:HOk P w H h):ObjOk P w H h a u:=by
 rcases r with r| ⟨o,r⟩
 ·exact x a u r
 ·obtain⟨_,q⟩:=x a _ r
  exact q
def aR:Option HO→Prop
 |some (.lst _)=>True
 |some (.dK _)=>True
 |some (.dT _)=>True
 |some (.set _ _)=>True
 |some (.ins _ _ _)=>True
 |some (.ext _)=>True
 |_=>False
section
variable{P:Program}{w:World}{H:Hp}{h h':Heap}{x e:Addr}{o':HO}
theorem HOk.write(ok:HOk P w H h)(mu:aR (H x))(he:e=x∨H e=some (.own x))(k:∀b u,b≠e→h.get? b=some u→h'.get? b=some u)(heo:∃u,h'.get? e=some u)
  (new:ObjOk P w (upd H x o') h' x o'):HOk P w (upd H x o') h':=fun b u q=>by
 have nown:∀c y,H c=some (.own y)→c≠x:=fun c y r z=>by subst z;rw[r] at mu;exact mu
 have ntup:∀c xs,H c=some (.tup xs)→c≠x:=fun c xs r z=>by subst z;rw[r] at mu;exact mu
 by_cases hb:b=x
 ·subst hb;rw[AX] at q;cases q;exact new
 ·rw[AR hb] at q
  by_cases hbe:b=e
  ·have q':H b=some (.own x):=by
    rcases he with z|z
    ·exact absurd (hbe.trans z) hb
    ·rw[hbe];exact z
   rw[q] at q';cases q'
   obtain⟨v,hv⟩:=heo
   exact⟨v,by rw[hbe];exact hv⟩
  ·refine(ok b u q).stay (fun c v hc r=>k c v ?_ r) (fun c r=>by rw[AR (nown c b r)];exact r) fun c xs r=>by rw[AR (ntup c xs r)];exact r
   rcases hc with rfl|hc
   ·exact hbe
   ·rintro rfl
    rcases he with z|z
    ·exact nown c b hc z
    ·rw[hc] at z;cases z;exact hb rfl
end
structure Un(fs ex:List Addr)(H H':Hp)(h h':Heap):Prop where
 keep:∀b o,h.get? b=some o→H b=none→b∉fs→b∉ex→h'.get? b=some o
 slot:∀b o,h.get? b=some o→H b=none→b∈fs→b∉ex→∃sl,h'.get? b=some {o with slots:=sl}
 free:∀b o,h.get? b=some o→H b=none→b∉ex→H' b=none
 there:∀b o,h.get? b=some o→b∉ex→∃o',h'.get? b=some o'
 tups:∀b xs,H b=some (.tup xs)→H' b=some (.tup xs)
 frzs:∀b o u,H b=some (.frz o u)→H' b=some (.frz o u)
 tbls:∀b ps,H b=some (.tbl ps)→∃more,H' b=some (.tbl (ps++more))
section
variable{fs fs' ex ex':List Addr}{H H1 H2:Hp}{h h1 h2 h':Heap}{a x e:Addr}{o:HO}
theorem Un.any(u:Un fs ex H H1 h h1){b:Addr}{ob:Obj}(q:h.get? b=some ob)(n:H b=none)(hx:b∉ex):∃sl,h1.get? b=some {ob with slots:=sl}:=by
 by_cases hb:b∈fs
 ·exact u.slot b ob q n hb hx
 ·exact⟨ob.slots,u.keep b ob q n hb hx⟩
theorem Un.kept(k:∀b u,h.get? b=some u→h'.get? b=some u):Un fs ex H H h h':=
 ⟨fun b ob q _ _ _=>k b ob q,fun b ob q _ _ _=> ⟨ob.slots,k b ob q⟩,fun _ _ _ n _=>n,fun b ob q _=> ⟨ob,k b ob q⟩,fun _ _ q=>q,fun _ _ _ q=>q,fun _ ps q=> ⟨#[],by rw[q];simp⟩⟩
theorem Un.refl:Un fs ex H H h h:=Un.kept fun _ _ q=>q
theorem Un.laid(k:∀b u,h.get? b=some u→h'.get? b=some u)(hp:h.objs.size≤a)(hn:H a=none):Un fs ex H (upd H a o) h h' where
 keep:=fun b u q _ _ _=>k b u q
 slot:=fun b u q _ _ _=> ⟨u.slots,k b u q⟩
 free:=fun b u q n _=>by rw[AR (dN (dG (du q) hp))];exact n
 there:=fun b u q _=> ⟨u,k b u q⟩
 tups:=fun b xs q=>by rw[AR (AN q hn)];exact q
 frzs:=fun b u xs q=>by rw[AR (AN q hn)];exact q
 tbls:=fun b ps q=> ⟨#[],by rw[AR (AN q hn),q];simp⟩
theorem Un.write(mu:aR (H x))(he:e=x∨H e=some (.own x))(k:∀b u,b≠e→h.get? b=some u→h'.get? b=some u)(heo:∃u,h'.get? e=some u):Un fs ex H (upd H x o) h h':=by
 have hx:∀b,H b=none→b≠x:=fun b n z=>by subst z;rw[n] at mu;exact mu
 have hb:∀b,H b=none→b≠e:=fun b n z=>by
  subst z
  rcases he with r|r
  ·exact hx b n r
  ·rw[n] at r;cases r
 have hm:∀b u,H b=some u→¬aR (some u)→b≠x:=fun b u q nm z=>by subst z;rw[q] at mu;exact nm mu
 refine⟨fun b u q n _ _=>k b u (hb b n) q,fun b u q n _ _=> ⟨u.slots,k b u (hb b n) q⟩,fun b u q n _=>by rw[AR (hx b n)];exact n,fun b u q _=>?_,
  fun b xs q=>by rw[AR (hm b _ q fun z=>z)];exact q,fun b u xs q=>by rw[AR (hm b _ q fun z=>z)];exact q,fun b ps q=> ⟨#[],by rw[AR (hm b _ q fun z=>z),q];simp⟩⟩
 by_cases hbe:b=e
 ·subst hbe;exact heo
 ·exact⟨u,k b u hbe q⟩
end
def aS(h:Heap)(H:Hp):List Addr:=(dE h.objs.size).filter fun a=> (H a).isSome
def IG(h:Heap)(H:Hp):Heap:=jo h (aS h H)
theorem Np(h:Heap)(H:Hp):(IG h H).objs.size=h.objs.size:=PySem.W.hideAll_size _ _
theorem PC{h:Heap}{H:Hp}{b:Addr}{o:Obj}(e:h.get? b=some o)(n:H b=none):(IG h H).get? b=some o:=
 iQ _ e fun hm=>by
  have q:(H b).isSome=true:=(dR.mp hm).2
  rw[n] at q;simp at q
theorem SX{h:Heap}{H:Hp}{b:Addr}{o:Obj}(e:(IG h H).get? b=some o):h.get? b=some o∧H b=none:=by
 have e':h.get? b=some o:=jt (aS h H) e
 refine⟨e',?_⟩
 cases q:H b with
 |none=>rfl
 |some x=>
  have hm:b∈aS h H:=dR.mpr ⟨dU.mpr (du e'),by simp[q]⟩
  have z:(IG h H).get? b=none:=PySem.W.hideAll_none (aS h H) hm
  rw[z] at e;cases e
structure Mod(K:b5)(mg:Str→Option Value)(base:Heap):Prop where
 kin:K.In base
 glob:base.Ns fj mg
 blt:∃mb,base.Ns ml mb∧∀x:Str,x≠"__name__"→mb x=eC x
 nolimit:base.NoLimit
structure Cx where
 prog:Program
 w:World
 K:b5
 mg:Str→Option Value
 base:Heap
 A:dH
 N:List Str
 s₀:b6
 H₀:Hp
 env:Env
 outer:List Env
 stack:List Env
 ex:List Addr
 fn:Str→Bool
 calm:Bool
 pn:List (Addr×Obj)
 xe:Value→b6→Prop
def HE(l:List Env):List Addr:=l.filterMap (·.frame)
abbrev Cx.fs(X:Cx):List Addr:=HE X.outer
def YD(sc:Scope)(x:Str):Prop:=sc.names.lookup x=some .local∨sc.names.lookup x=some .cell∨sc.names.lookup x=some .free
def SO(sc:Scope)(x:Str):Prop:=sc.names.lookup x=some .local∨sc.names.lookup x=some .cell
def ae(env:Env)(h:Heap)(m:Str→Option Value)(x:Str)(u:Value):Prop:=
 (env.kindOf x=some .local∧m x=some u)∨((env.kindOf x=some .cell∨env.kindOf x=some .free)∧∃c,env.cells.lookup x=some c∧h.IsCell c (some u))
structure Cx.Ok(X:Cx):Prop where
 mod:Mod X.K X.mg X.base
 kind:X.env.scope.kind=.function
 glob:X.env.globals=fj
 blt:X.env.builtins=ml
 above:X.s₀.heap.objs.size≤X.env.locals
 inj:∀x y c,X.env.cells.lookup x=some c→X.env.cells.lookup y=some c→x=y
 has:∀x,(X.env.kindOf x=some .cell∨X.env.kindOf x=some .free)→∃c,X.env.cells.lookup x=some c
 cab:∀x c,X.fn x=true→X.env.cells.lookup x=some c→X.s₀.heap.objs.size≤c
 hd:X.calm=true→X.A.handled=none
 frames:X.A.frames=some X.stack
 stk:X.stack=X.outer∨(X.stack=X.env::X.outer∧X.env.frame=some X.env.locals)
 exf:∀b∈X.ex,b≠X.env.locals∧∀x c,X.env.cells.lookup x=some c→c≠b
 bs:∀b o,X.base.get? b=some o→X.s₀.heap.get? b=some o∧X.H₀ b=none
 bsz:X.base.objs.size≤X.s₀.heap.objs.size
 noex:∀b o,X.base.get? b=some o→b∉X.ex
 exfs:∀b∈X.ex,b∉X.fs
 funs:X.s₀.heap.FunFrames X.base X.outer
 frf:∀b∈X.fs,X.H₀ b=none
structure Inv(X:Cx)(pins:List (Addr×Obj))(σ:List (Option V))(H:Hp)(s:b6):Prop where
 ok:X.Ok
 os:s.os=X.s₀.os
 bare:kb s.gens
 base:Un X.fs X.ex X.H₀ H X.s₀.heap s.heap
 loc:∃m,s.heap.Ns X.env.locals m∧∀(i:Nat) (x:Str) (v:V),X.N[i]?=some x→σ[i]?=some (some v)→YD X.env.scope x→∃u,RelV v u∧ae X.env s.heap m x u
 cell:∀x c,X.env.cells.lookup x=some c→∃v,s.heap.IsCell c v
 free:H X.env.locals=none
 freeC:∀x c,X.env.cells.lookup x=some c→H c=none
 pin:∀p∈X.pn++pins,s.heap.get? p.1=some p.2∧H p.1=none∧p.1≠X.env.locals∧p.1∉X.fs∧∀v,p.2.data≠.cell v
 hok:HOk X.prog X.w H s.heap
 len:σ.length=X.N.length
section
variable{X:Cx}{pins:List (Addr×Obj)}{σ:List (Option V)}{H H':Hp}{s:b6}{h':Heap}
theorem Cx.Ok.nofr(ok:X.Ok){b:Addr}{o:Obj}(e:X.base.get? b=some o):b∉X.fs:=fun hb=>by
 have:=(ok.funs.mem hb).1
 rw[e] at this;cases this
theorem Inv.bs(I:Inv X pins σ H s):∀b o,X.base.get? b=some o→s.heap.get? b=some o∧H b=none:=fun b o e=>
 ⟨I.base.keep b o (I.ok.bs b o e).1 (I.ok.bs b o e).2 (I.ok.nofr e) (I.ok.noex b o e),I.base.free b o (I.ok.bs b o e).1 (I.ok.bs b o e).2 (I.ok.noex b o e)⟩
theorem Inv.bk(I:Inv X pins σ H s):∀b o,X.base.get? b=some o→s.heap.get? b=some o:=fun b o e=> (I.bs b o e).1
theorem Inv.mod(I:Inv X pins σ H s):Mod X.K X.mg X.base:=I.ok.mod
theorem Inv.kIn(I:Inv X pins σ H s):X.K.In s.heap:=I.ok.mod.kin.keeps I.bk
theorem Inv.lt(I:Inv X pins σ H s):X.env.locals<s.heap.objs.size:=let⟨_,hn,_⟩:=I.loc;hn.lt
theorem Inv.sz(I:Inv X pins σ H s):X.s₀.heap.objs.size≤s.heap.objs.size:=fI I.ok.above (jB I.lt)
theorem Inv.nofs(I:Inv X pins σ H s){a:Addr}(h:s.heap.objs.size≤a):a∉X.fs:=fun hb=>by
 obtain⟨_,o,ho,_⟩:=I.ok.funs.mem hb
 exact absurd (dG (du ho) (fI I.sz h)) (e6 _)
theorem Inv.cne(I:Inv X pins σ H s):∀x c,X.env.cells.lookup x=some c→c≠X.env.locals:=fun x c e z=>by
 obtain⟨v,o,ho,hd⟩:=I.cell x c e
 obtain⟨m,⟨o',es,ep,ho',hd',_⟩,_⟩:=I.loc
 rw[z,ho'] at ho;cases ho;rw[hd'] at hd;cases hd
theorem Inv.funs(I:Inv X pins σ H s):s.heap.FunFrames X.base X.outer:=by
 have all:∀(l:List Env),(∀b∈HE l,b∈X.fs)→X.s₀.heap.FunFrames X.base l→s.heap.FunFrames X.base l:=by
  intro l
  induction l with
  |nil=>intro _ _;trivial
  |cons env r ih=>
   intro hs hl
   obtain⟨hk,⟨L,o,hf,hn,ho,hd⟩,hr⟩:=hl
   have hL:L∈X.fs:=hs L (by unfold HE;rw[eT,hf];exact dP)
   obtain⟨sl,e⟩:=I.base.slot L o ho (I.ok.frf L hL) hL fun z=>I.ok.exfs L z hL
   exact⟨hk,⟨L,_,hf,hn,e,hd⟩,ih (fun b hb=>hs b (by unfold HE;rw[eT,hf];exact dw _ hb)) hr⟩
 exact all X.outer (fun _ hb=>hb) I.ok.funs
theorem Inv.stack(I:Inv X pins σ H s):s.heap.FunFrames X.base X.stack:=by
 rcases I.ok.stk with e| ⟨e,hf⟩
 ·rw[e];exact I.funs
 ·rw[e]
  obtain⟨m,hn,_⟩:=I.loc
  refine .cons (by rw[I.ok.kind];decide) hf hn ?_ I.funs
  exact Heap.get?_none_of_le (fI I.ok.bsz I.ok.above)
theorem Inv.stkSub(I:Inv X pins σ H s):∀b∈HE X.stack,b∈X.env.locals::X.fs:=fun b hb=>by
 rcases I.ok.stk with e| ⟨e,hf⟩
 ·rw[e] at hb;exact dw _ hb
 ·rw[e] at hb
  unfold HE at hb
  rw[eT,hf] at hb
  exact hb
theorem Inv.stkFree(I:Inv X pins σ H s):∀b∈HE X.stack,H b=none:=fun b hb=>by
 rcases dh.mp (I.stkSub b hb) with e|hb
 ·rw[e];exact I.free
 ·obtain⟨_,o,ho,_⟩:=I.ok.funs.mem hb
  exact I.base.free b o ho (I.ok.frf b hb) fun z=>I.ok.exfs b z hb
theorem Inv.step{g':Array GenState}{t':Nat}{d':Drawn}{ch:List Addr}(I:Inv X pins σ H s)
  (hch:∀b∈ch,(b∈X.ex∨X.s₀.heap.objs.size≤b)∧b≠X.env.locals∧(∀x c,X.env.cells.lookup x=some c→c≠b)∧∀p∈X.pn++pins,p.1≠b)
  (keep:∀b o,b≠X.env.locals→b∉X.fs→b∉ch→s.heap.get? b=some o→H b=none→h'.get? b=some o)
  (slot:∀b o,b≠X.env.locals→b∈X.fs→b∉ch→s.heap.get? b=some o→H b=none→∃sl,h'.get? b=some {o with slots:=sl}) (free:∀b o,b∉ch→s.heap.get? b=some o→H b=none→H' b=none)
  (there:∀b o,b∉ch→s.heap.get? b=some o→∃o',h'.get? b=some o')
  (tups:∀b xs,H b=some (.tup xs)→H' b=some (.tup xs)) (frzs:∀b o u,H b=some (.frz o u)→H' b=some (.frz o u)) (tbls:∀b ps,H b=some (.tbl ps)→∃more,H' b=some (.tbl (ps++more)))
  (ns:∀m,s.heap.Ns X.env.locals m→h'.Ns X.env.locals m) (hok:HOk X.prog X.w H' h') (hg:kb g'):
  Inv X pins σ H' {s with heap:=h',gens:=g',drawn:=d',toks:=t'}:=by
 have neL:∀b o,X.s₀.heap.get? b=some o→b≠X.env.locals:=fun b o e=>dN (dG (du e) I.ok.above)
 have neC:∀b o,X.s₀.heap.get? b=some o→b∉X.ex→b∉ch:=fun b o e hx hb=>by
  rcases(hch b hb).1 with z|z
  ·exact hx z
  ·exact absurd (dG (du e) z) (e6 _)
 have cellK:∀x c,X.env.cells.lookup x=some c→∀v,s.heap.IsCell c v→h'.IsCell c v:=fun x c e v ⟨o,ho,hd⟩=>by
  have nch:c∉ch:=fun z=> (hch c z).2.2.1 x c e rfl
  by_cases hc:c∈X.fs
  ·obtain⟨sl,q⟩:=slot c o (I.cne x c e) hc nch ho (I.freeC x c e)
   exact⟨_,q,hd⟩
  ·exact⟨o,keep c o (I.cne x c e) hc nch ho (I.freeC x c e),hd⟩
 refine⟨I.ok,I.os,hg,⟨fun b o e n hb hx=>?_,fun b o e n hb hx=>?_,fun b o e n hx=>?_,fun b o e hx=>?_,fun b xs e=>tups b xs (I.base.tups b xs e),fun b o xs e=>frzs b o xs (I.base.frzs b o xs e),fun b ps e=>?_⟩,?_,fun x c e=>?_,?_,fun x c e=>?_,fun p hp=>?_,hok,I.len⟩
 ·exact keep b o (neL b o e) hb (neC b o e hx) (I.base.keep b o e n hb hx) (I.base.free b o e n hx)
 ·obtain⟨sl,e1⟩:=I.base.slot b o e n hb hx
  obtain⟨sl',e2⟩:=slot b _ (neL b o e) hb (neC b o e hx) e1 (I.base.free b o e n hx)
  exact⟨sl',e2⟩
 ·obtain⟨o',e1⟩:=I.base.there b o e hx
  exact free b o' (neC b o e hx) e1 (I.base.free b o e n hx)
 ·obtain⟨o',e1⟩:=I.base.there b o e hx
  exact there b o' (neC b o e hx) e1
 ·obtain⟨m1,e1⟩:=I.base.tbls b ps e
  obtain⟨m2,e2⟩:=tbls b _ e1
  exact⟨m1++m2,by rw[e2,Array.append_assoc]⟩
 ·obtain⟨m,hn,hl⟩:=I.loc
  refine⟨m,ns m hn,fun i x v e1 e2 e3=>?_⟩
  obtain⟨u,r,l⟩:=hl i x v e1 e2 e3
  refine⟨u,r,?_⟩
  rcases l with l| ⟨k,c,e,z⟩
  ·exact .inl l
  ·exact .inr ⟨k,c,e,cellK x c e _ z⟩
 ·obtain⟨v,z⟩:=I.cell x c e
  exact⟨v,cellK x c e v z⟩
 ·obtain⟨m,⟨o,_,_,ho,_⟩,_⟩:=I.loc
  exact free _ o (fun z=> (hch _ z).2.1 rfl) ho I.free
 ·obtain⟨v,o,ho,hd⟩:=I.cell x c e
  exact free c o (fun z=> (hch c z).2.2.1 x c e rfl) ho (I.freeC x c e)
 ·obtain⟨e,n,ne,nf,d⟩:=I.pin p hp
  have nch:p.1∉ch:=fun z=> (hch p.1 z).2.2.2 p hp rfl
  exact⟨keep p.1 p.2 ne nf nch e n,free p.1 p.2 nch e n,ne,nf,d⟩
theorem Inv.un{t':Nat}(I:Inv X pins σ H s)(u:Un X.fs [] H H' s.heap h')(hok:HOk X.prog X.w H' h'):Inv X pins σ H' {s with heap:=h',toks:=t'}:=by
 obtain⟨m,⟨o,es,ep,ho,r⟩,_⟩:=id I.loc
 obtain⟨sl,hL⟩:=u.any ho I.free (by simp)
 exact I.step (g':=s.gens) (d':=s.drawn) (ch:=[]) (fun _ z=>nomatch z) (fun b o _ hb _ e n=>u.keep b o e n hb (by simp)) (fun b o _ hb _ e n=>u.slot b o e n hb (by simp)) (fun b o _ e n=>u.free b o e n (by simp)) (fun b o _ e=>u.there b o e (by simp)) u.tups u.frzs u.tbls (fun m' hm=>by
  obtain⟨o',es',ep',ho',r'⟩:=hm
  rw[ho] at ho';cases ho'
  exact⟨_,es',ep',hL,r'⟩) hok I.bare
theorem Inv.call{g':Array GenState}{t':Nat}{d':Drawn}{ch:List Addr}(I:Inv X pins σ H s)(u:Un (HE X.stack) ch H H' s.heap h')(hok:HOk X.prog X.w H' h')(hg:kb g')
  (hch:∀b∈ch,(b∈X.ex∨X.s₀.heap.objs.size≤b)∧b≠X.env.locals∧(∀x c,X.env.cells.lookup x=some c→c≠b)∧∀p∈X.pn++pins,p.1≠b):
  Inv X pins σ H' {s with heap:=h',gens:=g',drawn:=d',toks:=t'}:=by
 obtain⟨m,⟨o,es,ep,ho,r⟩,_⟩:=id I.loc
 obtain⟨sl,hL⟩:=u.any ho I.free fun z=> (hch _ z).2.1 rfl
 exact I.step (ch:=ch) hch (fun b o hL hb hc e n=>u.keep b o e n (fun z=> (dh.mp (I.stkSub b z)).elim hL hb) hc) (fun b o _ _ hc e n=>u.any e n hc) (fun b o hc e n=>u.free b o e n hc) (fun b o hc e=>u.there b o e hc) u.tups u.frzs u.tbls (fun m' hm=>by
  obtain⟨o',es',ep',ho',r'⟩:=hm
  rw[ho] at ho';cases ho'
  exact⟨_,es',ep',hL,r'⟩) hok hg
theorem Inv.turned{t':Nat}{it:Addr}(I:Inv X pins σ H s)(k:∀b o,b≠it→s.heap.get? b=some o→h'.get? b=some o)(hn:H it=none)(hL:it≠X.env.locals)
  (h1:it∈X.ex∨X.s₀.heap.objs.size≤it) (h2:∀x c,X.env.cells.lookup x=some c→c≠it) (h3:∀p∈X.pn++pins,p.1≠it):Inv X pins σ H {s with heap:=h',toks:=t'}:=by
 have nit:∀b u,H b=some u→b≠it:=fun b u e z=>by rw[z,hn] at e;cases e
 refine I.step (g':=s.gens) (d':=s.drawn) (ch:=[it]) (fun b hb=>?_) (fun b o _ _ hc e _=>k b o (fun z=>hc (by simp[z])) e) (fun b o _ _ hc e _=> ⟨o.slots,k b o (fun z=>hc (by simp[z])) e⟩) (fun _ _ _ _ n=>n)
  (fun b o hc e=> ⟨o,k b o (fun z=>hc (by simp[z])) e⟩) (fun _ _ e=>e) (fun _ _ _ e=>e) (fun b ps e=> ⟨#[],by rw[e];simp⟩) (fun m hm=>?_) (fun b u e=>?_) I.bare
 ·have e:b=it:=by simpa using hb
  subst e
  exact⟨h1,hL,h2,h3⟩
 ·obtain⟨o,es,ep,ho,r⟩:=hm
  exact⟨o,es,ep,k _ o (Ne.symm hL) ho,r⟩
 ·refine(I.hok b u e).stay (fun c v hc q=>k c v ?_ q) (fun _ q=>q) fun _ _ q=>q
  rcases hc with z|z
  ·rw[z];exact nit b u e
  ·exact nit c _ z
theorem Inv.tok(I:Inv X pins σ H s)(t:Nat):Inv X pins σ H {s with toks:=t}:=I.un (h':=s.heap) (t':=t) Un.refl I.hok
theorem Inv.kept{t':Nat}(I:Inv X pins σ H s)(k:∀b u,s.heap.get? b=some u→h'.get? b=some u):Inv X pins σ H {s with heap:=h',toks:=t'}:=I.un (Un.kept k) (I.hok.kept k)
theorem Inv.laid{a:Addr}{o:HO}{t':Nat}(I:Inv X pins σ H s)(k:∀b u,s.heap.get? b=some u→h'.get? b=some u)(hp:s.heap.objs.size≤a)(new:ObjOk X.prog X.w (upd H a o) h' a o):
  Inv X pins σ (upd H a o) {s with heap:=h',toks:=t'}:=I.un (Un.laid k hp (I.hok.fresh hp)) (I.hok.laid k hp new)
theorem Inv.write{x e:Addr}{o:HO}{t':Nat}(I:Inv X pins σ H s)(mu:aR (H x))(he:e=x∨H e=some (.own x))(k:∀b u,b≠e→s.heap.get? b=some u→h'.get? b=some u)(heo:∃u,h'.get? e=some u)
  (new:ObjOk X.prog X.w (upd H x o) h' x o):Inv X pins σ (upd H x o) {s with heap:=h',toks:=t'}:=I.un (Un.write mu he k heo) (I.hok.write mu he k heo new)
theorem Inv.weak{σ':List (Option V)}(I:Inv X pins σ H s)(hl:σ'.length=σ.length)(w:∀(i:Nat) v,σ'[i]?=some (some v)→σ[i]?=some (some v)):Inv X pins σ' H s:=
 ⟨I.ok,I.os,I.bare,I.base,let⟨m,hn,hl'⟩:=I.loc;⟨m,hn,fun i x v e1 e2 e3=>hl' i x v e1 (w i v e2) e3⟩,I.cell,I.free,I.freeC,I.pin,I.hok,hl.trans I.len⟩
theorem Inv.pins_of{pins':List (Addr×Obj)}(I:Inv X pins σ H s)(h:∀p∈pins',s.heap.get? p.1=some p.2∧H p.1=none∧p.1≠X.env.locals∧p.1∉X.fs∧∀v,p.2.data≠.cell v):Inv X pins' σ H s:=
 ⟨I.ok,I.os,I.bare,I.base,I.loc,I.cell,I.free,I.freeC,fun p hp=> (dJ.mp hp).elim (fun z=>I.pin p (gu _ z)) (h p),I.hok,I.len⟩
theorem Je{N:List Str}(hN:N.Nodup){i j:Nat}{x:Str}(a:N[i]?=some x)(b:N[j]?=some x):i=j:=by
 obtain⟨h1,e1⟩:=dt.mp a
 obtain⟨h2,e2⟩:=dt.mp b
 exact(List.getElem_inj hN).mp (e1.trans e2.symm)
theorem HP{M:Model}{A:dH}{E:Value→b6→Prop}{i:Nat}{x:Str}{v:V}{u:Value}{Q:Unit→b6→Prop}(I:Inv X pins σ H s)(hN:X.N.Nodup)(hi:X.N[i]?=some x)(hx:SO X.env.scope x)(r:RelV v u)
  (h:∀s',Inv X pins (σ.set i (some v)) H s'→(∃a,i5 a s.heap s'.heap∧(a=X.env.locals∨X.env.cells.lookup x=some a))→Q () s') (hf:X.fn x=true∨X.env.scope.names.lookup x=some .local:=by first|exact .inl rfl|exact .inr rfl|assumption):wpAny M A (storeName X.env x u) Q E s:=by
 obtain⟨m,hn,hl⟩:=id I.loc
 have hcls:(X.env.scope.kind==.class|| (X.env.scope.kind==.module&&X.env.locals !=X.env.globals))=false:=by rw[I.ok.kind];rfl
 have hiσ:i<σ.length:=by rw[I.len];exact(dt.mp hi).1
 have cne:=I.cne
 have tracked:∀{a:Addr} {h':Heap},(∃o,s.heap.get? a=some o∧H a=none)→i5 a s.heap h'→HOk X.prog X.w H h':=fun{a h'} ha hs b ob e=>by
  obtain⟨_,_,hfree⟩:=ha
  refine(I.hok b ob e).stay (fun c w' hc q=> (hs.2 c ?_).trans q) (fun _ q=>q) fun _ _ q=>q
  rintro rfl
  rcases hc with rfl|hc
  ·rw[hfree] at e;cases e
  ·rw[hfree] at hc;cases hc
 rcases hx with hk|hk
 ·refine wpAny_storeName_local hk hn (fun h' hn' hs=>?_) hcls
  obtain⟨oL,_,_,hoL,_⟩:=id hn
  refine h _ ⟨I.ok,I.os,I.bare,⟨fun b o e n hb hx=>?_,fun b o e n hb hx=>?_,I.base.free,fun b o e hx=>?_,I.base.tups,I.base.frzs,I.base.tbls⟩,⟨_,hn',fun j y v' e1 e2 e3=>?_⟩,fun y c e=>?_,I.free,I.freeC,fun p hp=>?_,tracked ⟨oL,hoL,I.free⟩ hs,by simpa using I.len⟩ ⟨_,hs,.inl rfl⟩
  ·exact(hs.2 b (dN (dG (du e) I.ok.above))).trans (I.base.keep b o e n hb hx)
  ·obtain⟨sl,e1⟩:=I.base.slot b o e n hb hx
   exact⟨sl,(hs.2 b (dN (dG (du e) I.ok.above))).trans e1⟩
  ·obtain⟨o',e1⟩:=I.base.there b o e hx
   exact⟨o',(hs.2 b (dN (dG (du e) I.ok.above))).trans e1⟩
  ·by_cases hj:j=i
   ·subst hj
    rw[hi] at e1;cases e1
    rw[eD hiσ] at e2
    cases e2
    exact⟨u,r,.inl ⟨hk,by simp⟩⟩
   ·rw[dX (Ne.symm hj)] at e2
    obtain⟨u',r',q⟩:=hl j y v' e1 e2 e3
    refine⟨u',r',?_⟩
    rcases q with⟨k,e⟩| ⟨k,c,e,z⟩
    ·refine .inl ⟨k,?_⟩
     have:y≠x:=fun e=>hj (Je hN e1 (e▸hi))
     simp[this,e]
    ·exact .inr ⟨k,c,e,z.sameBut hs (cne y c e)⟩
  ·obtain⟨w',z⟩:=I.cell y c e
   exact⟨w',z.sameBut hs (cne y c e)⟩
  ·obtain⟨e,n,ne,nf,d⟩:=I.pin p hp
   exact⟨(hs.2 p.1 ne).trans e,n,ne,nf,d⟩
 ·have hfn:X.fn x=true:=by
   rcases hf with z|z
   ·exact z
   ·rw[z] at hk;cases hk
  obtain⟨c,hc⟩:=I.ok.has x (.inl hk)
  obtain⟨w',z⟩:=I.cell x c hc
  refine wpAny_storeName_cell I.ok.kind hk hc z (fun h' hc' hs=>?_)
  obtain⟨oc,hoc,hocd⟩:=id z
  refine h {s with heap:=h'} ⟨I.ok,I.os,I.bare,⟨fun b o e n hb hx=>?_,fun b o e n hb hx=>?_,I.base.free,fun b o e hx=>?_,I.base.tups,I.base.frzs,I.base.tbls⟩,⟨m,hn.sameBut hs (Ne.symm (cne x c hc)),fun j y v' e1 e2 e3=>?_⟩,fun y c' e=>?_,I.free,I.freeC,fun p hp=>?_,tracked ⟨oc,hoc,I.freeC x c hc⟩ hs,by simpa using I.len⟩ ⟨c,hs,.inr hc⟩
  ·exact(hs.2 b (dN (dG (du e) (I.ok.cab x c hfn hc)))).trans (I.base.keep b o e n hb hx)
  ·obtain⟨sl,e1⟩:=I.base.slot b o e n hb hx
   exact⟨sl,(hs.2 b (dN (dG (du e) (I.ok.cab x c hfn hc)))).trans e1⟩
  ·obtain⟨o',e1⟩:=I.base.there b o e hx
   exact⟨o',(hs.2 b (dN (dG (du e) (I.ok.cab x c hfn hc)))).trans e1⟩
  ·by_cases hj:j=i
   ·subst hj
    rw[hi] at e1;cases e1
    rw[eD hiσ] at e2
    cases e2
    exact⟨u,r,.inr ⟨.inl hk,c,hc,hc'⟩⟩
   ·rw[dX (Ne.symm hj)] at e2
    obtain⟨u',r',q⟩:=hl j y v' e1 e2 e3
    refine⟨u',r',?_⟩
    rcases q with q| ⟨k,c',e,z'⟩
    ·exact .inl q
    ·refine .inr ⟨k,c',e,z'.sameBut hs ?_⟩
     rintro rfl
     exact hj (Je hN e1 (I.ok.inj _ _ _ e hc▸hi))
  ·by_cases hcc:c'=c
   ·subst hcc;exact⟨_,hc'⟩
   ·obtain⟨w2,z2⟩:=I.cell y c' e
    exact⟨w2,z2.sameBut hs hcc⟩
  ·obtain⟨e,n,ne,nf,d⟩:=I.pin p hp
   refine⟨(hs.2 p.1 ?_).trans e,n,ne,nf,d⟩
   intro q
   rw[q,hoc] at e
   have q':oc=p.2:=dW.inj e
   exact d w' (by rw[←q'];exact hocd)
theorem Fo{M:Model}{A:dH}{E:Value→b6→Prop}{i:Nat}{x:Str}{v:V}{u:Value}{Q:Unit→b6→Prop}(I:Inv X pins σ H s)(hN:X.N.Nodup)(hi:X.N[i]?=some x)(hx:SO X.env.scope x)(r:RelV v u)
  (h:∀s',Inv X pins (σ.set i (some v)) H s'→Q () s') (hf:X.fn x=true∨X.env.scope.names.lookup x=some .local:=by first|exact .inl rfl|exact .inr rfl|assumption):wpAny M A (storeName X.env x u) Q E s:=
 HP I hN hi hx r (fun s' I' _=>h s' I') hf
theorem Inv.call'{s':b6}{ch:List Addr}(I:Inv X pins σ H s)(ho:s'.os=s.os)(u:Un (HE X.stack) ch H H' s.heap s'.heap)(hok:HOk X.prog X.w H' s'.heap)(hg:kb s'.gens)
  (hch:∀b∈ch,(b∈X.ex∨X.s₀.heap.objs.size≤b)∧b≠X.env.locals∧(∀x c,X.env.cells.lookup x=some c→c≠b)∧∀p∈X.pn++pins,p.1≠b):Inv X pins σ H' s':=by
 obtain⟨h',g',d',t',o'⟩:=s'
 have e:o'=s.os:=ho
 subst e
 exact I.call (g':=g') (t':=t') (d':=d') u hok hg hch
end
abbrev XK:=Value→Option Addr→Hp→Prop
abbrev St:=List (Option V)
abbrev VK:=V→Hp→Prop
abbrev TE:=St→Hp→VK→Prop
abbrev TT:=St→Hp→(Bool→Hp→Prop)→Prop
abbrev TA:=St→Hp→(List V→Hp→Prop)→Prop
structure Ends where
 nx:St→Hp→Prop
 rt:VK
 bk:St→Hp→Prop:=fun _ _=>False
 ct:St→Hp→Prop:=fun _ _=>False
abbrev TS:=Ends→St→Hp→Prop
def EP(X:Cx)(pins:List (Addr×Obj))(σ:St)(Q:VK)(u:Value)(s':b6):Prop:=∃v H',Inv X pins σ H' s'∧RelV v u∧Q v H'
def TP(X:Cx)(pins:List (Addr×Obj))(σ:St)(Q:Bool→Hp→Prop)(b:Bool)(s':b6):Prop:=∃H',Inv X pins σ H' s'∧Q b H'
def AP(X:Cx)(pins:List (Addr×Obj))(σ:St)(Q:List V→Hp→Prop)(us:List Value)(s':b6):Prop:=∃vs H',Inv X pins σ H' s'∧Vals vs us∧Q vs H'
def SP(X:Cx)(pins:List (Addr×Obj))(D:Ends)(f:Flow)(s':b6):Prop:=
 match f with
 | .next=>∃σ' H',Inv X pins σ' H' s'∧D.nx σ' H'
 | .brk=>∃σ' H',Inv X pins σ' H' s'∧D.bk σ' H'
 | .cont=>∃σ' H',Inv X pins σ' H' s'∧D.ct σ' H'
 | .ret u=>∃v σ' H',Inv X pins σ' H' s'∧RelV v u∧D.rt v H'
def PE(X:Cx)(e:Expr)(t:TE):Prop:=
 ∀(pins:List (Addr×Obj)) (s:b6) (σ:St) (H:Hp) (Q:VK),Inv X pins σ H s→t σ H Q→wpAny (model X.prog X.w) X.A (eval e X.env) (EP X pins σ Q) X.xe s
def PT(X:Cx)(e:Expr)(t:TT):Prop:=
 ∀(pins:List (Addr×Obj)) (s:b6) (σ:St) (H:Hp) (Q:Bool→Hp→Prop),Inv X pins σ H s→t σ H Q→wpAny (model X.prog X.w) X.A (isTrue e X.env (eval e X.env)) (TP X pins σ Q) X.xe s
def PW(X:Cx)(e:Expr)(t:TT):Prop:=
 ∀(whole:Sem Value) (pins:List (Addr×Obj)) (s:b6) (σ:St) (H:Hp) (Q:Bool→Hp→Prop),Inv X pins σ H s→t σ H Q→wpAny (model X.prog X.w) X.A (isTrue e X.env whole) (TP X pins σ Q) X.xe s
theorem PW.pt{X:Cx}{e:Expr}{t:TT}(h:PW X e t):PT X e t:=h _
def PA(X:Cx)(es:List Expr)(t:TA):Prop:=
 ∀(pos:Pos) (pins:List (Addr×Obj)) (s:b6) (σ:St) (H:Hp) (Q:List V→Hp→Prop),Inv X pins σ H s→t σ H Q→wpAny (model X.prog X.w) X.A (spliced (gU pos (df es X.env))) (AP X pins σ Q) X.xe s
def PS(X:Cx)(st:Stmt)(t:TS):Prop:=
 ∀(pins:List (Addr×Obj)) (s:b6) (σ:St) (H:Hp) (D:Ends),Inv X pins σ H s→t D σ H→wpAny (model X.prog X.w) X.A (exec st X.env) (SP X pins D) X.xe s
def PSs(X:Cx)(st:List Stmt)(t:TS):Prop:=
 ∀(pins:List (Addr×Obj)) (s:b6) (σ:St) (H:Hp) (D:Ends),Inv X pins σ H s→t D σ H→wpAny (model X.prog X.w) X.A (execs st X.env) (SP X pins D) X.xe s
theorem Ay{α:Type}{t:Sem α}{Q Q':α→b6→Prop}{M:Model}{A:dH}{E:Value→b6→Prop}{s:b6}(h:wpAny M A t Q E s)(hQ:∀a s,Q a s→Q' a s):wpAny M A t Q' E s:=iK h hQ fun _ _ x=>x
section
variable{X:Cx}
def YG(i:Nat):TE:=fun σ H Q=>∃v,σ[i]?=some (some v)∧Q v H
def tC(v:V):TE:=fun _ H Q=>Q v H
theorem PD{i:Nat}{x:Str}{pos:Pos}(hN:X.N[i]?=some x)(hv:YD X.env.scope x)(hd:(x==("__debug__" :Str))=false:=by decide)(hcd:(x==("__classdict__" :Str))=false:=by decide):PE X (.Name x pos) (YG i):=by
 intro pins s σ H Q I h
 obtain⟨v,e,h⟩:=h
 obtain⟨m,hn,hl⟩:=I.loc
 obtain⟨u,r,l⟩:=hl i x v hN e hv
 have fin:EP X pins σ Q u s:=⟨v,H,I,r,h⟩
 rcases l with⟨hk,hm⟩| ⟨hk,c,hc,hcell⟩
 ·exact wpAny_Name (wpAny_loadName_local I.ok.kind hk hn hm fin) hd
 ·rcases hk with hk|hk
  ·exact wpAny_Name (wpAny_loadName_cell I.ok.kind hk hc hcell fin) hd
  ·exact wpAny_Name (wpAny_loadName_free I.ok.kind hk hc hcell fin hcd) hd
theorem PF{i j pos}:PE X (.Constant (.int i) j pos) (tC (.int i)):=fun _ _ _ H _ I h=>wpAny_Constant_int ⟨.int i,H,I.tok _,⟨_,rfl⟩,h⟩
theorem YH{b j pos}:PE X (.Constant (.bool b) j pos) (tC (.bl b)):=fun _ _ _ H _ I h=>Constant_bool ⟨.bl b,H,I,rfl,h⟩
theorem Vf{j pos}:PE X (.Constant .none j pos) (tC .non):=fun _ _ _ H _ I h=>Constant_none ⟨.non,H,I,rfl,h⟩
def Gl(X:Cx)(x:Str):Prop:=X.env.kindOf x=some .globalImplicit
theorem IH{E:Value→b6→Prop}{pins:List (Addr×Obj)}{s:b6}{σ:St}{H:Hp}{x:Str}{u:Value}{pos:Pos}{Q:Value→b6→Prop}(I:Inv X pins σ H s)(hg:Gl X x)(hm:X.mg x=some u)(h:Q u s)
  (hd:(x==("__debug__" :Str))=false:=by decide):wpAny (model X.prog X.w) X.A (eval (.Name x pos) X.env) Q E s:=
 Calls.Name_function_global I.ok.kind hg (Calls.loadGlobal_global (by rw[I.ok.glob];exact I.mod.glob.keeps I.bk) hm h) hd
theorem Cw{E:Value→b6→Prop}{pins:List (Addr×Obj)}{s:b6}{σ:St}{H:Hp}{x:Str}{u:Value}{pos:Pos}{Q:Value→b6→Prop}(I:Inv X pins σ H s)(hg:Gl X x)(hm:X.mg x=none)(hv:eC x=some u)(h:Q u s)
  (hn:x≠"__name__":=by decide) (hd:(x==("__debug__" :Str))=false:=by decide):wpAny (model X.prog X.w) X.A (eval (.Name x pos) X.env) Q E s:=by
 obtain⟨mb,h1,h2⟩:=I.mod.blt
 exact Calls.Name_function_global I.ok.kind hg (Calls.loadGlobal_builtin (by rw[I.ok.glob];exact I.mod.glob.keeps I.bk) hm (by rw[I.ok.blt];exact h1.keeps I.bk) ((h2 x hn).trans hv) h) hd
theorem SY{x:Str}{v:V}{u:Value}{pos:Pos}(hg:Gl X x)(hm:X.mg x=some u)(r:RelV v u)(hd:(x==("__debug__" :Str))=false:=by decide):PE X (.Name x pos) (tC v):=
 fun _ _ _ H _ I h=>IH I hg hm ⟨v,H,I,r,h⟩ hd
theorem SZ{x:Str}{v:V}{u:Value}{pos:Pos}(hg:Gl X x)(hm:X.mg x=none)(hv:eC x=some u)(r:RelV v u)(hn:x≠"__name__":=by decide)(hd:(x==("__debug__" :Str))=false:=by decide):PE X (.Name x pos) (tC v):=
 fun _ _ _ H _ I h=>Cw I hg hm hv ⟨v,H,I,r,h⟩ hn hd
variable{a b:Expr}{ta tb:TE}{pos:Pos}
variable{tA tB':TT}{rest:List Expr}
def af(t u:TT):TT:=fun σ H Q=>t σ H fun c H1=>if c=true then u σ H1 Q else Q false H1
def cI(t u:TT):TT:=fun σ H Q=>t σ H fun c H1=>if c=true then Q true H1 else u σ H1 Q
def ah(t:TT):TT:=fun σ H Q=>t σ H fun c H1=>Q (!c) H1
theorem Sa(ha:PT X a tA):PW X (.BoolOp .And [a] pos) tA:=by
 intro wh pins s σ H Q I h
 refine isTrue_and (Ay (ha pins s σ H Q I h) fun c s1 e=>?_)
 cases c with
 |true=>exact isTrue_and_nil e
 |false=>exact e
theorem Vg(ha:PT X a tA):PW X (.BoolOp .Or [a] pos) tA:=by
 intro wh pins s σ H Q I h
 refine isTrue_or (Ay (ha pins s σ H Q I h) fun c s1 e=>?_)
 cases c with
 |false=>exact isTrue_or_nil e
 |true=>exact e
theorem Vh(ha:PT X a tA)(hb:PW X (.BoolOp .And (b::rest) pos) tB'):PW X (.BoolOp .And (a::b::rest) pos) (af tA tB'):=by
 intro wh pins s σ H Q I h
 refine isTrue_and (Ay (ha pins s σ H _ I h) fun c s1 ⟨H1,I1,q1⟩=>?_)
 cases c with
 |true=>exact hb wh pins s1 σ H1 Q I1 q1
 |false=>exact⟨H1,I1,q1⟩
theorem YI(ha:PT X a tA)(hb:PW X (.BoolOp .Or (b::rest) pos) tB'):PW X (.BoolOp .Or (a::b::rest) pos) (cI tA tB'):=by
 intro wh pins s σ H Q I h
 refine isTrue_or (Ay (ha pins s σ H _ I h) fun c s1 ⟨H1,I1,q1⟩=>?_)
 cases c with
 |true=>exact⟨H1,I1,q1⟩
 |false=>exact hb wh pins s1 σ H1 Q I1 q1
theorem Vi(ha:PT X a tA):PT X (.UnaryOp .Not a pos) (ah tA):=by
 intro pins s σ H Q I h
 exact isTrue_not (ha pins s σ H (fun c H1=>Q (!c) H1) I h)
def YJ(ta tb:TE):TE:=fun σ H Q=>ta σ H fun x H1=>∃c,x=.bl c∧if c=true then tb σ H1 Q else Q (.bl false) H1
theorem Vj{op}{t:TE}(h:PE X a t):PE X (.BoolOp op [a] pos) t:=fun pins s σ H Q I hw=>BoolOp_one (h pins s σ H Q I hw)
theorem Vk(ha:PE X a ta)(hb:PE X (.BoolOp .And (b::rest) pos) tb):PE X (.BoolOp .And (a::b::rest) pos) (YJ ta tb):=by
 intro pins s σ H Q I h
 refine BoolOp_and (Ay (ha pins s σ H _ I h) fun v s1 ⟨x,H1,I1,r1,q1⟩=>?_)
 obtain⟨c,rfl,q1⟩:=q1
 cases r1
 refine gS ?_
 cases c with
 |true=>exact hb pins s1 σ H1 Q I1 q1
 |false=>exact⟨.bl false,H1,I1,rfl,q1⟩
def cJ(t:TT)(ta tb:TE):TE:=fun σ H Q=>t σ H fun c H1=>if c=true then ta σ H1 Q else tb σ H1 Q
theorem PH{c:Expr}(hc:PT X c tA)(ha:PE X a ta)(hb:PE X b tb):PE X (.IfExp c a b pos) (cJ tA ta tb):=by
 intro pins s σ H Q I h
 refine wpAny_IfExp (Ay (hc pins s σ H _ I h) fun d s1 ⟨H1,I1,q1⟩=>?_)
 cases d with
 |true=>exact ha pins s1 σ H1 Q I1 q1
 |false=>exact hb pins s1 σ H1 Q I1 q1
end
def Cr(K:b5)(H:Hp)(a:Addr)(xs:List V):Prop:=
 Rd H a (.lst xs)∨
  ∃(o:Obj) (its:Array Value) (n:Nat),K.lookup a=some o∧o.cls=.type "list"∧o.dict=none∧o.data=.seq its n∧its.size≤sizeLine∧Vals xs its.toList
def II(K:b5)(H:Hp)(a:Addr)(xs:List V):Prop:=
 Rd H a (.tup xs)∨
  ∃(o:Obj) (its:Array Value) (n:Nat),K.lookup a=some o∧o.cls=.type "tuple"∧o.data=.seq its n∧its.size≤sizeLine∧Vals xs its.toList
def ai:Value→Option V
 | .none=>some .non
 | .bool b=>some (.bl b)
 | .int i _=>some (.int i)
 | .str x _=>some (.str x)
 | .bytes b _=>some (.byt b)
 | .float b _=>some (.flt b)
 | .ref a=>some (.ref a)
 | .type n=>some (.ty n)
 |_=>none
theorem RelV.abs{x:V}{u:Value}(r:RelV x u):ai u=some x:=by
 cases x with
 |non=>cases r;rfl
 |bl _=>cases r;rfl
 |int _=>obtain⟨t,rfl⟩:=r;rfl
 |str _=>obtain⟨t,rfl⟩:=r;rfl
 |byt _=>obtain⟨t,rfl⟩:=r;rfl
 |flt _=>obtain⟨t,rfl⟩:=r;rfl
 |ref _=>cases r;rfl
 |ty _=>cases r;rfl
theorem RelV.inj{x y:V}{u:Value}(r:RelV x u)(q:RelV y u):x=y:=dW.inj (r.abs.symm.trans q.abs)
theorem Vals.inj:∀{xs ys:List V} {us:List Value},Vals xs us→Vals ys us→xs=ys
 |_,_,_,.nil,.nil=>rfl
 |_,_,_,.cons r t,.cons r' t'=>by rw[r.inj r',Vals.inj t t']
section
variable{X:Cx}{pins:List (Addr×Obj)}{σ:St}{H:Hp}{s:b6}{a:Addr}{xs ys:List V}
theorem Inv.list(I:Inv X pins σ H s)(h:Cr X.K H a xs):∃its:List Value,Vals xs its∧PlainL s.heap a its.toArray∧xs.length≤sizeLine:=by
 rcases h with h| ⟨o,its,n,hk,hc,hd,hs,hz,r⟩
 ·obtain⟨z,its,n,r,e⟩:=h.ok I.hok
  exact⟨its,r,⟨_,n,e,rfl,rfl,rfl⟩,z⟩
 ·refine⟨its.toList,r,⟨o,n,I.kIn a o hk,hc,hd,by simpa using hs⟩,?_⟩
  have e:=r.length
  simp only[dr] at e
  omega
theorem Inv.tuple(I:Inv X pins σ H s)(h:II X.K H a xs):∃its:List Value,Vals xs its∧IsTup s.heap a its.toArray∧xs.length≤sizeLine:=by
 rcases h with h| ⟨o,its,n,hk,hc,hs,hz,r⟩
 ·obtain⟨z,its,r,p⟩:=h.ok I.hok
  exact⟨its,r,p,z⟩
 ·refine⟨its.toList,r,⟨o,I.kIn a o hk,hc,n,by simpa using hs⟩,?_⟩
  have e:=r.length
  simp only[dr] at e
  omega
theorem Inv.list_inj(I:Inv X pins σ H s)(h:Cr X.K H a xs)(h':Cr X.K H a ys):xs=ys:=by
 obtain⟨its,r,⟨o,n,e,_,_,d⟩,_⟩:=I.list h
 obtain⟨its',r',⟨o',n',e',_,_,d'⟩,_⟩:=I.list h'
 rw[e] at e';cases e'
 rw[d] at d'
 injection d' with d1 _
 have:its=its':=by simpa using congrArg Array.toList d1
 subst this
 exact r.inj r'
theorem Inv.tuple_inj(I:Inv X pins σ H s)(h:II X.K H a xs)(h':II X.K H a ys):xs=ys:=by
 obtain⟨its,r,⟨o,e,_,n,d⟩,_⟩:=I.tuple h
 obtain⟨its',r',⟨o',e',_,n',d'⟩,_⟩:=I.tuple h'
 rw[e] at e';cases e'
 rw[d] at d'
 injection d' with d1 _
 have:its=its':=by simpa using congrArg Array.toList d1
 subst this
 exact r.inj r'
end
section
variable{X:Cx}{pins:List (Addr×Obj)}{σ:St}{H:Hp}{s:b6}{E:Value→b6→Prop}
end
section
variable{X:Cx}{st:Stmt}{rest:List Stmt}{t u:TS}{e:Expr}{te:TE}{pos:Pos}
def YK:TS:=fun D σ H=>D.nx σ H
def aj(t u:TS):TS:=fun D σ H=>t {D with nx:=u D} σ H
theorem Mj:PSs X [] YK:=fun _ _ σ H _ I h=>jU ⟨σ,H,I,h⟩
theorem Jf(h1:PS X st t)(h2:PSs X rest u):PSs X (st::rest) (aj t u):=by
 intro pins s σ H D I h
 refine wpAny_execs_cons (Ay (h1 pins s σ H {D with nx:=u D} I h) fun f s1 q=>?_)
 cases f with
 |next=>
  obtain⟨σ',H',I',q⟩:=q
  exact h2 pins s1 σ' H' D I' q
 |ret v=>exact q
 |brk=>exact q
 |cont=>exact q
theorem IJ(h1:PS X st t):PSs X [st] t:=by
 intro pins s σ H D I h
 refine wpAny_execs_cons (Ay (h1 pins s σ H D I h) fun f s1 q=>?_)
 cases f with
 |next=>exact jU q
 |ret v=>exact q
 |brk=>exact q
 |cont=>exact q
theorem Inv.quiet{pins:List (Addr×Obj)}{σ:St}{H:Hp}{s:b6}(I:Inv X pins σ H s):interactive X.env=false:=by simp[interactive,I.ok.kind]
def YL(te:TE):TS:=fun D σ H=>te σ H fun _ H1=>D.nx σ H1
theorem Sb(he:PE X e te)(hs:kc e none pos.line X.env=pure false:=by rfl):PS X (.Expr e pos) (YL te):=by
 intro pins s σ H D I h
 exact wpAny_Expr_any (Ay (he pins s σ H _ I h) fun v s1 ⟨x,H1,I1,r1,q1⟩=> ⟨σ,H1,I1,q1⟩) I.quiet hs
def ak(te:TE):TS:=fun D σ H=>te σ H D.rt
theorem Kw(he:PE X e te):PS X (.Return (some e) pos) (ak te):=by
 intro pins s σ H D I h
 exact wpAny_Return_some (Ay (he pins s σ H _ I h) fun v s1 ⟨x,H1,I1,r1,q1⟩=> ⟨x,σ,H1,I1,r1,q1⟩)
def ao(c:TT)(t u:TS):TS:=fun D σ H=>c σ H fun b H1=>if b=true then t D σ H1 else u D σ H1
theorem Us{c:Expr}{a b:List Stmt}{tc:TT}(hc:PT X c tc)(ha:PSs X a t)(hb:PSs X b u):PS X (.If c a b pos) (ao tc t u):=by
 intro pins s σ H D I h
 refine wpAny_If (Ay (hc pins s σ H _ I h) fun d s1 ⟨H1,I1,q1⟩=>?_)
 cases d with
 |true=>exact ha pins s1 σ H1 D I1 q1
 |false=>exact hb pins s1 σ H1 D I1 q1
end
abbrev TG:=V→St→Hp→(St→Hp→Prop)→Prop
abbrev Vl:=List V→St→Hp→(St→Hp→Prop)→Prop
def PG(X:Cx)(target:Expr)(t:TG):Prop:=
 ∀(pins:List (Addr×Obj)) (s:b6) (σ:St) (H:Hp) (v:V) (u:Value) (Q:St→Hp→Prop),Inv X pins σ H s→RelV v u→t v σ H Q→
  wpAny (model X.prog X.w) X.A (assign target X.env u) (fun _ s'=>∃σ' H',Inv X pins σ' H' s'∧Q σ' H') X.xe s
def aT(X:Cx)(ts:List Expr)(t:Vl):Prop:=
 ∀(pins:List (Addr×Obj)) (s:b6) (σ:St) (H:Hp) (vs:List V) (us:List Value) (Q:St→Hp→Prop),Inv X pins σ H s→Vals vs us→t vs σ H Q→
  wpAny (model X.prog X.w) X.A (assignInOrder ((gW ts X.env).map (·.2)) us) (fun _ s'=>∃σ' H',Inv X pins σ' H' s'∧Q σ' H') X.xe s
abbrev Vm:=V→V→V→Hp→(Hp→Prop)→Prop
def YM(X:Cx)(t:Vm):Prop:=
 ∀(pins:List (Addr×Obj)) (s:b6) (σ:St) (H:Hp) (o i v:V) (ov iv u:Value) (Q:Hp→Prop),Inv X pins σ H s→RelV o ov→RelV i iv→RelV v u→t o i v H Q→
  wpAny (model X.prog X.w) X.A (setItem ov iv u) (fun _ s'=>∃H',Inv X pins σ H' s'∧Q H') X.xe s
abbrev YN:=V→V→Hp→VK→Prop
def aU(X:Cx)(op:lR)(t:YN):Prop:=
 ∀(pins:List (Addr×Obj)) (s:b6) (σ:St) (H:Hp) (x y:V) (v u:Value) (Q:VK),Inv X pins σ H s→RelV x v→RelV y u→t x y H Q→
  wpAny (model X.prog X.w) X.A (inplaceOp op v u) (EP X pins σ Q) X.xe s
section
variable{X:Cx}{pos:Pos}
def Ut(i:Nat):TG:=fun v σ H Q=>Q (σ.set i (some v)) H
theorem IL{i:Nat}{x:Str}(hN:X.N.Nodup)(hi:X.N[i]?=some x)(hx:SO X.env.scope x)(hf:X.fn x=true∨X.env.scope.names.lookup x=some .local:=by first|exact .inl rfl|exact .inr rfl|assumption):PG X (.Name x pos) (Ut i):=by
 intro pins s σ H v u Q I r h
 exact wpAny_assign_Name (Fo I hN hi hx r (fun s' I'=> ⟨_,H,I',h⟩) hf)
def aq:Vl:=fun vs σ H Q=>vs=[]∧Q σ H
def YO(t:TG)(u:Vl):Vl:=fun vs σ H Q=>∃v r,vs=v::r∧t v σ H fun σ' H'=>u r σ' H' Q
theorem Sd:aT X [] aq:=by
 intro pins s σ H vs us Q I r h
 obtain⟨e,h⟩:=h
 subst e
 cases r
 exact assignInOrder_nil ⟨σ,H,I,h⟩
theorem Jg{e:Expr}{es:List Expr}{t:TG}{u:Vl}(h1:PG X e t)(h2:aT X es u)
  (hs:(gW (e::es) X.env).map (·.2)=assign e X.env::(gW es X.env).map (·.2):=by rfl):aT X (e::es) (YO t u):=by
 intro pins s σ H vs us Q I r h
 obtain⟨v,vr,e1,h⟩:=h
 subst e1
 cases r with
 |cons r rr=>
  rw[hs]
  refine assignInOrder_cons (Ay (h1 pins s σ H _ _ _ I r h) fun _ s1 ⟨σ1,H1,I1,q1⟩=>?_)
  exact h2 pins s1 σ1 H1 _ _ Q I1 rr q1
def ar(K:b5)(n:Nat)(t:Vl):TG:=fun v σ H Q=>∃a xs,v=.ref a∧II K H a xs∧xs.length=n∧t xs σ H Q
theorem Vn{es:List Expr}{k:Nat}{t:Vl}{n:Nat}(hc:X.calm=true)(h:aT X es t)
  (hn:(gW es X.env).length=n:=by rfl) (hst:(gW es X.env).findIdx? (·.1)=none:=by rfl):PG X (.Tuple es k pos) (ar X.K n t):=by
 intro pins s σ H v u Q I r hw
 obtain⟨a,xs,e1,hq,hl,hw⟩:=hw
 subst e1
 cases r
 obtain⟨its,rv,ht,hz⟩:=I.tuple hq
 refine assign_Tuple_tuple (I.ok.hd hc) ht (by simp[hn,←hl,rv.length]) hst fun h' hx=>?_
 have I1:Inv X pins σ H {s with heap:=h'}:=I.kept (t':=s.toks) fun b o e=>hx b o (dN (du e)) e
 exact h pins _ σ H xs _ Q I1 (by simpa using rv) hw
def au(to ti:TE)(t:Vm):TG:=fun v σ H Q=>to σ H fun o H1=>ti σ H1 fun i H2=>t o i v H2 fun H3=>Q σ H3
theorem Vo{o i:Expr}{to ti:TE}{t:Vm}(ho:PE X o to)(hi:PE X i ti)(hs:YM X t)
  (ha:∀v,assign (.Subscript o i pos) X.env v=(do
   let ov←holding [v] (eval o X.env)
   let iv←holding [v,ov] (eval i X.env)
   standAt pos
   holding [v,ov,iv] (setItem ov iv v)
   release [v,ov,iv] []):=by intro _;rfl):PG X (.Subscript o i pos) (au to ti t):=by
 intro pins s σ H v u Q I r h
 rw[ha]
 refine b4 (ef (Ay (ho pins s σ H _ I h) fun ov s1 ⟨x,H1,I1,r1,q1⟩=>?_))
 refine b4 (ef (Ay (hi pins s1 σ H1 _ I1 q1) fun iv s2 ⟨y,H2,I2,r2,q2⟩=>?_))
 refine b4 (jk (b4 (ef (Ay (hs pins s2 σ H2 x y v ov iv u _ I2 r1 r2 r q2) fun _ s3 ⟨H3,I3,q3⟩=>?_))))
 exact wpAny_release ⟨σ,H3,I3,q3⟩
def YQ(te:TE)(g:TG):TS:=fun D σ H=>te σ H fun x H1=>g x σ H1 D.nx
theorem Vp{tg e:Expr}{te:TE}{g:TG}(he:PE X e te)(hg:PG X tg g)(hs:swapsWithSole [tg] e pos.line X.env=pure false:=by rfl)(hw:swappedStores [tg] e X.env=pure none:=by rfl)
  (h1:(gW [tg] X.env).map (·.2)=[assign tg X.env]:=by rfl):PS X (.Assign [tg] e pos) (YQ te g):=by
 intro pins s σ H D I h
 refine wpAny_Assign_stores (Ay (he pins s σ H _ I h) fun v s1 ⟨x,H1,I1,r1,q1⟩=>?_) hs hw
 rw[h1]
 exact Ay (hg pins s1 σ H1 x v _ I1 r1 q1) fun _ s2 q=>q
theorem Vq{i:Nat}{x:Str}{e:Expr}{te:TE}{pos':Pos}(hN:X.N.Nodup)(hi:X.N[i]?=some x)(hx:SO X.env.scope x)(he:PE X e te)(hs:kc e (some (.Name x pos')) pos.line X.env=pure false:=by rfl)(hf:X.fn x=true∨X.env.scope.names.lookup x=some .local:=by first|exact .inl rfl|exact .inr rfl|assumption):
  PS X (.Assign [.Name x pos'] e pos) (YQ te (Ut i)):=by
 intro pins s σ H D I h
 refine wpAny_Assign_Name (Ay (he pins s σ H _ I h) fun v s1 ⟨y,H1,I1,r1,q1⟩=>?_) hs
 exact Fo I1 hN hi hx r1 (fun s2 I2=> ⟨_,H1,I2,q1⟩) hf
def av(i:Nat)(te:TE)(ti:YN):TS:=fun D σ H=>∃x,σ[i]?=some (some x)∧te σ H fun y H1=>ti x y H1 fun z H2=>D.nx (σ.set i (some z)) H2
theorem Vr{i:Nat}{x:Str}{e:Expr}{te:TE}{op:lR}{ti:YN}{pos':Pos}(hN:X.N.Nodup)(hi:X.N[i]?=some x)(hx:SO X.env.scope x)(he:PE X e te)(ho:aU X op ti)(hf:X.fn x=true∨X.env.scope.names.lookup x=some .local:=by first|exact .inl rfl|exact .inr rfl|assumption):
  PS X (.AugAssign (.Name x pos') op e pos) (av i te ti):=by
 intro pins s σ H D I h
 obtain⟨v,e1,h⟩:=h
 obtain⟨m,hn,hl⟩:=I.loc
 have vis:YD X.env.scope x:=by rcases hx with k|k;exact .inl k;exact .inr (.inl k)
 obtain⟨u,r,l⟩:=hl i x v hi e1 vis
 refine wpAny_AugAssign_Name ?_
 have go:wpAny (model X.prog X.w) X.A (eval e X.env) (fun w s₂=>wpAny (model X.prog X.w) X.A (inplaceOp op u w) (fun r s₃=>wpAny (model X.prog X.w) X.A (storeName X.env x r) (fun _=>SP X pins D .next) X.xe s₃) X.xe s₂) X.xe s:=by
  refine Ay (he pins s σ H _ I h) fun w s1 ⟨y,H1,I1,r1,q1⟩=>?_
  refine Ay (ho pins s1 σ H1 v y u w _ I1 r r1 q1) fun z s2 ⟨zv,H2,I2,r2,q2⟩=>?_
  exact Fo I2 hN hi hx r2 (fun s3 I3=> ⟨_,H2,I3,q2⟩) hf
 rcases l with⟨hk,hm⟩| ⟨hk,c,hc,hcell⟩
 ·exact wpAny_loadName_local I.ok.kind hk hn hm go
 ·rcases hk with hk|hk
  ·exact wpAny_loadName_cell I.ok.kind hk hc hcell go
  ·rcases hx with k|k
   ·have:X.env.scope.names.lookup x=some .free:=hk
    rw[k] at this;cases this
   ·have:X.env.scope.names.lookup x=some .free:=hk
    rw[k] at this;cases this
def cK(f:Int→Int→Int):YN:=fun x y H Q=>∃i j,x=.int i∧y=.int j∧Q (.int (f i j)) H
theorem Kx:aU X .Add (cK fun i j=>i+j):=by
 intro pins s σ H x y v u Q I r1 r2 h
 obtain⟨i,j,e1,e2,q⟩:=h
 subst e1;subst e2
 obtain⟨t,rfl⟩:=r1
 obtain⟨t',rfl⟩:=r2
 exact iadd_int ⟨.int _,H,I.tok _,⟨_,rfl⟩,q⟩
end
section
variable{X:Cx}{pos:Pos}
def Vs(c:TT)(tb:TS):TS:=fun D σ H=>∃W:Nat→St→Hp→Prop,(∃m,W m σ H)∧∀m σ H,W m σ H→
 c σ H fun b H1=>if b=true then∃N:St→Hp→Prop,(∀σ' H',N σ' H'→∃m',m'<m∧W m' σ' H')∧tb {D with nx:=N,ct:=N,bk:=D.nx} σ H1 else D.nx σ H1
theorem PJ{c:Expr}{body:List Stmt}{tc:TT}{tb:TS}(hp:kg (model X.prog X.w) X.A X.env X.xe)(hc:PT X c tc)(hb:PSs X body tb):PS X (.While c body [] pos) (Vs tc tb):=by
 intro pins s σ H D I h
 obtain⟨W,⟨m0,w0⟩,turn⟩:=h
 refine wpAny_While (codeAny_whileLoop (fun n s'=>∃σ' H',Inv X pins σ' H' s'∧W n σ' H') ?_ m0 ⟨σ,H,I,w0⟩)
 rintro n s1 ⟨σ1,H1,I1,w1⟩
 refine iB hp (Ay (hc pins s1 σ1 H1 _ I1 (turn n σ1 H1 w1)) fun b s2 ⟨H2,I2,q2⟩=>?_)
 cases b with
 |true=>
  obtain⟨N,hN,q2⟩:=q2
  rw[if_pos rfl]
  refine iB hp (Ay (hb pins s2 σ1 H2 _ I2 q2) fun f s3 q3=>?_)
  cases f with
  |next=>
   obtain⟨σ3,H3,I3,n3⟩:=q3
   obtain⟨m',hm,w3⟩:=hN σ3 H3 n3
   exact⟨m',hm,σ3,H3,I3,w3⟩
  |cont=>
   obtain⟨σ3,H3,I3,n3⟩:=q3
   obtain⟨m',hm,w3⟩:=hN σ3 H3 n3
   exact⟨m',hm,σ3,H3,I3,w3⟩
  |brk=>exact q3
  |ret v=>exact q3
 |false=>
  rw[if_neg dc]
  exact jU ⟨σ1,H2,I2,q2⟩
end
structure It where
 go:Nat→Hp→Prop
 yld:Nat→Hp→V→Hp→Prop
 stop:Nat→Hp→Prop
def Fp(X:Cx)(pins:List (Addr×Obj))(H:Hp)(b:Addr):Prop:=
 H b=none∧b≠X.env.locals∧b∉X.fs∧(b∈X.ex∨X.s₀.heap.objs.size≤b)∧(∀x c,X.env.cells.lookup x=some c→c≠b)∧∀p∈X.pn++pins,p.1≠b
theorem Inv.fpOk{X:Cx}{pins:List (Addr×Obj)}{σ:St}{H H':Hp}{s:b6}{b:Addr}(I:Inv X pins σ H s)(hb:s.heap.objs.size≤b)(hn:H' b=none):Fp X pins H' b:=by
 refine⟨hn,j7 (dG I.lt hb),I.nofs hb,.inr (fI I.sz hb),fun x c e z=>?_,fun p hp z=>?_⟩
 ·obtain⟨v,q⟩:=I.cell x c e
  exact absurd (dG q.lt (by rw[z];exact hb)) (e6 _)
 ·exact absurd (dG (du (I.pin p hp).1) (by rw[z];exact hb)) (e6 _)
structure Turn(P:Program)(w:World)(K:b5)(tg:Expr)(J:It)(fp:List Addr)(it:Addr)(tn:Nat→Heap→Prop):Prop where
 mem:it∈fp
 obj:∀i h,tn i h→∀b∈fp,∃o,h.get? b=some o∧∀v,o.data≠.cell v
 keep:∀i h h',tn i h→(∀b∈fp,∀o,h.get? b=some o→h'.get? b=some o)→tn i h'
 item:∀(X:Cx),X.prog=P→X.w=w→X.K=K→X.calm=true→∀(i:Nat) (pins:List (Addr×Obj)) (s:b6) (σ:St) (H:Hp) (E:Value→b6→Prop),Inv X pins σ H s→(∀b∈fp,Fp X pins H b)→tn i s.heap→J.go i H→
  wpAny (model P w) X.A (jz (.ref it)) (fun r s1=>∃u,r=some u∧
   wpAny (model P w) X.A (jV tg (.ref it) u) (fun _ s2=>∃x H',Inv X pins σ H' s2∧RelV x u∧J.yld i H x H'∧tn (i+1) s2.heap∧∀b∈fp,H' b=none) E s1) E s
 done:∀(X:Cx),X.prog=P→X.w=w→X.K=K→X.calm=true→∀(i:Nat) (pins:List (Addr×Obj)) (s:b6) (σ:St) (H:Hp) (E:Value→b6→Prop),Inv X pins σ H s→(∀b∈fp,Fp X pins H b)→tn i s.heap→J.stop i H→
  wpAny (model P w) X.A (jz (.ref it)) (fun r s1=>r=none∧Inv X pins σ H s1) E s
 self:∀(A:dH) (i:Nat) (s:b6) (Q:Value→b6→Prop) (E:Value→b6→Prop),tn i s.heap→Q (.ref it) s→wpAny (model P w) A (lJ (.ref it)) Q E s
abbrev TI:=St→Hp→(It→Hp→Prop)→Prop
def bo(X:Cx)(pins:List (Addr×Obj))(σ:St)(tg:Expr)(R:It→Hp→Prop)(itv:Value)(s2:b6):Prop:=
 ∃(it:Addr) (fp:List Addr) (tn:Nat→Heap→Prop) (J:It) (H':Hp),itv=.ref it∧Inv X pins σ H' s2∧Turn X.prog X.w X.K tg J fp it tn∧tn 0 s2.heap∧(∀b∈fp,Fp X pins H' b)∧R J H'
def PI(X:Cx)(tg iter:Expr)(wi:TI):Prop:=
 ∀(pins:List (Addr×Obj)) (s:b6) (σ:St) (H:Hp) (R:It→Hp→Prop),Inv X pins σ H s→wi σ H R→
  wpAny (model X.prog X.w) X.A (eval iter X.env) (fun v s1=>wpAny (model X.prog X.w) X.A (lJ v) (bo X pins σ tg R) X.xe s1) X.xe s
theorem PK{M:Model}{A:dH}{E:Value→b6→Prop}{s:b6}{tg:Expr}{it:Addr}{u:Value}{o:Obj}{n:String}{vs:Array Value}{Q:Unit→b6→Prop}(ho:s.heap.get? it=some o)(hc:o.cls=.type n)(hd:o.data=.fields vs)
    (hn:["enumerate","zip","dict_itemiterator","dict_reverseitemiterator","odict_iterator","itertools.zip_longest","itertools.pairwise"].contains n=false) (hQ:Q () s):wpAny M A (jV tg (.ref it) u) Q E s:=by
  unfold jV
  cases tg<;>first
    |exact b7 hQ
    | (cases u<;>first
        |exact b7 hQ
        | (refine b4 (wpAny_load ho ?_)
           rw[hc,hd]
           show wpAny M A (if(["enumerate","zip","dict_itemiterator","dict_reverseitemiterator","odict_iterator","itertools.zip_longest","itertools.pairwise"].contains n&&vs[0]?==some (k6 _))=true then _ else _) Q E s
           rw[if_neg (by intro h;rw[hn,Bool.false_and] at h;cases h)]
           exact b7 hQ))
def aw(K:b5)(a:Addr):It:=
 ⟨fun i H=>∃xs x,Cr K H a xs∧xs[i]?=some x,fun i H x H'=>H'=H∧∀xs,Cr K H a xs→xs[i]?=some x,fun i H=>∃xs,Cr K H a xs∧xs.length≤i⟩
def ax(K:b5)(a:Addr):It:=
 ⟨fun i H=>∃xs x,II K H a xs∧xs[i]?=some x,fun i H x H'=>H'=H∧∀xs,II K H a xs→xs[i]?=some x,fun i H=>∃xs,II K H a xs∧xs.length≤i⟩
def YR(lo:Int)(n:Nat):It:=⟨fun i _=>i<n,fun i H x H'=>H'=H∧x=.int (lo+i),fun i _=>n≤i⟩
theorem Nq{P:Program}{w:World}{K:b5}{tg:Expr}(a it:Addr):Turn P w K tg (aw K a) [it] it (fun i h=>h.IsListIter it a i) where
 mem:=by simp
 obj:=fun i h st b hb=>by
  have e:b=it:=by simpa using hb
  subst e
  obtain⟨o,e,c,d⟩:=st
  exact⟨o,e,fun v z=>by rw[d] at z;cases z⟩
 keep:=fun i h h' st k=>st.at fun o e=>k it (by simp) o e
 item:=by
  intro X hP hw hK hc i pins s σ H E I hf st hg
  subst hP hw hK
  obtain⟨xs,x,hq,hx⟩:=hg
  obtain⟨its,rv,p,hz⟩:=I.list hq
  obtain⟨u,hu,ru⟩:=rv.get hx
  obtain⟨f0,f1,f2,f3,f4,f5⟩:=hf it (by simp)
  refine wpAny_pyNext_list_item st p.isList (x:=u) (by simpa using hu) fun h' st' sb=>?_
  have I1:Inv X pins σ H {s with heap:=h'}:=I.turned (t':=s.toks) (fun b o hb e=> (sb.2 b hb).trans e) f0 f1 f3 f4 f5
  obtain⟨o,e,c,d⟩:=id st'
  exact⟨u,rfl,PK (s:={s with heap:=h'}) e c d (by decide) ⟨x,H,I1,ru,⟨rfl,fun ys hy=>by rw[I.list_inj hy hq];exact hx⟩,st',fun b hb=> (hf b hb).1⟩⟩
 done:=by
  intro X hP hw hK hc i pins s σ H E I hf st hg
  subst hP hw hK
  obtain⟨xs,hq,hx⟩:=hg
  obtain⟨its,rv,p,hz⟩:=I.list hq
  obtain⟨f0,f1,f2,f3,f4,f5⟩:=hf it (by simp)
  have hl:=rv.length
  exact wpAny_pyNext_list_end (I.ok.hd hc) st p.isList (by simp;omega) fun h' eb=> ⟨rfl,I.turned (t':=s.toks) (fun b o hb e=>eb b o hb e) f0 f1 f3 f4 f5⟩
 self:=fun _ _ _ _ _ st h=>wpAny_pyIter_listiter st h
theorem Ky{P:Program}{w:World}{K:b5}{tg:Expr}(a it:Addr):Turn P w K tg (ax K a) [it] it (fun i h=>h.IsTupleIter it a i) where
 mem:=by simp
 obj:=fun i h st b hb=>by
  have e:b=it:=by simpa using hb
  subst e
  obtain⟨o,e,c,d⟩:=st
  exact⟨o,e,fun v z=>by rw[d] at z;cases z⟩
 keep:=fun i h h' st k=>st.at fun o e=>k it (by simp) o e
 item:=by
  intro X hP hw hK hc i pins s σ H E I hf st hg
  subst hP hw hK
  obtain⟨xs,x,hq,hx⟩:=hg
  obtain⟨its,rv,p,hz⟩:=I.tuple hq
  obtain⟨u,hu,ru⟩:=rv.get hx
  obtain⟨f0,f1,f2,f3,f4,f5⟩:=hf it (by simp)
  refine wpAny_pyNext_tuple_item st (show s.heap.IsTuple a its.toArray from p) (x:=u) (by simpa using hu) fun h' st' sb=>?_
  have I1:Inv X pins σ H {s with heap:=h'}:=I.turned (t':=s.toks) (fun b o hb e=> (sb.2 b hb).trans e) f0 f1 f3 f4 f5
  obtain⟨o,e,c,d⟩:=id st'
  exact⟨u,rfl,PK (s:={s with heap:=h'}) e c d (by decide) ⟨x,H,I1,ru,⟨rfl,fun ys hy=>by rw[I.tuple_inj hy hq];exact hx⟩,st',fun b hb=> (hf b hb).1⟩⟩
 done:=by
  intro X hP hw hK hc i pins s σ H E I hf st hg
  subst hP hw hK
  obtain⟨xs,hq,hx⟩:=hg
  obtain⟨its,rv,p,hz⟩:=I.tuple hq
  obtain⟨f0,f1,f2,f3,f4,f5⟩:=hf it (by simp)
  have hl:=rv.length
  exact wpAny_pyNext_tuple_end (I.ok.hd hc) st (show s.heap.IsTuple a its.toArray from p) (by simp;omega) fun h' eb=> ⟨rfl,I.turned (t':=s.toks) (fun b o hb e=>eb b o hb e) f0 f1 f3 f4 f5⟩
 self:=fun _ _ _ _ _ st h=>wpAny_pyIter_tupleiter st h
theorem Kz{P:Program}{w:World}{K:b5}{tg:Expr}(it:Addr)(lo:Int)(n:Nat):Turn P w K tg (YR lo n) [it] it (fun i h=>IsRangeIter h it (lo+(i:Nat)*1) ((n:Int)- (i:Nat)) 1) where
 mem:=by simp
 obj:=fun i h st b hb=>by
  have e:b=it:=by simpa using hb
  subst e
  exact⟨_,st,fun v z=>by
   have z':Data.fields _=Data.cell v:=z
   cases z'⟩
 keep:=fun i h h' st k=>k it (by simp) _ st
 item:=by
  intro X hP hw hK hc i pins s σ H E I hf st hg
  subst hP hw hK
  obtain⟨f0,f1,f2,f3,f4,f5⟩:=hf it (by simp)
  have W:=Walks.range (prog:=X.prog) (w:=X.w) (I.ok.hd hc) it lo 1 n
  refine W.item i s _ _ hg st fun v h' tk hv st' kk=>?_
  obtain⟨t,rfl⟩:=hv
  have I1:Inv X pins σ H {s with heap:=h',toks:=tk}:=I.turned (fun b o hb e=>kk b o (by simpa using hb) e) f0 f1 f3 f4 f5
  refine⟨_,rfl,PK (s:={s with heap:=h',toks:=tk}) (n:="range_iterator") st' rfl rfl (by decide) ⟨.int (lo+i),H,I1,⟨t,?_⟩,⟨rfl,rfl⟩,st',fun b hb=> (hf b hb).1⟩⟩
  rw[lT]
 done:=by
  intro X hP hw hK hc i pins s σ H E I hf st hg
  subst hP hw hK
  obtain⟨f0,f1,f2,f3,f4,f5⟩:=hf it (by simp)
  exact wpAny_pyNext_range_end (I.ok.hd hc) st (by have:n≤i:=hg;omega) fun h' eb=> ⟨rfl,I.turned (t':=s.toks) (fun b o hb e=>eb b o hb e) f0 f1 f3 f4 f5⟩
 self:=fun _ _ _ _ _ st h=>wpAny_pyIter_rangeiter st h
section
variable{X:Cx}{tg:Expr}
def YS(K:b5)(tl:TE):TI:=fun σ H R=>tl σ H fun x H1=>∃a,x=.ref a∧(∃xs,Cr K H1 a xs)∧R (aw K a) H1
def ay(K:b5)(tl:TE):TI:=fun σ H R=>tl σ H fun x H1=>∃a,x=.ref a∧(∃xs,II K H1 a xs)∧R (ax K a) H1
theorem Se{l:Expr}{tl:TE}(hl:PE X l tl):PI X tg l (YS X.K tl):=by
 intro pins s σ H R I h
 refine Ay (hl pins s σ H _ I h) fun v s1 ⟨x,H1,I1,r1,q1⟩=>?_
 obtain⟨a,e,⟨xs,hq⟩,q⟩:=q1
 subst e
 cases r1
 obtain⟨its,rv,p,hz⟩:=I1.list hq
 refine kB p.isList ?_
 refine⟨s1.heap.objs.size,[s1.heap.objs.size],_,_,H1,rfl,I1.kept (t':=s1.toks) fun b o e=>da _ e,Nq a _,⟨_,dF _ rfl,rfl,rfl⟩,fun b hb=>?_,q⟩
 have e:b=s1.heap.objs.size:=by simpa using hb
 subst e
 exact I1.fpOk (dm _) (I1.hok.fresh (dm _))
theorem Vt{l:Expr}{tl:TE}(hl:PE X l tl):PI X tg l (ay X.K tl):=by
 intro pins s σ H R I h
 refine Ay (hl pins s σ H _ I h) fun v s1 ⟨x,H1,I1,r1,q1⟩=>?_
 obtain⟨a,e,⟨xs,hq⟩,q⟩:=q1
 subst e
 cases r1
 obtain⟨its,rv,p,hz⟩:=I1.tuple hq
 refine wpAny_pyIter_tuple (show s1.heap.IsTuple a its.toArray from p) ?_
 refine⟨s1.heap.objs.size,[s1.heap.objs.size],_,_,H1,rfl,I1.kept (t':=s1.toks) fun b o e=>da _ e,Ky a _,⟨_,dF _ rfl,rfl,rfl⟩,fun b hb=>?_,q⟩
 have e:b=s1.heap.objs.size:=by simpa using hb
 subst e
 exact I1.fpOk (dm _) (I1.hok.fresh (dm _))
theorem Jh{pins:List (Addr×Obj)}{σ:St}{H:Hp}{s:b6}{R:It→Hp→Prop}{E:Value→b6→Prop}{lo hi:Int}{t u v:Tok}{tk:Nat}(I:Inv X pins σ H s)(h1: -(2^62)≤lo)(h2:lo<2^62)(h3: -(2^62)≤hi)(h4:hi<2^62)
  (q:R (YR lo (hi-lo).toNat) H):wpAny (model X.prog X.w) X.A (lJ (.ref s.heap.objs.size)) (bo X pins σ tg R) E {s with heap:=s.heap.push {cls:=.type "range",data:=.fields #[.int lo t,.int hi u,.int 1 v]},toks:=tk}:=by
 refine wpAny_pyIter_range (IsRange.new ..) (small_one h1 h2 h3 h4) ?_
 have I1:Inv X pins σ H {s with heap:=s.heap.push {cls:=.type "range",data:=.fields #[.int lo t,.int hi u,.int 1 v]},toks:=tk}:=I.kept fun b o e=>da _ e
 refine⟨(s.heap.push {cls:=.type "range",data:=.fields #[.int lo t,.int hi u,.int 1 v]}).objs.size,[(s.heap.push {cls:=.type "range",data:=.fields #[.int lo t,.int hi u,.int 1 v]}).objs.size],_,_,H,rfl,
  I1.kept (t':=tk) fun b o e=>da _ e,Kz _ lo (hi-lo).toNat,?_,fun b hb=>?_,q⟩
 ·have e1:lo+((0:Nat):Int)*1=lo:=by simp
  have e2:(((hi-lo).toNat:Nat):Int)- ((0:Nat):Int)=Builtin.Range.rangeSize lo hi 1:=by rw[rangeSize_one];split<;>omega
  show IsRangeIter _ _ (lo+((0:Nat):Int)*1) ((((hi-lo).toNat:Nat):Int)- ((0:Nat):Int)) 1
  rw[e1,e2]
  exact dF _ rfl
 ·have e:b=(s.heap.push {cls:=.type "range",data:=.fields #[.int lo t,.int hi u,.int 1 v]}).objs.size:=by simpa using hb
  subst e
  exact I1.fpOk (dm _) (I1.hok.fresh (dm _))
def YT(ta:TA):TI:=fun σ H R=>ta σ H fun vs H1=>∃j:Int,vs=[.int j]∧-(2^62)≤j∧j<2^62∧R (YR 0 j.toNat) H1
def YU(ta:TA):TI:=fun σ H R=>ta σ H fun vs H1=>∃i j:Int,vs=[.int i,.int j]∧(-(2^62)≤i∧i<2^62∧-(2^62)≤j∧j<2^62)∧R (YR i (j-i).toNat) H1
theorem Nr{a:Expr}{ta:TA}{p pos:Pos}(hg:Gl X "range")(hm:X.mg "range" =none)(ha:PA X [a] ta)(hs:df [a] X.env=[(false,eval a X.env)]:=by rfl):PI X tg (.Call (.Name "range" p) [a] [] pos) (YT ta):=by
 intro pins s σ H R I h
 refine Call_ (Cw I hg hm boot_range (g0 (Ay (ha pos pins s σ H _ I h) fun us s1 ⟨vs,H1,I1,r1,q1⟩=>?_) hs rfl))
 obtain⟨j,e,q1,q2,q⟩:=q1
 subst e
 cases r1 with
 |cons r rr=>
  cases rr
  obtain⟨t,rfl⟩:=r
  exact call_range_1 (Jh I1 (by omega) (by omega) q1 q2 (by simpa using q))
theorem Nt{a b:Expr}{ta:TA}{p pos:Pos}(hg:Gl X "range")(hm:X.mg "range" =none)(ha:PA X [a,b] ta)(hs:df [a,b] X.env=[(false,eval a X.env),(false,eval b X.env)]:=by rfl)(hs2:df [b] X.env=[(false,eval b X.env)]:=by rfl):
  PI X tg (.Call (.Name "range" p) [a,b] [] pos) (YU ta):=by
 intro pins s σ H R I h
 refine Call_ (Cw I hg hm boot_range (g0 (Ay (ha pos pins s σ H _ I h) fun us s1 ⟨vs,H1,I1,r1,q1⟩=>?_) (by rw[hs,hs2]) (by rw[hs2];rfl)))
 obtain⟨i,j,e,⟨q1,q2,q3,q4⟩,q⟩:=q1
 subst e
 cases r1 with
 |cons r rr=>
  cases rr with
  |cons r' rr=>
   cases rr
   obtain⟨t,rfl⟩:=r
   obtain⟨t',rfl⟩:=r'
   exact call_range_2 (Jh I1 q1 q2 q3 q4 q)
def az(wi:TI)(g:TG)(tb:TS):TS:=fun D σ H=>wi σ H fun J H1=>∃W:Nat→Nat→St→Hp→Prop,(∃m,W 0 m σ H1)∧∀i m σ H,W i m σ H→
 (J.stop i H∧D.nx σ H)∨(J.go i H∧∃N:St→Hp→Prop,(∀σ' H',N σ' H'→∃m',m'<m∧W (i+1) m' σ' H')∧∀x H',J.yld i H x H'→g x σ H' fun σ2 H2=>tb {D with nx:=N,ct:=N,bk:=D.nx} σ2 H2)
def Fq(fp:List Addr)(h:Heap):List (Addr×Obj):=fp.filterMap fun b=> (h.get? b).map fun o=> (b,o)
theorem CK{fp:List Addr}{h:Heap}{b:Addr}{o:Obj}(hb:b∈fp)(e:h.get? b=some o):(b,o)∈Fq fp h:=gM.mpr ⟨b,hb,by rw[e];rfl⟩
theorem Nu{fp:List Addr}{h:Heap}{p:Addr×Obj}(hp:p∈Fq fp h):p.1∈fp∧h.get? p.1=some p.2:=by
 obtain⟨b,hb,e⟩:=gM.mp hp
 cases q:h.get? b with
 |none=>rw[q] at e;cases e
 |some o=>
  rw[q] at e
  have e':(b,o)=p:=dW.inj e
  subst e'
  exact⟨hb,q⟩
theorem Inv.pinned{pins:List (Addr×Obj)}{σ:St}{H:Hp}{s:b6}{fp:List Addr}(I:Inv X pins σ H s)(hf:∀b∈fp,Fp X pins H b)(ho:∀b∈fp,∃o,s.heap.get? b=some o∧∀v,o.data≠.cell v):Inv X (pins++Fq fp s.heap) σ H s:=
 I.pins_of fun p hp=> (dJ.mp hp).elim (fun z=>I.pin p (eV _ z)) fun z=>by
  obtain⟨hb,e⟩:=Nu z
  obtain⟨f0,f1,f2,_⟩:=hf p.1 hb
  obtain⟨o,e',d⟩:=ho p.1 hb
  rw[e] at e';cases e'
  exact⟨e,f0,f1,f2,d⟩
theorem Inv.unpinned{pins pl:List (Addr×Obj)}{σ:St}{H:Hp}{s:b6}(I:Inv X (pins++pl) σ H s):Inv X pins σ H s:=I.pins_of fun p hp=>I.pin p (eV _ (gu _ hp))
theorem Vu{iter:Expr}{body:List Stmt}{wi:TI}{g:TG}{tb:TS}{pos:Pos}(hp:kg (model X.prog X.w) X.A X.env X.xe)(hc:X.calm=true)(hi:PI X tg iter wi)(hg:PG X tg g)(hb:PSs X body tb)
  (hs:∀x,fw iter X.env x=pure x:=by intro _;rfl):PS X (.For tg iter body [] pos) (az wi g tb):=by
 intro pins s σ H D I h
 refine wpAny_For (Ay (hi pins s σ H _ I h) fun v s1 h1=>Ay h1 fun itv s2 h2=>?_) hs
 obtain⟨it,fp,tn,J,H2,e,I2,T,st2,f2,W,⟨m0,w0⟩,turn⟩:=h2
 subst e
 have stat:∀{H':Hp},(∀b∈fp,H' b=none)→∀b∈fp,Fp X pins H' b:=fun hn b hb=> ⟨hn b hb,(f2 b hb).2⟩
 refine codeAny_forLoop_any (fun n s'=>∃i σ' H',Inv X pins σ' H' s'∧tn i s'.heap∧(∀b∈fp,H' b=none)∧W i n σ' H') ?_ m0 ⟨0,σ,H2,I2,st2,fun b hb=> (f2 b hb).1,w0⟩
 rintro n s3 ⟨i,σ3,H3,I3,st3,fr3,w3⟩
 rcases turn i n σ3 H3 w3 with⟨stop,qn⟩| ⟨go,N,hN,step⟩
 ·refine iB hp (Ay (T.done X rfl rfl rfl hc i pins s3 σ3 H3 X.xe I3 (stat fr3) st3 stop) fun r s4 ⟨hr,I4⟩=>?_)
  subst hr
  exact jU ⟨σ3,H3,I4,qn⟩
 ·refine iB hp (Ay (T.item X rfl rfl rfl hc i pins s3 σ3 H3 X.xe I3 (stat fr3) st3 go) fun r s4 ⟨u,hr,h4⟩=>?_)
  subst hr
  refine iB hp (Ay h4 fun _ s5 ⟨x,H5,I5,r5,y5,st5,fr5⟩=>?_)
  have I5':=I5.pinned (stat fr5) (T.obj _ _ st5)
  refine iB hp (Ay (hg _ s5 σ3 H5 x u _ I5' r5 (step x H5 y5)) fun _ s6 ⟨σ6,H6,I6,q6⟩=>?_)
  refine iB hp (Ay (hb _ s6 σ6 H6 _ I6 q6) fun f s7 q7=>?_)
  have again:∀{σ7:St} {H7:Hp},Inv X (pins++Fq fp s5.heap) σ7 H7 s7→N σ7 H7→∃m,m<n∧∃i σ' H',Inv X pins σ' H' s7∧tn i s7.heap∧(∀b∈fp,H' b=none)∧W i m σ' H':=fun{σ7 H7} I7 n7=>by
   obtain⟨m',hm,w7⟩:=hN σ7 H7 n7
   refine⟨m',hm,i+1,σ7,H7,I7.unpinned,T.keep _ _ _ st5 fun b hb o e=> (I7.pin (b,o) (eV _ (eV _ (CK hb e)))).1,fun b hb=>?_,w7⟩
   obtain⟨o,e,d⟩:=T.obj _ _ st5 b hb
   exact(I7.pin (b,o) (eV _ (eV _ (CK hb e)))).2.1
  cases f with
  |next=>obtain⟨σ7,H7,I7,n7⟩:=q7;exact again I7 n7
  |cont=>obtain⟨σ7,H7,I7,n7⟩:=q7;exact again I7 n7
  |brk=>obtain⟨σ7,H7,I7,q7⟩:=q7;exact⟨σ7,H7,I7.unpinned,q7⟩
  |ret v=>obtain⟨x7,σ7,H7,I7,r7,q7⟩:=q7;exact⟨x7,σ7,H7,I7.unpinned,r7,q7⟩
end
abbrev R2:=V→V→Hp→VK→Prop
def Cs(X:Cx)(f:Value→Value→Sem Value)(r:R2):Prop:=
 ∀(pins:List (Addr×Obj)) (s:b6) (σ:St) (H:Hp) (x y:V) (v u:Value) (Q:VK),Inv X pins σ H s→RelV x v→RelV y u→r x y H Q→
  wpAny (model X.prog X.w) X.A (f v u) (EP X pins σ Q) X.xe s
def BD(X:Cx)(f:Value)(r:List V→Hp→VK→Prop):Prop:=
 ∀(pins:List (Addr×Obj)) (s:b6) (σ:St) (H:Hp) (xs:List V) (us:List Value) (Q:VK),Inv X pins σ H s→Vals xs us→r xs H Q→
  wpAny (model X.prog X.w) X.A (call f us) (EP X pins σ Q) X.xe s
def bA(X:Cx)(r:V→Hp→(Bool→Hp→Prop)→Prop):Prop:=
 ∀(pins:List (Addr×Obj)) (s:b6) (σ:St) (H:Hp) (x:V) (v:Value) (Q:Bool→Hp→Prop),Inv X pins σ H s→RelV x v→r x H Q→
  wpAny (model X.prog X.w) X.A (truthy v) (TP X pins σ Q) X.xe s
def YV(r:R2)(ta tb:TE):TE:=fun σ H Q=>ta σ H fun x H1=>tb σ H1 fun y H2=>r x y H2 Q
def rI(C:Int→Int→Prop)(g:Int→Int→V):R2:=fun x y H Q=>∃i j,x=.int i∧y=.int j∧C i j∧Q (g i j) H
def SQ(g:Int→Int→V):R2:=fun x y H Q=>∃i j,x=.int i∧y=.int j∧Q (g i j) H
section
variable{X:Cx}{a b c:Expr}{ta tb tc:TE}{pos:Pos}
theorem Vv(ha:PE X a ta)(hb:PE X b tb){pins:List (Addr×Obj)}{s:b6}{σ:St}{H:Hp}{R:V→V→Hp→Prop}(I:Inv X pins σ H s)
  (h:ta σ H fun x H1=>tb σ H1 fun y H2=>R x y H2) {Q:Value→b6→Prop} {f:Value→Value→Sem Value}
  (hf:∀v u s2 x y H2,Inv X pins σ H2 s2→RelV x v→RelV y u→R x y H2→wpAny (model X.prog X.w) X.A (f v u) Q X.xe s2):
  wpAny (model X.prog X.w) X.A (eval a X.env) (fun v s₁=>wpAny (model X.prog X.w) X.A (eval b X.env) (fun u s₂=>wpAny (model X.prog X.w) X.A (f v u) Q X.xe s₂) X.xe s₁) X.xe s:=by
 refine Ay (ha pins s σ H _ I h) fun v s1 ⟨x,H1,I1,r1,q1⟩=>?_
 refine Ay (hb pins s1 σ H1 _ I1 q1) fun u s2 ⟨y,H2,I2,r2,q2⟩=>?_
 exact hf v u s2 x y H2 I2 r1 r2 q2
theorem YW{op:lR}{r:R2}(ho:Cs X (jl op) r)(ha:PE X a ta)(hb:PE X b tb):PE X (.BinOp a op b pos) (YV r ta tb):=by
 intro pins s σ H Q I h
 exact wpAny_BinOp (Vv ha hb I h fun v u s2 x y H2 I2 rx ry q=>ho pins s2 σ H2 x y v u Q I2 rx ry q)
theorem aV{f:Value→Value→Sem Value}{C:Int→Int→Prop}{g:Int→Int→Int}
  (rule:∀(i j:Int) (t u:Tok) (s:b6) (Q:Value→b6→Prop) (E:Value→b6→Prop),C i j→Q (.int (g i j) s.toks) {s with toks:=s.toks+1}→wpAny (model X.prog X.w) X.A (f (.int i t) (.int j u)) Q E s):
  Cs X f (rI C fun i j=> .int (g i j)):=by
 intro pins s σ H x y v u Q I rx ry h
 obtain⟨i,j,rfl,rfl,hc,q⟩:=h
 obtain⟨t,rfl⟩:=rx
 obtain⟨t',rfl⟩:=ry
 exact rule i j t t' s _ _ hc ⟨.int (g i j),H,I.tok _,⟨_,rfl⟩,q⟩
theorem YX{f:Value→Value→Sem Value}{g:Int→Int→Int}
  (rule:∀(i j:Int) (t u:Tok) (s:b6) (Q:Value→b6→Prop) (E:Value→b6→Prop),Q (.int (g i j) s.toks) {s with toks:=s.toks+1}→wpAny (model X.prog X.w) X.A (f (.int i t) (.int j u)) Q E s):
  Cs X f (SQ fun i j=> .int (g i j)):=by
 intro pins s σ H x y v u Q I rx ry h
 obtain⟨i,j,rfl,rfl,q⟩:=h
 obtain⟨t,rfl⟩:=rx
 obtain⟨t',rfl⟩:=ry
 exact rule i j t t' s _ _ ⟨.int (g i j),H,I.tok _,⟨_,rfl⟩,q⟩
theorem Sf{f:Value→Value→Sem Value}{g:Int→Int→Bool}
  (rule:∀(i j:Int) (t u:Tok) (s:b6) (Q:Value→b6→Prop) (E:Value→b6→Prop),Q (.bool (g i j)) s→wpAny (model X.prog X.w) X.A (f (.int i t) (.int j u)) Q E s):
  Cs X f (SQ fun i j=> .bl (g i j)):=by
 intro pins s σ H x y v u Q I rx ry h
 obtain⟨i,j,rfl,rfl,q⟩:=h
 obtain⟨t,rfl⟩:=rx
 obtain⟨t',rfl⟩:=ry
 exact rule i j t t' s _ _ ⟨.bl (g i j),H,I,rfl,q⟩
def YY(i j:Int):Prop:=0<j∧j<1073741824
def YZ(i j:Int):Prop:=0≤j∧j≤1000000∧i.natAbs<2^64
def CMul(i j:Int):Prop:=(-(2^64)<i∧i<2^64)∨(-(2^64)<j∧j<2^64)
theorem CMul.ok{i j:Int}(h:CMul i j):IntMulOk i j:=by
 rcases h with⟨h1,h2⟩| ⟨h1,h2⟩
 ·exact .of_left (intBits_le_64 h1 h2)
 ·exact .of_right (intBits_le_64 h1 h2)
theorem Eg:Cs X (jl .Add) (SQ fun i j=> .int (i+j)):=YX fun _ _ _ _ _ _ _ q=>add_int q
theorem Vw:Cs X (jl .Sub) (SQ fun i j=> .int (i-j)):=YX fun _ _ _ _ _ _ _ q=>sub_int q
theorem Vx:Cs X (jl .Mult) (rI CMul fun i j=> .int (i*j)):=aV fun _ _ _ _ _ _ _ hc q=>mul_int q hc.ok
theorem Sg:Cs X (jl .FloorDiv) (rI YY fun i j=> .int (i/j)):=aV fun i j _ _ _ _ _ hc q=>by
 have h1:(0:Int)<j:=hc.1
 have h2:j<1073741824:=hc.2
 exact floordiv_int (by omega) (by rw[Int.fdiv_eq_ediv_of_nonneg i (by omega)];exact q) (.inl (PyProof.noPylong_small (by omega)))
theorem Vy:Cs X (jl .Mod) (rI (fun _ j=>0<j) fun i j=> .int (i%j)):=aV fun i j _ _ _ _ _ hc q=>by
 have h1:(0:Int)<j:=hc
 exact mod_int' (by omega) (by rw[Int.fmod_eq_emod_of_nonneg i (by omega)];exact q)
theorem Vz:Cs X (jl .Pow) (rI YZ fun i j=> .int (i^j.toNat)):=aV fun _ _ _ _ _ _ _ hc q=>pow_int_small hc.1 hc.2.1 hc.2.2 q
end
def Yb:V→V→Bool
 | .non,.non=>true| .non,.int _=>true| .int _,.non=>true| .non,.bl _=>true| .bl _,.non=>true| .non,.str _=>true| .str _,.non=>true
 | .int _,.int _=>true| .bl _,.bl _=>true| .str _,.str _=>true| .byt _,.byt _=>true
 | .int _,.str _=>true| .str _,.int _=>true| .bl _,.str _=>true| .str _,.bl _=>true
 |_,_=>false
def bp:R2:=fun x y H Q=>Yb x y=true∧Q (.bl (decide (x=y))) H
def bq:R2:=fun x y H Q=>Yb x y=true∧Q (.bl (!decide (x=y))) H
theorem Mk{i j:Int}:decide (V.int i=V.int j)=(i==j):=by
 rw[gG]
 simp
theorem PL{i j:Bool}:decide (V.bl i=V.bl j)=(i==j):=by
 rw[gG]
 simp
theorem Ml{i j:Str}:decide (V.str i=V.str j)=(i==j):=by
 rw[gG]
 simp
theorem Mm{i j:Array UInt8}:decide (V.byt i=V.byt j)=(i.toList==j.toList):=by
 rw[gG]
 cases i
 cases j
 simp
section
variable{X:Cx}{a b c:Expr}{ta tb tc:TE}{pos:Pos}
theorem AW{pins:List (Addr×Obj)}{σ:St}{H:Hp}{s:b6}{Q:VK}{k k':Bool}(I:Inv X pins σ H s)(q:Q (.bl k) H)(e:k=k'):EP X pins σ Q (.bool k') s:=by
 subst e
 exact⟨.bl k,H,I,rfl,q⟩
theorem PM:Cs X (fE .Eq) bp:=by
 intro pins s σ H x y v u Q I rx ry h
 obtain⟨hs,q⟩:=h
 cases x with
 |non=>
  cases rx
  cases y with
  |non=>cases ry;exact PySem.EqNone.eq_none_none (AW I q (by simp))
  |bl j=>cases ry;exact PySem.EqNone.eq_none_bool (AW I q (by simp))
  |int j=>obtain⟨t',rfl⟩:=ry;exact PySem.EqNone.eq_none_int (AW I q (by simp))
  |str j=>obtain⟨t',rfl⟩:=ry;exact PySem.EqNone.eq_none_str (AW I q (by simp))
  |_=>exact absurd (show false=true from hs) dc
 |bl i=>
  cases rx
  cases y with
  |non=>cases ry;exact PySem.EqNone.eq_bool_none (AW I q (by simp))
  |bl j=>cases ry;exact eq_bool (AW I q PL)
  |str j=>obtain⟨t',rfl⟩:=ry;exact PySem.EqMixed.eq_bool_str (AW I q (by simp))
  |_=>exact absurd (show false=true from hs) dc
 |int i=>
  obtain⟨t,rfl⟩:=rx
  cases y with
  |non=>cases ry;exact PySem.EqNone.eq_int_none (AW I q (by simp))
  |int j=>obtain⟨t',rfl⟩:=ry;exact eq_int (AW I q Mk)
  |str j=>obtain⟨t',rfl⟩:=ry;exact PySem.EqMixed.eq_int_str (AW I q (by simp))
  |_=>exact absurd (show false=true from hs) dc
 |str i=>
  obtain⟨t,rfl⟩:=rx
  cases y with
  |non=>cases ry;exact PySem.EqNone.eq_str_none (AW I q (by simp))
  |bl j=>cases ry;exact PySem.EqMixed.eq_str_bool (AW I q (by simp))
  |int j=>obtain⟨t',rfl⟩:=ry;exact PySem.EqMixed.eq_str_int (AW I q (by simp))
  |str j=>obtain⟨t',rfl⟩:=ry;exact eq_str (AW I q Ml)
  |_=>exact absurd (show false=true from hs) dc
 |byt i=>
  obtain⟨t,rfl⟩:=rx
  cases y with
  |byt j=>obtain⟨t',rfl⟩:=ry;exact PySem.W.eq_bytes (AW I q Mm)
  |_=>exact absurd (show false=true from hs) dc
 |_=>cases y<;>exact absurd (show false=true from hs) dc
theorem Yc:Cs X (fE .NotEq) bq:=by
 intro pins s σ H x y v u Q I rx ry h
 obtain⟨hs,q⟩:=h
 cases x with
 |non=>
  cases rx
  cases y with
  |non=>cases ry;exact PySem.EqNone.ne_none_none (AW I q (by simp))
  |bl j=>cases ry;exact PySem.EqNone.ne_none_bool (AW I q (by simp))
  |int j=>obtain⟨t',rfl⟩:=ry;exact PySem.EqNone.ne_none_int (AW I q (by simp))
  |str j=>obtain⟨t',rfl⟩:=ry;exact PySem.EqNone.ne_none_str (AW I q (by simp))
  |_=>exact absurd (show false=true from hs) dc
 |bl i=>
  cases rx
  cases y with
  |non=>cases ry;exact PySem.EqNone.ne_bool_none (AW I q (by simp))
  |bl j=>cases ry;exact ne_bool (AW I q (congrArg not PL))
  |str j=>obtain⟨t',rfl⟩:=ry;exact PySem.EqMixed.ne_bool_str (AW I q (by simp))
  |_=>exact absurd (show false=true from hs) dc
 |int i=>
  obtain⟨t,rfl⟩:=rx
  cases y with
  |non=>cases ry;exact PySem.EqNone.ne_int_none (AW I q (by simp))
  |int j=>obtain⟨t',rfl⟩:=ry;exact ne_int (AW I q (congrArg not Mk))
  |str j=>obtain⟨t',rfl⟩:=ry;exact PySem.EqMixed.ne_int_str (AW I q (by simp))
  |_=>exact absurd (show false=true from hs) dc
 |str i=>
  obtain⟨t,rfl⟩:=rx
  cases y with
  |non=>cases ry;exact PySem.EqNone.ne_str_none (AW I q (by simp))
  |bl j=>cases ry;exact PySem.EqMixed.ne_str_bool (AW I q (by simp))
  |int j=>obtain⟨t',rfl⟩:=ry;exact PySem.EqMixed.ne_str_int (AW I q (by simp))
  |str j=>obtain⟨t',rfl⟩:=ry;exact ne_str (AW I q (congrArg not Ml))
  |_=>exact absurd (show false=true from hs) dc
 |byt i=>
  obtain⟨t,rfl⟩:=rx
  cases y with
  |byt j=>obtain⟨t',rfl⟩:=ry;exact PySem.W.ne_bytes (AW I q (congrArg not Mm))
  |_=>exact absurd (show false=true from hs) dc
 |_=>cases y<;>exact absurd (show false=true from hs) dc
theorem Uu:Cs X (fE .Lt) (SQ fun i j=> .bl (decide (i<j))):=Sf fun _ _ _ _ _ _ _ q=>lt_int q
theorem PN:Cs X (fE .LtE) (SQ fun i j=> .bl (decide (i≤j))):=Sf fun _ _ _ _ _ _ _ q=>le_int q
theorem Yd:Cs X (fE .Gt) (SQ fun i j=> .bl (decide (j<i))):=Sf fun _ _ _ _ _ _ _ q=>gt_int q
theorem PP:Cs X (fE .GtE) (SQ fun i j=> .bl (decide (j≤i))):=Sf fun _ _ _ _ _ _ _ q=>ge_int q
theorem WB:Cs X (fE .Is) (fun x y H Q=>y=.non∧Q (.bl (decide (x=.non))) H):=by
 intro pins s σ H x y v u Q I rx ry h
 obtain⟨rfl,q⟩:=h
 cases ry
 refine is_none_gen (AW I q ?_)
 cases x<;>first
  | (cases rx;rfl)
  | (obtain⟨t,rfl⟩:=rx;rfl)
theorem Mn:Cs X (fE .IsNot) (fun x y H Q=>y=.non∧Q (.bl (!decide (x=.non))) H):=by
 intro pins s σ H x y v u Q I rx ry h
 obtain⟨rfl,q⟩:=h
 cases ry
 refine isnot_none_gen (AW I q ?_)
 cases x<;>first
  | (cases rx;rfl)
  | (obtain⟨t,rfl⟩:=rx;rfl)
theorem Ah(b:Expr){op:CmpOp}(h:op≠.In:=by decide)(h2:op≠.NotIn:=by decide):behindInMarks op b=false:=by
 have e1:(op==CmpOp.In)=false:=by cases op<;>first|rfl|exact absurd rfl h
 have e2:(op==CmpOp.NotIn)=false:=by cases op<;>first|rfl|exact absurd rfl h2
 cases b<;>simp[behindInMarks,e1,e2]
theorem Sh{op:CmpOp}{r:R2}(ho:Cs X (fE op) r)(ha:PE X a ta)(hb:PE X b tb)(hm:behindInMarks op b=false):PE X (.Compare a [op] [b] pos) (YV r ta tb):=by
 intro pins s σ H Q I h
 exact wpAny_Compare1 (Vv ha hb I h fun v u s2 x y H2 I2 rx ry q=>ho pins s2 σ H2 x y v u Q I2 rx ry q) hm
def Ye(t:TE):TT:=fun σ H Q=>t σ H fun x H'=>∃k,x=.bl k∧Q k H'
theorem Mo{op:CmpOp}{r:R2}(ho:Cs X (fE op) r)(ha:PE X a ta)(hb:PE X b tb)(hm:behindInMarks op b=false):PT X (.Compare a [op] [b] pos) (Ye (YV r ta tb)):=by
 intro pins s σ H Q I h
 refine wpAny_isTrue_Compare1 (Ay (ha pins s σ H _ I h) fun v s1 ⟨x,H1,I1,r1,q1⟩=>Ay (hb pins s1 σ H1 _ I1 q1) fun u s2 ⟨y,H2,I2,r2,q2⟩=>
  Ay (ho pins s2 σ H2 x y v u _ I2 r1 r2 q2) fun c s3 ⟨z,H3,I3,r3,k,e,q3⟩=>?_) hm
 subst e
 cases r3
 exact gS ⟨H3,I3,q3⟩
def WC(r r':R2)(ta tb tc:TE):TE:=fun σ H Q=>ta σ H fun x H1=>tb σ H1 fun y H2=>r x y H2 fun z H3=>∃k,z=.bl k∧
 (if k=true then tc σ H3 fun w' H4=>r' y w' H4 Q else Q (.bl false) H3)
theorem PQ{op op':CmpOp}{r r':R2}(ho:Cs X (fE op) r)(ho':Cs X (fE op') r')(ha:PE X a ta)(hb:PE X b tb)(hc:PE X c tc)
  (hm:lastMarks [op,op'] [b,c]=false:=by with_unfolding_all rfl):PE X (.Compare a [op,op'] [b,c] pos) (WC r r' ta tb tc):=by
 intro pins s σ H Q I h
 refine Compare_chain (Ay (ha pins s σ H _ I h) fun v s1 ⟨x,H1,I1,r1,q1⟩=>chain_link (Ay (hb pins s1 σ H1 _ I1 q1) fun u s2 ⟨y,H2,I2,r2,q2⟩=>
  Ay (ho pins s2 σ H2 x y v u _ I2 r1 r2 q2) fun d s3 ⟨z,H3,I3,r3,k,e,q3⟩=>?_)) hm
 subst e
 cases r3
 refine gS ?_
 cases k with
 |false=>exact ite_ff ⟨.bl false,H3,I3,rfl,q3⟩
 |true=>exact ite_tt (chain_last (Ay (hc pins s3 σ H3 _ I3 q3) fun w' s4 ⟨z',H4,I4,r4,q4⟩=>ho' pins s4 σ H4 y z' u w' Q I4 r2 r4 q4))
def WD(K:b5)(x:V)(H:Hp)(k:Bool):Prop:=
 match x with
 | .non=>k=false
 | .bl b=>k=b
 | .int i=>k=(i !=0)
 | .str y=>y.length≤sizeLine∧k=((y.length:Int) !=0)
 | .byt y=>y.size≤sizeLine∧k=((y.size:Int) !=0)
 | .ref p=> (∃xs,Cr K H p xs∧k=!xs.isEmpty)∨(∃xs,II K H p xs∧k=!xs.isEmpty)∨∃kvs,H p=some (.dK kvs)∧k=!kvs.isEmpty
 |_=>False
theorem LA{κ:Type}{kvs:List (κ×V)}{vs:List (κ×Value)}(r:KV kvs vs):(!vs.isEmpty)=!kvs.isEmpty:=by
 cases r<;>rfl
theorem Fs{xs:List V}{its:List Value}(r:Vals xs its):(!its.toArray.isEmpty)=!xs.isEmpty:=by
 cases r<;>simp
theorem Ft:(sizeLine:Nat)<2^63:=by rw[fh];decide
theorem WH:bA X (fun x H Q=>∃k,WD X.K x H k∧Q k H):=by
 intro pins s σ H x v Q I rx h
 obtain⟨k,e,q⟩:=h
 have hl:=Ft
 have hs:sizeLine=16777216:=fh
 cases x with
 |non=>
  cases rx
  have e':k=false:=e
  subst e'
  exact truthy_none ⟨H,I,q⟩
 |bl b=>
  cases rx
  have e':k=b:=e
  subst e'
  exact gS ⟨H,I,q⟩
 |int i=>
  obtain⟨t,rfl⟩:=rx
  have e':k=(i !=0):=e
  subst e'
  exact PySem.P.truthy_int ⟨H,I,q⟩
 |str y=>
  obtain⟨t,rfl⟩:=rx
  obtain⟨hy,e'⟩:y.length≤sizeLine∧k=((y.length:Int) !=0):=e
  subst e'
  exact PySem.P.truthy_str (by omega) ⟨H,I.tok _,q⟩
 |byt y=>
  obtain⟨t,rfl⟩:=rx
  obtain⟨hy,e'⟩:y.size≤sizeLine∧k=((y.size:Int) !=0):=e
  subst e'
  exact PySem.W.truthy_bytes (by omega) ⟨H,I.tok _,q⟩
 |ref p=>
  cases rx
  have e':(∃xs,Cr X.K H p xs∧k=!xs.isEmpty)∨(∃xs,II X.K H p xs∧k=!xs.isEmpty)∨∃kvs,H p=some (.dK kvs)∧k=!kvs.isEmpty:=e
  rcases e' with⟨xs,hx,e'⟩| ⟨xs,hx,e'⟩| ⟨kvs,hx,e'⟩
  ·subst e'
   obtain⟨its,r,pl,hz⟩:=I.list hx
   have hlen:=r.length
   exact wpAny_truthy_list pl.isList (by simp only[dv];omega) ⟨H,I.tok _,by rw[Fs r];exact q⟩
  ·subst e'
   obtain⟨its,r,pl,hz⟩:=I.tuple hx
   have hlen:=r.length
   exact truthy_tuple pl (by simp only[dv];omega) ⟨H,I.tok _,by rw[Fs r];exact q⟩
  ·subst e'
   obtain⟨hz,hS,vs,r,m⟩:kvs.length≤sizeLine∧(p==sysModules)=false∧∃vs,KV kvs vs∧s.heap.DictOf (IF X.prog X.w) p vs:=I.hok p _ hx
   have hlen:kvs.length=vs.length:=Paired.length r
   exact wpAny_truthy_dict hS m (by omega) ⟨H,I.tok _,by rw[LA r];exact q⟩
 |_=>exact(show False from e).elim
theorem PR(ha:PE X a ta)(he:∀whole,isTrue a X.env whole=(do let v←whole;standAt a.pos;holding [v] (truthy v))):
  PT X a (fun σ H Q=>ta σ H fun x H'=>∃k,WD X.K x H' k∧Q k H'):=by
 intro pins s σ H Q I h
 exact isTrue_plain (Ay (ha pins s σ H _ I h) fun v s1 ⟨x,H1,I1,r1,q1⟩=>WH pins s1 σ H1 x v Q I1 r1 q1) (he _)
theorem De{x:V}{us:List Value}(r:Vals [x] us):∃u,us=[u]∧RelV x u:=by
 cases r with
 |cons r1 r2=>cases r2;exact⟨_,rfl,r1⟩
theorem PU{x y:V}{us:List Value}(r:Vals [x,y] us):∃u w',us=[u,w']∧RelV x u∧RelV y w':=by
 cases r with
 |cons r1 r2=>
  cases r2 with
  |cons r3 r4=>cases r4;exact⟨_,_,rfl,r1,r3⟩
theorem Nv(hc:X.calm=true):BD X (.builtin "max") (fun xs H Q=>∃i j,xs=[.int i,.int j]∧Q (.int (if j>i then j else i)) H):=by
 intro pins s σ H xs us Q I r h
 obtain⟨i,j,rfl,q⟩:=h
 obtain⟨u,w',rfl,⟨t,rfl⟩,⟨t',rfl⟩⟩:=PU r
 refine max_two_ints (I.ok.hd hc) fun h' tk k=> ⟨_,H,I.kept k,?_,q⟩
 by_cases hj:j>i
 ·rw[if_pos hj,if_pos hj];exact⟨_,rfl⟩
 ·rw[if_neg hj,if_neg hj];exact⟨_,rfl⟩
theorem Nw(hc:X.calm=true):BD X (.builtin "min") (fun xs H Q=>∃i j,xs=[.int i,.int j]∧Q (.int (if j<i then j else i)) H):=by
 intro pins s σ H xs us Q I r h
 obtain⟨i,j,rfl,q⟩:=h
 obtain⟨u,w',rfl,⟨t,rfl⟩,⟨t',rfl⟩⟩:=PU r
 refine min_two_ints (I.ok.hd hc) fun h' tk k=> ⟨_,H,I.kept k,?_,q⟩
 by_cases hj:j<i
 ·rw[if_pos hj,if_pos hj];exact⟨_,rfl⟩
 ·rw[if_neg hj,if_neg hj];exact⟨_,rfl⟩
theorem Nx:BD X (.type "int") (fun xs H Q=> (∃i,xs=[.int i]∧Q (.int i) H)∨∃k,xs=[.bl k]∧Q (.int (if k then 1 else 0)) H):=by
 intro pins s σ H xs us Q I r h
 rcases h with⟨i,rfl,q⟩| ⟨k,rfl,q⟩
 ·obtain⟨u,rfl,t,rfl⟩:=De r
  exact call_int_int ⟨.int i,H,I,⟨_,rfl⟩,q⟩
 ·obtain⟨u,rfl,r1⟩:=De r
  cases r1
  exact call_int_bool ⟨.int (if k then 1 else 0),H,I.tok _,⟨_,rfl⟩,q⟩
end
structure ObjM(h:Heap)(x dx C:Addr)(mA:Str→Option Value):Prop where
 obj:h.get? x=some (lA C dx)
 ns:h.Ns1 dx mA
 ne:dx≠x
theorem Ny{h:Heap}{dx:Addr}{mA:Str→Option Value}(n:h.Ns1 dx mA):∃od,h.get? dx=some od∧∀name,lO name od=some (mA name):=by
 obtain⟨o,es,ep,ho,hd,hk,_,hm⟩:=n
 refine⟨o,ho,fun name=>?_⟩
 have e:=hm name
 unfold nsFind findBy at e
 rw[←Array.find?_toList] at e
 unfold lO
 rw[hd]
 dsimp only
 split
 ·rename_i y q
  rw[q] at e
  exact congrArg some e
 ·rename_i q
  rw[q] at e
  have a:es.toList.any (·.refKey)=false:=by
   rw[List.any_eq_false]
   intro y hy
   obtain⟨z,t,hkey⟩:=hk y (Array.mem_toList_iff.mp hy)
   simp[DictEntry.refKey,hkey]
  have a':¬es.toList.any (·.refKey)=true:=by rw[a];exact dc
  rw[if_neg a']
  exact congrArg some e
theorem ObjM.look{h:Heap}{x dx C:Addr}{mA:Str→Option Value}(I:ObjM h x dx C mA):∃od,PySem.W.InstAt h x (lA C dx) C (some od)∧∀name,lO name od=some (mA name):=
 let⟨od,ho,hl⟩:=Ny I.ns
 ⟨od,⟨I.obj,rfl,rfl,ho⟩,hl⟩
section
variable{prog:Program}{w:World}{A:dH}{E:Value→b6→Prop}{s:b6}{K:b5}{x dx C f:Addr}{mA:Str→Option Value}{name:Str}{v:Value}
end
section
variable{P:Program}{w:World}{H H':Hp}{h h':Heap}{a C dx:Addr}{fs fs':List (Str×V)}
theorem Si(hok:HOk P w H h)(e:H a=some (.ins C dx fs)):∃mA,ObjM h a dx C mA∧(∀f,SW (fs.lookup f) (mA f))∧mD mA (fs.map (·.1))∧fs.length≤1000∧H dx=some (.own a):=by
 obtain⟨d,z,ne,ob,mA,n,r,q⟩:=(show ObjOk P w H h a (.ins C dx fs) from hok a _ e)
 exact⟨mA,⟨ob,n,ne⟩,r,q,z,d⟩
end
structure Cls(K:b5)(C:Addr):Prop where
 pg:PySem.W.plainGet K C Str.empty=true
 hd:PySem.W.hasDictIn K C=true
 po:PySem.W.plainOver K C=true
 sa:jA K (.ref C) "__setattr__" =some (some (.builtin "object.__setattr__"))
theorem Cls.get{K:b5}{C:Addr}(c:Cls K C)(f:Str):PySem.W.plainGet K C f=true:=c.pg
section
variable{X:Cx}{pins:List (Addr×Obj)}{σ:St}{H:Hp}{s:b6}{a C dx:Addr}{fs:List (Str×V)}{f:Str}{v:V}{A:dH}{E:Value→b6→Prop}
end
section
variable{X:Cx}{o e value:Expr}{f:Str}{pos pos' tpos:Pos}{ta tv:TE}
end
section
variable{X:Cx}{pins:List (Addr×Obj)}{σ:St}{H:Hp}{s:b6}{A:dH}{E:Value→b6→Prop}{Q:Value→b6→Prop}{c:Value}{b:Bool}
inductive TyOf(K:b5)(H:Hp):V→Value→Prop where
 |non:TyOf K H .non (.type "NoneType")
 |bl (x:Bool):TyOf K H (.bl x) (.type "bool")
 |int (i:Int):TyOf K H (.int i) (.type "int")
 |str (x:Str):TyOf K H (.str x) (.type "str")
 |flt (x:UInt64):TyOf K H (.flt x) (.type "float")
 |lst {a:Addr} {xs:List V} (e:H a=some (.lst xs)):TyOf K H (.ref a) (.type "list")
 |frz {a:Addr} {o:Obj} {xs:List V} (e:H a=some (.frz o (.lst xs))):TyOf K H (.ref a) (.type "list")
 |tup {a:Addr} {xs:List V} (e:H a=some (.tup xs)):TyOf K H (.ref a) (.type "tuple")
 |dK {a:Addr} {kvs:List (Ja×V)} (e:H a=some (.dK kvs)):TyOf K H (.ref a) (.type "dict")
 |dT {a:Addr} {kvs:List (List Ja×V)} (e:H a=some (.dT kvs)):TyOf K H (.ref a) (.type "dict")
 |ins {a C dx:Addr} {fs:List (Str×V)} (e:H a=some (.ins C dx fs)) (cl:Cls K C) (ha:jA K (.ref C) "__class__" =some (some (.builtin "object.__class__")))
   (hn:PySem.W.specialIn K (.builtin "object.__class__") "__get__" =some (some (.builtin "getset_descriptor.__get__"))) (htk:PySem.W.takesIn K (.builtin "object.__class__")=some true)
   (hm:kP K C (.type "object")=some true):TyOf K H (.ref a) (.ref C)
theorem Nz{x:V}{u t:Value}(I:Inv X pins σ H s)(rx:RelV x u)(ty:TyOf X.K H x t)(e:eu X.K t c=some b)(h:∀tk,Q (.bool b) {s with toks:=tk}):
  wpAny (model X.prog X.w) A (call (.builtin "isinstance") [u,c]) Q E s:=by
 cases ty with
 |non=>cases(show u=js from rx);exact fJ PySem.W.kitx_none I.kIn k7 e (fun z=>nomatch z) h
 |bl y=>cases(show u=km y from rx);exact fJ PySem.W.kitx_bool I.kIn k7 e (fun z=>nomatch z) h
 |int i=>obtain⟨t,q⟩:=(show∃t,u=l0 i t from rx);cases q;exact fJ PySem.W.kitx_int I.kIn k7 e (fun z=>nomatch z) h
 |str y=>obtain⟨t,q⟩:=(show∃t,u=mU y t from rx);cases q;exact fJ PySem.W.kitx_str I.kIn k7 e (fun z=>nomatch z) h
 |flt y=>obtain⟨t,q⟩:=(show∃t,u=Value.float y t from rx);cases q;exact fJ PySem.W.kitx_float I.kIn k7 e (fun z=>nomatch z) h
 | @lst a xs ea=>
  cases(show u=Value.ref a from rx)
  obtain⟨_,_,n,_,h1⟩:=(show ObjOk X.prog X.w H s.heap a (.lst xs) from I.hok a _ ea)
  exact fJ PySem.W.kitx_list I.kIn ⟨_,h1,rfl⟩ e (fun z=>nomatch z) h
 | @frz a ob xs ea=>
  cases(show u=Value.ref a from rx)
  obtain⟨_,_,_,n,_,h1⟩:=(show ObjOk X.prog X.w H s.heap a (.frz ob (.lst xs)) from I.hok a _ ea)
  exact fJ PySem.W.kitx_list I.kIn ⟨_,h1,rfl⟩ e (fun z=>nomatch z) h
 | @tup a xs ea=>
  cases(show u=Value.ref a from rx)
  obtain⟨_,_,_,p⟩:=(show ObjOk X.prog X.w H s.heap a (.tup xs) from I.hok a _ ea)
  obtain⟨o,h1,h2,_⟩:=p
  exact fJ PySem.W.kitx_tuple I.kIn ⟨o,h1,h2⟩ e (fun z=>nomatch z) h
 | @dK a kvs ea=>
  cases(show u=Value.ref a from rx)
  obtain⟨_,_,vs,_,p⟩:=(show ObjOk X.prog X.w H s.heap a (.dK kvs) from I.hok a _ ea)
  obtain⟨o,es,ep,h1,h2,_⟩:=p
  exact fJ PySem.W.kitx_dict I.kIn ⟨o,h1,h2.1⟩ e (fun z=>nomatch z) h
 | @dT a kvs ea=>
  cases(show u=Value.ref a from rx)
  obtain⟨_,_,xs,_,o,es,ep,h1,h2,_⟩:=(show ObjOk X.prog X.w H s.heap a (.dT kvs) from I.hok a _ ea)
  exact fJ PySem.W.kitx_dict I.kIn ⟨o,h1,h2.1⟩ e (fun z=>nomatch z) h
 | @ins a C dx fs ea cl ha hn htk hm=>
  cases(show u=Value.ref a from rx)
  obtain⟨mA,O,_⟩:=Si I.hok ea
  obtain⟨od,J,_⟩:=O.look
  exact fJ (PySem.W.kitx_own (cl.get _) cl.hd ha hn htk hm) I.kIn J e (fun z=>nomatch z) h
end
structure Room(k:Nat)(A:dH):Prop where
 hd:A.handled=none
 dp:A.depth+3*k+5<recursionLimit
 un:A.units+16*k+200<cLine
 gd:A.guards=some []
theorem Room.mono{j k:Nat}{A:dH}(r:Room k A)(h:j≤k):Room j A:=⟨r.hd,by have:=r.dp;omega,by have:=r.un;omega,r.gd⟩
theorem Room.deeper{k:Nat}{A:dH}(r:Room (k+1) A)(env:Env):Room k (A.deeper env):=
 ⟨r.hd,by have:=r.dp;show A.depth+1+3*k+5<_;omega,by have:=r.un;show A.units+3+16*k+200<_;omega,r.gd⟩
theorem Room.depth{k:Nat}{A:dH}(r:Room k A):A.depth<recursionLimit:=by have:=r.dp;omega
def bB:TA:=fun _ H Q=>Q [] H
def Yg(ta:TE)(tr:TA):TA:=fun σ H Q=>ta σ H fun x H1=>tr σ H1 fun xs H2=>Q (x::xs) H2
section
variable{X:Cx}{e:Expr}{es:List Expr}{te:TE}{t:TA}{pos:Pos}
theorem LB:PA X [] bB:=fun _ _ _ _ H Q I h=>Calls.spliced_nil ⟨[],H,I,.nil,h⟩
theorem IM(ha:PE X e te)(hr:PA X es t)(hs:df (e::es) X.env=(false,eval e X.env)::df es X.env:=by rfl):PA X (e::es) (Yg te t):=by
 intro pos pins s σ H Q I h
 rw[hs]
 show wpAny _ _ (spliced ((false,eval e X.env)::gU pos (df es X.env))) _ _ s
 refine Calls.spliced_cons (Ay (ha pins s σ H _ I h) fun u s1 ⟨x,H1,I1,r1,q1⟩=>?_)
 exact Ay (hr pos pins s1 σ H1 _ I1 q1) fun us s2 ⟨xs,H2,I2,r2,q2⟩=> ⟨x::xs,H2,I2,.cons r1 r2,q2⟩
def bD(t:TA):TE:=fun σ H Q=>t σ H fun xs H1=>xs.length≤sizeLine∧∀p,H1 p=none→Q (.ref p) (upd H1 p (.tup xs))
def bE(t:TA):TE:=fun σ H Q=>t σ H fun xs H1=>xs.length≤sizeLine∧∀p,H1 p=none→Q (.ref p) (upd H1 p (.lst xs))
theorem WJ{x1}(h:PA X es t):PE X (.Tuple es x1 pos) (bD t):=by
 intro pins s σ H Q I hq
 refine wpAny_Tuple_spliced (Ay (h pos pins s σ H _ I hq) fun us s1 ⟨xs,H1,I1,r,z,q⟩=> ⟨by rw[←r.length];exact z,?_⟩)
 have hf:H1 s1.heap.objs.size=none:=I1.hok.fresh (dm _)
 refine⟨.ref s1.heap.objs.size,upd H1 s1.heap.objs.size (.tup xs),I1.laid (t':=s1.toks) (fun b u e=>da _ e) (dm _) ?_,rfl,q _ hf⟩
 exact⟨z,us,r,⟨_,dF _ rfl,rfl,_,rfl⟩⟩
theorem PV(h:PA X es t):PE X (.List es pos) (bE t):=by
 intro pins s σ H Q I hq
 refine wpAny_List_spliced (Ay (h pos pins s σ H _ I hq) fun us s1 ⟨xs,H1,I1,r,z,q⟩=> ⟨by rw[←r.length];exact z,?_⟩)
 have hf:H1 s1.heap.objs.size=none:=I1.hok.fresh (dm _)
 refine⟨.ref s1.heap.objs.size,upd H1 s1.heap.objs.size (.lst xs),I1.laid (t':=s1.toks) (fun b u e=>da _ e) (dm _) ?_,rfl,q _ hf⟩
 exact⟨z,us,0,r,dF _ rfl⟩
end
abbrev Sp:=List V→Hp→VK→XK→Prop
abbrev PX:=List Env→Hp→b6→XK→Value→b6→Prop
structure Env0(P:Program)(w:World)(K:b5)(mg:Str→Option Value)(base:Heap)(A:dH)(outer:List Env)(s:b6)(H:Hp):Prop where
 frames:A.frames=some outer
 mod:Mod K mg base
 bs:∀b o,base.get? b=some o→s.heap.get? b=some o∧H b=none
 bsz:base.objs.size≤s.heap.objs.size
 funs:s.heap.FunFrames base outer
 frf:∀b∈HE outer,H b=none
 hok:HOk P w H s.heap
 bare:kb s.gens
def CE(outer:List Env)(P:Program)(w:World)(H:Hp)(s:b6)(Q:VK)(u:Value)(s':b6):Prop:=
 ∃v H',s'.os=s.os∧kb s'.gens∧Un (HE outer) [] H H' s.heap s'.heap∧HOk P w H' s'.heap∧RelV v u∧Q v H'
def CR(CX:PX)(outer:List Env)(P:Program)(w:World)(H:Hp)(s:b6)(Q:VK)(E:XK)(r:mV)(s':b6):Prop:=
 match r with
 | .ok (.ret u)=>CE outer P w H s Q u s'
 | .ok _=>False
 | .error e=>CX outer H s E e s'
structure FnOk(P:Program)(w:World)(K:b5)(mg:Str→Option Value)(base:Heap)(CX:PX)(k:Nat)(f:Addr)(fd:dD)(ps:List Str)(sp:Sp):Prop where
 len:∀vs H Q E,sp vs H Q E→vs.length=ps.length
 run:∀(A:dH) (outer:List Env) (s:b6) (H:Hp) (args:Args) (us:List Value) (vs:List V) (Q:VK) (E:XK),Room k A→Env0 P w K mg base A outer s H→mR s fd args (ps.zip us)→Vals vs us→sp vs H Q E→
  iY (model P w) A (.call (.ref f) args) (CR CX outer P w H s Q E) s
theorem FnOk.imp{P:Program}{w:World}{K:b5}{mg:Str→Option Value}{base:Heap}{CX:PX}{k:Nat}{f:Addr}{fd:dD}{ps:List Str}{sp sp':Sp}(F:FnOk P w K mg base CX k f fd ps sp)
  (h:∀vs H Q E,sp' vs H Q E→sp vs H Q E):FnOk P w K mg base CX k f fd ps sp':=
 ⟨fun vs H Q E q=>F.len vs H Q E (h _ _ _ _ q),fun A outer s H args us vs Q E hr he hb hv hs=>F.run A outer s H args us vs Q E hr he hb hv (h _ _ _ _ hs)⟩
section
variable{X:Cx}{pins:List (Addr×Obj)}{σ:St}{H:Hp}{s s':b6}
theorem Inv.env0(I:Inv X pins σ H s):Env0 X.prog X.w X.K X.mg X.base X.A X.stack s H:=
 ⟨I.ok.frames,I.ok.mod,I.bs,fI I.ok.bsz I.sz,I.stack,I.stkFree,I.hok,I.bare⟩
theorem Inv.after{Q:VK}{u:Value}(I:Inv X pins σ H s)(h:CE X.stack X.prog X.w H s Q u s'):EP X pins σ Q u s':=by
 obtain⟨v,H',os,bare,un,hok,r,q⟩:=h
 obtain⟨hh,g,d,t,os'⟩:=s'
 obtain rfl:os'=s.os:=os
 exact⟨v,H',I.call (h':=hh) (g':=g) (d':=d) (t':=t) (ch:=[]) un hok bare (fun b z=>absurd z (by simp)),r,q⟩
end
def Binds(K:b5)(fd:dD)(ps:List Str)(ds:List Value):Prop:=
 ∀(s:b6) (us:List Value),K.In s.heap→(us++ds).length=ps.length→mR s fd ⟨us,[]⟩ (ps.zip (us++ds))
theorem Binds.all{K:b5}{fd:dD}{ps:List Str}(h:∀us:List Value,us.length=ps.length→bindArgs fd ⟨us,[]⟩=pure (ps.zip us)):Binds K fd ps []:=fun s us _ hl=>by
 rw[i8] at hl ⊢
 exact .of_eq (h us hl)
section
variable{X:Cx}{CX:PX}{k:Nat}{f C:Addr}{fd:dD}{ps:List Str}{sp:Sp}{dvs:List V}{ds:List Value}{E:XK}{x m:Str}{p pos apos:Pos}{e o:Expr}{es:List Expr}{ta:TE}{t:TA}
end
section
variable{X:Cx}{CX:PX}{k:Nat}{f C:Addr}{fd:dD}{ps ks:List Str}{sp:Sp}{E:XK}{x m:Str}{p pos apos kpos:Pos}{e o:Expr}{es:List Expr}{kws:List kM}{te ta:TE}{t tk:TA}{nm:Option Str}
variable{g:List Value→List Value→List Value}{gV:List V→List V→List V}
end
structure FnScope(N P:List Str)(sc:Scope):Prop where
 kind:sc.kind=.function
 co:sc.isCoroutine=false
 gen:sc.isGenerator=false
 nd:N.Nodup
 pre:N.take P.length=P
 par:∀x∈P,sc.names.lookup x=some .local∨sc.names.lookup x=some .cell
 nofree:∀y∈sc.names,y.2≠.free
theorem HQ{kindOf:Str→Option NameKind}{x:Str}:∀{binds:List (Str×Value)} {m:Str→Option Value},(∀v,(x,v)∉binds)→bindL kindOf binds m x=m x
 | [],_,_=>rfl
 | (n,v)::r,m,h=>by
  unfold bindL
  rw[HQ fun w hw=>h w (dw _ hw)]
  split
  ·have:x≠n:=by rintro rfl;exact h v dP
   simp[this]
  ·rfl
theorem HR{kindOf:Str→Option NameKind}{x:Str}:∀{binds:List (Str×Value)} {m:Str→Option Value},(∀v,(x,v)∉binds)→bindC kindOf binds m x=m x
 | [],_,_=>rfl
 | (n,v)::r,m,h=>by
  unfold bindC
  rw[HR fun w hw=>h w (dw _ hw)]
  split
  ·rfl
  ·have:x≠n:=by rintro rfl;exact h v dP
   simp[this]
theorem HU{kindOf:Str→Option NameKind}{x:Str}{v:Value}:∀{P:List Str} {vs:List Value} {i:Nat} {m:Str→Option Value},P.Nodup→P[i]?=some x→vs[i]?=some v→kindOf x=some .local→
  bindL kindOf (P.zip vs) m x=some v
 | [],_,_,_,_,h,_,_=>by simp at h
 |_::_,[],_,_,_,_,h,_=>by simp at h
 |p::P,w::vs,0,m,nd,h1,h2,hk=>by
  simp at h1 h2;subst h1;subst h2
  show bindL kindOf ((p,w)::P.zip vs) m p=_
  unfold bindL
  rw[HQ fun v hv=> (dO.mp nd).1 (lD hv).1,if_pos hk]
  simp
 |p::P,w::vs,i+1,m,nd,h1,h2,hk=>by
  show bindL kindOf ((p,w)::P.zip vs) m x=_
  unfold bindL
  exact HU (i:=i) (dO.mp nd).2 (by simpa using h1) (by simpa using h2) hk
theorem HV{kindOf:Str→Option NameKind}{x:Str}{v:Value}:∀{P:List Str} {vs:List Value} {i:Nat} {m:Str→Option Value},P.Nodup→P[i]?=some x→vs[i]?=some v→kindOf x≠some .local→
  bindC kindOf (P.zip vs) m x=some v
 | [],_,_,_,_,h,_,_=>by simp at h
 |_::_,[],_,_,_,_,h,_=>by simp at h
 |p::P,w::vs,0,m,nd,h1,h2,hk=>by
  simp at h1 h2;subst h1;subst h2
  show bindC kindOf ((p,w)::P.zip vs) m p=_
  unfold bindC
  rw[HR fun v hv=> (dO.mp nd).1 (lD hv).1,if_neg hk]
  simp
 |p::P,w::vs,i+1,m,nd,h1,h2,hk=>by
  show bindC kindOf ((p,w)::P.zip vs) m x=_
  unfold bindC
  exact HV (i:=i) (dO.mp nd).2 (by simpa using h1) (by simpa using h2) hk
def start(N:List Str)(vs:List V):St:=vs.map some++e9 (N.length-vs.length) none
def Bv(CX:PX)(P:Program)(w:World)(K:b5)(mg:Str→Option Value)(base:Heap)(N:List Str)(qual:Str)(scope:Scope)(f:Addr)(cd:Value)(A:dH)(outer:List Env)(s:b6)(H:Hp)(E:XK):Cx where
 prog:=P
 w:=w
 K:=K
 mg:=mg
 base:=base
 A:=A.deeper (je qual scope s.heap.objs.size f cd)
 N:=N
 s₀:=s
 H₀:=H
 env:=je qual scope s.heap.objs.size f cd
 outer:=outer
 stack:=je qual scope s.heap.objs.size f cd::outer
 ex:=[]
 calm:=true
 fn:=fun _=>true
 pn:=[]
 xe:=fun e s'=>wpAny (model P w) (A.deeper (je qual scope s.heap.objs.size f cd)) (leaving (je qual scope s.heap.objs.size f cd) e) (fun _ s''=>CX outer H s E e s'') (fun e' s''=>CX outer H s E e' s'') s'
theorem Ji{sc:Scope}{n:Nat}{x:Str}(h:sc.names.lookup x=some .cell):∃c,(gj n sc.names []).lookup x=some c:=by
 have q:=PySem.W.cellsFrom_some sc.names n [] (.inl h)
 exact Option.isSome_iff_exists.mp q
theorem OA{CX:PX}{P:Program}{w:World}{K:b5}{mg:Str→Option Value}{base:Heap}{N ps:List Str}{qual:Str}{scope:Scope}{f:Addr}{cd:Value}{A:dH}{outer:List Env}{s s1:b6}{H:Hp}{E:XK}{us:List Value}{vs:List V}
  (S:FnScope N ps scope) (hd:A.handled=none) (e0:Env0 P w K mg base A outer s H) (hl:vs.length=ps.length) (r:Vals vs us)
  (x:InCallC s s.heap.objs.size (bindL (je qual scope s.heap.objs.size f cd).kindOf (ps.zip us) fun _=>none) (gj (s.heap.objs.size+1) scope.names []) (bindC (je qual scope s.heap.objs.size f cd).kindOf (ps.zip us) fun _=>none) s1):
  Inv (Bv CX P w K mg base N qual scope f cd A outer s H E) [] (start N vs) H s1:=by
 have hpl:ps.length≤N.length:=by have:=congrArg List.length S.pre;rw[eH] at this;omega
 obtain⟨h1,tk,rfl,hk⟩:=x.done
 have noA:∀b:Addr,b∉(Bv CX P w K mg base N qual scope f cd A outer s H E).ex:=fun b z=>absurd (show b∈([]:List Addr) from z) (by simp)
 refine⟨⟨e0.mod,S.kind,rfl,rfl,dm _,fun y z c h1 h2=>?_,fun y hy=>?_,fun y c _ h=>?_,fun _=>hd,dH.frames_deeper e0.frames,.inr ⟨rfl,rfl⟩,fun b z=>absurd z (noA b),e0.bs,e0.bsz,fun b _ _=>noA b,fun b z=>absurd z (noA b),e0.funs,e0.frf⟩,
  rfl,e0.bare,Un.kept hk,⟨_,x.toInCall.ns,fun i y v h1 h2 h3=>?_⟩,fun y c h=> ⟨_,x.cell y c h⟩,e0.hok.fresh (dm _),fun y c h=>?_,fun p hp=>absurd (show p∈([]:List (Addr×Obj)) from hp) (by simp),e0.hok.kept hk,?_⟩
 ·exact name_of_addr x.apart (iP h1) (iP h2)
 ·have hy:scope.names.lookup y=some .cell∨scope.names.lookup y=some .free:=hy
  rcases hy with hy|hy
  ·exact Ji hy
  ·exact absurd rfl (S.nofree _ (iP hy))
 ·exact jB (x.above y c (iP h))
 ·have hi:i<vs.length:=by
   unfold start at h2
   by_cases hi:i<vs.length
   ·exact hi
   ·rw[dQ (by simpa using hi)] at h2
    rw[gw] at h2
    split at h2<;>cases h2
  have ha:vs[i]?=some v:=by
   unfold start at h2
   rw[eF (by simpa using hi),b9] at h2
   cases e:vs[i]? with
   |none=>rw[e] at h2;cases h2
   |some a=>rw[e] at h2;cases h2;rfl
  obtain⟨u,hu,rv⟩:=r.get ha
  have hp:ps[i]?=some y:=by
   rw[←S.pre,iL (by omega)];exact h1
  have ndP:ps.Nodup:=by rw[←S.pre];exact S.nd.sublist (kK _ _)
  refine⟨u,rv,?_⟩
  rcases S.par y (dj hp) with k|k
  ·exact .inl ⟨k,HU ndP hp hu k⟩
  ·obtain⟨c,e⟩:=Ji (n:=s.heap.objs.size+1) k
   refine .inr ⟨.inl k,c,e,?_⟩
   have q:=x.cell y c e
   rw[HV ndP hp hu (by show scope.names.lookup y≠_;rw[k];decide)] at q
   exact q
 ·exact e0.hok.fresh (jB (x.above y c (iP h)))
 ·unfold start
  show _=N.length
  rw[dz,c9,fQ]
  omega
theorem Yh{CX:PX}{P:Program}{w:World}{K:b5}{mg:Str→Option Value}{base:Heap}{k:Nat}{f:Addr}{name qual:Str}{params:Arguments}{body:List Stmt}{scope:Scope}{dV kV doc pm cdv ct oc:Value}{an od:Option Addr}
  {osl:Array (Option Value)} {N ps:List Str} {sp:Sp} (lk:K.lookup f=some ⟨oc,od,.func (jh name qual params body scope dV kV doc pm an cdv ct),osl⟩) (hcd:lP K cdv qual=true) (S:FnScope N ps scope)
  (len:∀vs H Q E,sp vs H Q E→vs.length=ps.length)
  (hbody:∀(A:dH) (outer:List Env) (s:b6) (H:Hp) (vs:List V) (Q:VK) (E:XK),Room k (A.deeper (je qual scope s.heap.objs.size f cdv))→sp vs H Q E→
   ∃t,PSs (Bv CX P w K mg base N qual scope f cdv A outer s H E) body t∧t {nx:=fun _ H'=>Q .non H',rt:=Q} (start N vs) H):
  FnOk P w K mg base CX (k+1) f (jh name qual params body scope dV kV doc pm an cdv ct) ps sp:=by
 refine⟨len,fun A outer s H args us vs Q E hr e0 hb r hsp=>?_⟩
 have hl:=len _ _ _ _ hsp
 have KX:K.In s.heap:=e0.mod.kin.keeps fun b o e=> (e0.bs b o e).1
 have lim:s.heap.NoLimit:=e0.mod.nolimit.keeps fun b o e=> (e0.bs b o e).1
 have hkind:∀y∈ps.zip us,scope.names.lookup y.1=some .local∨(scope.names.lookup y.1=some .cell∧((gj (s.heap.objs.size+1) scope.names []).lookup y.1).isSome=true):=fun⟨n,v⟩ hy=>by
  rcases S.par n (lD hy).1 with q|q
  ·exact .inl q
  ·exact .inr ⟨q,PySem.W.cellsFrom_some _ _ _ (.inl q)⟩
 refine codeAny_call_function hr.depth (KX _ _ lk) rfl S.co S.gen rfl (PySem.W.codeRec_of KX hcd) (hb _ _ _ _ ?_)
 refine wpAny_newFunctionEnv_cells S.kind hkind fun env he s1 x=>?_
 subst he
 refine⟨lim.keeps x.toInCall.keep,codeAny_func ?_⟩
 obtain⟨t,ht,hq⟩:=hbody A outer s H vs Q E (hr.deeper _) hsp
 have I:Inv (Bv CX P w K mg base N qual scope f cdv A outer s H E) [] (start N vs) H s1:=OA S hr.hd e0 hl r x
 refine iK (ht [] s1 (start N vs) H _ I hq) (fun fl s' hs=>?_) fun e s' hs=>hs
 have fin:∀{σ':St} {H':Hp} {v:V} {u:Value},Inv (Bv CX P w K mg base N qual scope f cdv A outer s H E) [] σ' H' s'→RelV v u→Q v H'→CE outer P w H s Q u s':=
  fun{σ' H' v u} J rv q=> ⟨v,H',J.os,J.bare,J.base,J.hok,rv,q⟩
 cases fl with
 |ret u=>
  obtain⟨v,σ',H',J,rv,q⟩:=hs
  exact fin J rv q
 |next=>
  obtain⟨σ',H',J,q⟩:=hs
  exact fin (v:=V.non) (u:=js) J rfl q
 |brk=>
  obtain⟨_,_,_,q⟩:=hs
  exact iM q
 |cont=>
  obtain⟨_,_,_,q⟩:=hs
  exact iM q
section
variable{X:Cx}{x:Str}{p pos:Pos}{e:Expr}{es:List Expr}{t:TA}{id T:String}{r:List V→Hp→VK→Prop}
def br(r:List V→Hp→VK→Prop)(t:TA):TE:=fun σ H Q=>t σ H fun vs H1=>r vs H1 Q
theorem Fu(hc:BD X (.builtin id) r)(hg:Gl X x)(hm:X.mg x=none)(hv:eC x=some (.builtin id))(ha:PA X (e::es) t)(hn:x≠"__name__":=by decide)(hdb:(x==("__debug__" :Str))=false:=by decide)
  (he:df (e::es) X.env=(false,eval e X.env)::df es X.env:=by rfl) (hpl:(gU pos (df es X.env)).any (·.1)=false:=by rfl):PE X (.Call (.Name x p) (e::es) [] pos) (br r t):=by
 intro pins s σ H Q I h
 refine iX (Cw I hg hm hv ?_ hn hdb)
 exact PyProof.Rows.callWith_builtin1 (Ay (ha pos pins s σ H _ I h) fun us s1 ⟨vs,H1,I1,r1,q1⟩=>hc pins s1 σ H1 vs us Q I1 r1 q1) he hpl
theorem HW(hc:BD X (.type T) r)(hg:Gl X x)(hm:X.mg x=none)(hv:eC x=some (.type T))(ha:PA X (e::es) t)(hn:x≠"__name__":=by decide)(hdb:(x==("__debug__" :Str))=false:=by decide)
  (he:df (e::es) X.env=(false,eval e X.env)::df es X.env:=by rfl) (hpl:(gU pos (df es X.env)).any (·.1)=false:=by rfl):PE X (.Call (.Name x p) (e::es) [] pos) (br r t):=by
 intro pins s σ H Q I h
 refine iX (Cw I hg hm hv ?_ hn hdb)
 exact g0 (Ay (ha pos pins s σ H _ I h) fun us s1 ⟨vs,H1,I1,r1,q1⟩=>hc pins s1 σ H1 vs us Q I1 r1 q1) he hpl
end
end L2
namespace HT
open PySem PyProof.Rows
section
open PySem.SeqAt
open PySem.AutoSeq1 (wpAny_loadPart')
open PySem.MeetsSeq PySem.MeetsSeq2 PySem.MeetsSeq3
end
section
variable{prog:Program}{w:World}{A:dH}{E:Value→b6→Prop}{s:b6}
def BG(n d:Nat):Option Int→Nat
 |none=>d
 |some v=>if v<0 then(v+(n:Int)).toNat else min v.toNat n
theorem Jj(n d:Nat):BG n d none=d:=rfl
theorem Mp(n d k:Nat):BG n d (some (k:Int))=min k n:=by
 show(if(k:Int)<0 then((k:Int)+(n:Int)).toNat else min (k:Int).toNat n)=min k n
 rw[if_neg (by omega),eE]
theorem WK(n d:Nat)(hd:d≤n)(o:Option Int):BG n d o≤n:=by
 cases o with
 |none=>exact hd
 |some v=>
  show(if v<0 then(v+(n:Int)).toNat else min v.toNat n)≤n
  by_cases hv:v<0
  ·rw[if_pos hv];omega
  ·rw[if_neg hv];exact Nat.min_le_right _ _
theorem Mq(v:Int)(n d:Nat):(if v<0 then max (v+(n:Int)) 0 else min v (n:Int))=((BG n d (some v):Nat):Int):=by
 show(if v<0 then max (v+(n:Int)) 0 else min v (n:Int))=(((if v<0 then(v+(n:Int)).toNat else min v.toNat n):Nat):Int)
 by_cases hv:v<0
 ·simp only[if_pos hv];omega
 ·simp only[if_neg hv];omega
theorem LD(lo hi:Option Int)(n:Nat):ji lo hi 1 (n:Int)=(((BG n 0 lo:Nat):Int),((BG n n hi:Nat):Int)):=by
 have h1:¬((1:Int)<0):=by omega
 unfold ji
 simp only[h1,if_false]
 refine fK ?_ ?_
 ·cases lo with
  |none=>rfl
  |some v=>exact Mq v n 0
 ·cases hi with
  |none=>rfl
  |some v=>exact Mq v n n
theorem LF(i j:Nat):iA (i:Int) (j:Int) 1=j-i:=by
 unfold iA
 have h1:(1:Int)>0:=by omega
 simp only[h1,if_true,Int.ediv_one]
 split<;>omega
theorem Fv{v:Value}{o:Option Int}{Q:Option Int→b6→Prop}(p:lu v o)(h:Q o s):wpAny (model prog w) A (Builtin.Slice.slicePartIndex v) Q E s:=by
 cases p with
 |none=>exact slicePart_none h
 |int i t=>exact slicePart_int h
theorem CB{sl:Addr}{vl vu:Value}{lo hi:Option Int}{n:Nat}{Q:Int×Int×Nat→b6→Prop}(hs:s.heap.IsSliceOf sl vl vu .none)(pl:lu vl lo)(pu:lu vu hi)
  (h:Q (((BG n 0 lo:Nat):Int),1,BG n n hi-BG n 0 lo) s):wpAny (model prog w) A (Builtin.Slice.sliceApplied (.ref sl) (pure (n:Int))) Q E s:=by
 obtain⟨os,hos,hcs,hds⟩:=id hs
 unfold Builtin.Slice.sliceApplied Builtin.Slice.sliceFields
 refine b4 (b4 (mW hos hds (x:=vl) rfl (b4 (mW hos hds (x:=vu) rfl (b4 (mW hos hds (x:=.none) rfl (b7 ?_)))))))
 refine b4 (slicePart_none ?_)
 show wpAny _ _ (if((1:Int)==0)=true then _ else _) _ _ s
 rw[if_neg (by decide)]
 refine b4 (Fv pl (b4 (Fv pu (b4 (b7 ?_)))))
 show wpAny _ _ (match ji lo hi 1 (n:Int) with| (lo,hi)=>pure (lo,(1:Int),iA lo hi 1)) _ _ s
 rw[LD lo hi n]
 show wpAny _ _ (pure (((BG n 0 lo:Nat):Int),(1:Int),iA ((BG n 0 lo:Nat):Int) ((BG n n hi:Nat):Int) 1)) _ _ s
 rw[LF]
 exact b7 h
theorem PY(xs:Array Value)(i k:Nat):((dE k).filterMap fun(m:Nat)=>xs[((i:Int)+(m:Int)*1).toNat]?).toArray=((xs.toList.drop i).take k).toArray:=by
 have e:(fun(m:Nat)=>xs[((i:Int)+(m:Int)*1).toNat]?)=fun m=>xs[i+m]?:=by
  funext m
  have:((i:Int)+(m:Int)*1).toNat=i+m:=by omega
  rw[this]
 rw[e]
 have:=pick_run xs i k
 rw[List.filterMap_map] at this
 have e2:((fun x=>xs[x]?)∘fun x=>i+x)=fun m=>xs[i+m]?:=rfl
 rw[e2] at this
 rw[this]
theorem Dt{t sl:Addr}{items:Array Value}{vl vu:Value}{lo hi:Option Int}{Q:Value→b6→Prop}(ht:IsTup s.heap t items)(hs:s.heap.IsSliceOf sl vl vu .none)(pl:lu vl lo)(pu:lu vu hi)
  (hw:¬(BG items.size 0 lo=0∧BG items.size items.size hi=items.size))
  (h:Q (.ref s.heap.objs.size) {s with heap:=s.heap.push {cls:=.type "tuple",data:=.seq ((items.toList.drop (BG items.size 0 lo)).take (BG items.size items.size hi-BG items.size 0 lo)).toArray}})
  (hsz:items.size≤sizeLine):wpAny (model prog w) A (lY (.ref t) (.ref sl)) Q E s:=by
 have htake:sizeOk (.seq ((items.toList.drop (BG items.size 0 lo)).take (BG items.size items.size hi-BG items.size 0 lo)).toArray):=by
  show((items.toList.drop (BG items.size 0 lo)).take (BG items.size items.size hi-BG items.size 0 lo)).toArray.size≤sizeLine
  rw[dv,eH,ie,dr]
  omega
 have hj:BG items.size items.size hi≤items.size:=WK _ _ (dm _) hi
 obtain⟨os,hos,hcs,hds⟩:=id hs
 have hTs:s.TypeIs (.ref sl) "slice":=⟨os,hos,hcs⟩
 unfold lY
 try with_reducible refine ef ?_
 first|refine b4 (b7 ?_)|skip
 refine b4 (wpAny_sequenceKey ht.typeIs (by decide) ?_)
 refine b4 (iS (name:=lg "__getitem__") ht.typeIs fq
  (gq fq ht.typeIs entry_tuple_getitem ?_ (args_tuple_getitem _ _)))
 show wpAny _ _ (Builtin.Tuple.tupleItemsOf (.ref t)>>=_) _ _ s
 refine b4 (tupleItemsOf_ ht ?_)
 refine b4 (j5 hTs ?_)
 rw[if_pos (by decide)]
 refine b4 (CB hs pl pu ?_)
 have hno:¬((((BG items.size 0 lo:Nat):Int)==0&&(1:Int)==1&&(BG items.size items.size hi-BG items.size 0 lo)==items.size)=true):=by
  intro q
  rw[gO,gO] at q
  have q1:((BG items.size 0 lo:Nat):Int)=0:=eq_of_beq q.1.1
  have q2:BG items.size items.size hi-BG items.size 0 lo=items.size:=eq_of_beq q.2
  exact hw ⟨by omega,by omega⟩
 show wpAny _ _ (if(((BG items.size 0 lo:Nat):Int)==0&&(1:Int)==1&&(BG items.size items.size hi-BG items.size 0 lo)==items.size)=true then _ else _) _ _ s
 rw[if_neg hno,PY]
 first
  |exact b4 (m:=iN _) (fS (b7 ⟨_,rfl,b7 h⟩) htake)
  |exact b4 (m:=iN _) (fS (b4 (b7 (b7 ⟨_,rfl,b7 h⟩))) htake)
  |exact b4 (b4 (m:=iN _) (fS (b7 (b7 ⟨_,rfl,b7 h⟩)) htake))
  |exact b4 (b4 (m:=iN _) (fS (b7 ⟨_,rfl,b7 h⟩) htake))
end
end HT
namespace L2
open PySem PySem.Spec PyProof.Rows
abbrev TO:=St→Hp→(Option Int→Hp→Prop)→Prop
def PO(X:Cx)(e:Option Expr)(t:TO):Prop:=
 ∀(pins:List (Addr×Obj)) (s:b6) (σ:St) (H:Hp) (Q:Option Int→Hp→Prop),Inv X pins σ H s→t σ H Q→
  wpAny (model X.prog X.w) X.A (evalPart e X.env) (fun u s'=>∃o H',Inv X pins σ H' s'∧lu u o∧Q o H') X.xe s
def Sj:TO:=fun _ H Q=>Q none H
def Yi(t:TE):TO:=fun σ H Q=>t σ H fun x H1=>∃i,x=.int i∧Q (some i) H1
theorem Fw{ns:List Int}:∀{us:List Value},Vals (ns.map V.int) us→j9 us ns:=by
 induction ns with
 |nil=>intro us r;rw[j8] at r;cases r;exact .nil
 |cons n ns ih=>
  intro us r
  rw[dM] at r
  cases r with
  |cons r1 r2=>
   obtain⟨t,e⟩:=r1
   subst e
   exact .cons n t (ih r2)
section
variable{X:Cx}{e:Expr}{te:TE}{lo hi:Option Expr}{tl th:TO}{pos p2:Pos}
theorem Mr:PO X none Sj:=by
 intro pins s σ H Q I h
 rw[evalPart_none]
 exact b7 ⟨none,H,I,.none,h⟩
theorem FX(h:PE X e te):PO X (some e) (Yi te):=by
 intro pins s σ H Q I hw
 rw[evalPart_some]
 refine Ay (h pins s σ H _ I hw) fun u s1 ⟨x,H1,I1,r1,q1⟩=>?_
 obtain⟨i,rfl,q⟩:=q1
 obtain⟨t,rfl⟩:=r1
 exact⟨some i,H1,I1,.int i t,q⟩
def aW(X:Cx)(r:V→Option Int→Option Int→Hp→VK→Prop):Prop:=
 ∀(pins:List (Addr×Obj)) (s:b6) (σ:St) (H:Hp) (x:V) (v vl vu:Value) (lo hi:Option Int) (sl:Addr) (Q:VK),Inv X pins σ H s→RelV x v→s.heap.IsSliceOf sl vl vu .none→lu vl lo→lu vu hi→r x lo hi H Q→
  ∃T id,typeLookup (.type T) "__getitem__" =pure (some (.builtin id))∧s.TypeIs v T∧wpAny (model X.prog X.w) X.A (lY v (.ref sl)) (EP X pins σ Q) X.xe s
def cL(r:V→Option Int→Option Int→Hp→VK→Prop)(te:TE)(tl th:TO):TE:=fun σ H Q=>te σ H fun x H1=>tl σ H1 fun l H2=>th σ H2 fun u H3=>r x l u H3 Q
theorem Fy{r:V→Option Int→Option Int→Hp→VK→Prop}(hr:aW X r)(he:PE X e te)(hl:PO X lo tl)(hu:PO X hi th):PE X (.Subscript e (.Slice lo hi none p2) pos) (cL r te tl th):=by
 intro pins s σ H Q I h
 refine Subscript_ (Ay (he pins s σ H _ I h) fun v s1 ⟨x,H1,I1,r1,q1⟩=>?_)
 refine wpAny_Slice (Ay (hl pins s1 σ H1 _ I1 q1) fun vl s2 ⟨l,H2,I2,pl,q2⟩=>Ay (hu pins s2 σ H2 _ I2 q2) fun vu s3 ⟨u,H3,I3,pu,q3⟩=>?_)
 rw[evalPart_none]
 refine b7 ?_
 have I4:Inv X pins σ H3 {s3 with heap:=s3.heap.push {cls:=.type "slice",data:=.fields #[vl,vu,.none]}}:=I3.kept (t':=s3.toks) fun b ob q=>da _ q
 obtain⟨T,id,hT,ht,hg⟩:=hr pins {s3 with heap:=s3.heap.push {cls:=.type "slice",data:=.fields #[vl,vu,.none]}} σ H3 x v vl vu l u s3.heap.objs.size Q I4 r1 (Heap.IsSliceOf.new ..) pl pu q3
 show wpAny (model X.prog X.w) X.A (subscriptTail e (.Slice lo hi none p2) v (.ref s3.heap.objs.size)) (EP X pins σ Q) X.xe {s3 with heap:=s3.heap.push {cls:=.type "slice",data:=.fields #[vl,vu,.none]}}
 exact tail_any (ops:=[.ref s3.heap.objs.size,v]) ht hT hg (by with_unfolding_all rfl)
def Eh(xs:List V)(lo hi:Option Int):List V:=(xs.drop (HT.BG xs.length 0 lo)).take (HT.BG xs.length xs.length hi-HT.BG xs.length 0 lo)
theorem FJ(xs:List V)(lo hi:Option Int):(Eh xs lo hi).length≤xs.length:=by
 unfold Eh
 rw[eH,ie]
 omega
def bF(K:b5):V→Option Int→Option Int→Hp→VK→Prop:=fun x lo hi H Q=>∃a xs,x=.ref a∧II K H a xs∧
 ¬(HT.BG xs.length 0 lo=0∧HT.BG xs.length xs.length hi=xs.length)∧∀p,H p=none→Q (.ref p) (upd H p (.tup (Eh xs lo hi)))
theorem WL:aW X (bF X.K):=by
 intro pins s σ H x v vl vu lo hi sl Q I rx hs pl pu h
 obtain⟨a,xs,rfl,hx,hw,q⟩:=h
 cases rx
 obtain⟨its,r,ht,hz⟩:=I.tuple hx
 have hlen:its.toArray.size=xs.length:=by rw[dv];exact r.length.symm
 refine⟨"tuple",_,fq.lookup,ht.typeIs,?_⟩
 refine HT.Dt ht hs pl pu (by rw[hlen];exact hw) ?_ (by rw[hlen];exact hz)
 rw[hlen]
 refine⟨.ref s.heap.objs.size,_,I.laid (t':=s.toks) (o:=.tup (Eh xs lo hi)) (fun b ob q=>da _ q) (dm _) ?_,rfl,q _ (I.hok.fresh (dm _))⟩
 exact⟨fI (FJ xs lo hi) hz,_,(r.drop (HT.BG xs.length 0 lo)).take (HT.BG xs.length xs.length hi-HT.BG xs.length 0 lo),IsTup.new _ _⟩
end
def PZ(n:Nat)(i:Int):Option Nat:=if 0≤i then(if i<n then some i.toNat else none) else if-(n:Int)≤i then some (i+n).toNat else none
def atI{α:Type}(xs:List α)(i:Int):Option α:=(PZ xs.length i).bind fun j=>xs[j]?
theorem Ms{n:Nat}{i:Int}{j:Nat}(h:PZ n i=some j):seqIndex? i n=some j∧j<n∧-(n:Int)≤i∧i<n:=by
 unfold PZ at h
 by_cases h0:0≤i
 ·rw[if_pos h0] at h
  by_cases h1:i<n
  ·rw[if_pos h1] at h
   have e:i.toNat=j:=dW.inj h
   exact⟨by rw[mX h0 h1,e],by omega,by omega,h1⟩
  ·rw[if_neg h1] at h;cases h
 ·rw[if_neg h0] at h
  by_cases h1: -(n:Int)≤i
  ·rw[if_pos h1] at h
   have e:(i+n).toNat=j:=dW.inj h
   exact⟨by rw[seqIndex_neg (by omega) h1,e],by omega,h1,by omega⟩
  ·rw[if_neg h1] at h;cases h
theorem Mt{α:Type}{xs:List α}{i:Int}{v:α}(h:atI xs i=some v):∃j,seqIndex? i xs.length=some j∧xs[j]?=some v∧j<xs.length∧-(xs.length:Int)≤i∧i<xs.length:=by
 unfold atI at h
 cases e:PZ xs.length i with
 |none=>rw[e] at h;cases h
 |some j=>
  rw[e] at h
  obtain⟨h1,h2,h3,h4⟩:=Ms e
  exact⟨j,h1,h,h2,h3,h4⟩
theorem BJ{α:Type}{xs:List α}{j:Nat}{v:α}(h:xs[j]?=some v):atI xs (j:Int)=some v:=by
 have hj:j<xs.length:=(dt.mp h).1
 have e:PZ xs.length (j:Int)=some j:=by
  unfold PZ
  rw[if_pos (by omega),if_pos (by omega)];simp
 unfold atI;rw[e];exact h
def DQ(b:Expr):Prop:=∀o i,subscripted b false o i=operate [o,i] (lY o i)
def Yj(X:Cx)(r:R2):Prop:=
 ∀(value slice:Expr) (pins:List (Addr×Obj)) (s:b6) (σ:St) (H:Hp) (x y:V) (v u:Value) (Q:VK),Inv X pins σ H s→RelV x v→RelV y u→r x y H Q→
  subscripted slice false v u=operate [v,u] (lY v u)→wpAny (model X.prog X.w) X.A (subscriptTail value slice v u) (EP X pins σ Q) X.xe s
def bu(X:Cx)(id:String)(r:V→List V→Hp→VK→Prop):Prop:=
 ∀(pins:List (Addr×Obj)) (s:b6) (σ:St) (H:Hp) (x:V) (xs:List V) (v:Value) (us:List Value) (Q:VK),Inv X pins σ H s→RelV x v→Vals xs us→r x xs H Q→
  wpAny (model X.prog X.w) X.A (call (.builtin id) (v::us)) (EP X pins σ Q) X.xe s
section
variable{X:Cx}{a b:Expr}{ta tb:TE}{pos:Pos}
theorem Uv{r:R2}(hr:Yj X r)(ha:PE X a ta)(hb:PE X b tb)(hs:DQ b):PE X (.Subscript a b pos) (YV r ta tb):=by
 intro pins s σ H Q I h
 exact Subscript_ (Vv ha hb I h fun v u s2 x y H2 I2 rx ry q=>hr a b pins s2 σ H2 x y v u Q I2 rx ry q (hs _ _))
def WM(K:b5):R2:=fun x y H Q=>∃p xs i v,x=.ref p∧y=.int i∧Cr K H p xs∧atI xs i=some v∧Q v H
def Yk(K:b5):R2:=fun x y H Q=>∃p xs i v,x=.ref p∧y=.int i∧II K H p xs∧atI xs i=some v∧Q v H
theorem Du:Yj X (WM X.K):=by
 intro value slice pins s σ H x y v u Q I rx ry h hs
 obtain⟨p,xs,i,z,rfl,rfl,hq,he,q⟩:=h
 cases rx
 obtain⟨t,rfl⟩:=ry
 obtain⟨its,r,pl,hz⟩:=I.list hq
 obtain⟨j,h1,h2,h3,h4,h5⟩:=Mt he
 obtain⟨w,ew,rw'⟩:=r.get h2
 have hl:=r.length
 have hn:=Ft
 have fin:EP X pins σ Q w s:=⟨z,H,I,rw',q⟩
 by_cases h0:0≤i
 ·have hj:i.toNat=j:=by
   rw[mX h0 h5] at h1
   exact dW.inj h1
  exact item_listR pl.isList h0 (by omega) (by rw[hj];simpa using ew) fin hs
 ·have hj:(i+(its.toArray.size:Int)).toNat=j:=by
   rw[seqIndex_neg (by omega) h4] at h1
   rw[dv,←hl]
   exact dW.inj h1
  exact subscriptTail_builtinR (x:=w) pl.isList.typeIs slot_list_getitem.lookup
   (wpAny_getItem_list_neg (Q:=fun r s'=>r=w∧EP X pins σ Q r s') pl.isList (by omega) (by rw[dv]<;>omega) (by omega) (by rw[hj];simpa using ew) ⟨rfl,fin⟩) hs
theorem WN:Yj X (Yk X.K):=by
 intro value slice pins s σ H x y v u Q I rx ry h hs
 obtain⟨p,xs,i,z,rfl,rfl,hq,he,q⟩:=h
 cases rx
 obtain⟨t,rfl⟩:=ry
 obtain⟨its,r,pl,hz⟩:=I.tuple hq
 obtain⟨j,h1,h2,h3,h4,h5⟩:=Mt he
 obtain⟨w,ew,rw'⟩:=r.get h2
 have hl:=r.length
 have hn:=Ft
 have fin:EP X pins σ Q w s:=⟨z,H,I,rw',q⟩
 exact subscriptTail_builtinR (x:=w) pl.typeIs slot_tuple_getitem.lookup
  (getItem_tuple (j:=j) (Q:=fun r s'=>r=w∧EP X pins σ Q r s') pl (by omega) (by omega) (by rw[dv,←hl];exact h1) (by simpa using ew) ⟨rfl,fin⟩) hs
theorem LG(its:List Value)(n j:Nat)(u:Value):fV (·.setIfInBounds j u) {cls:=.type "list",data:=.seq its.toArray n}={cls:=.type "list",data:=.seq (its.set j u).toArray n}:=by
 simp[fV]
theorem Inv.lst{pins:List (Addr×Obj)}{σ:St}{H:Hp}{s:b6}{p:Addr}{xs:List V}(I:Inv X pins σ H s)(h:H p=some (.lst xs)):
  ∃(its:List Value) (n:Nat),Vals xs its∧s.heap.get? p=some {cls:=.type "list",data:=.seq its.toArray n}∧xs.length≤sizeLine:=by
 obtain⟨z,its,n,r,e⟩:=I.hok p _ h
 exact⟨its,n,r,e,z⟩
theorem Inv.lstUpd{pins:List (Addr×Obj)}{σ:St}{H:Hp}{s:b6}{p:Addr}{xs ys:List V}{its its':List Value}{n n':Nat}{f:Obj→Obj}(I:Inv X pins σ H s)(h:H p=some (.lst xs))
  (ho:s.heap.get? p=some {cls:=.type "list",data:=.seq its.toArray n}) (hf:f {cls:=.type "list",data:=.seq its.toArray n}={cls:=.type "list",data:=.seq its'.toArray n'}) (r:Vals ys its') (hz:ys.length≤sizeLine) (t:Nat):
  Inv X pins σ (upd H p (.lst ys)) {s with heap:=s.heap.update p f,toks:=t}:=by
 have e:(s.heap.update p f).get? p=some {cls:=.type "list",data:=.seq its'.toArray n'}:=by
  rw[gK f ho (by rw[hf]<;>rfl),hf]
 refine I.write (x:=p) (e:=p) (by rw[h];trivial) (.inl rfl) (fun b u hb q=> (eQ _ _ (Ne.symm hb)).trans q) ⟨_,e⟩ ?_
 exact⟨hz,its',n',r,e⟩
def Yl:V→V→V→Hp→(Hp→Prop)→Prop:=fun o i v H Q=>∃p xs k j,o=.ref p∧i=.int k∧H p=some (.lst xs)∧PZ xs.length k=some j∧Q (upd H p (.lst (xs.set j v)))
theorem Pa:YM X Yl:=by
 intro pins s σ H o i v ov iv u Q I ro ri rv h
 obtain⟨p,xs,k,j,rfl,rfl,hp,hj,q⟩:=h
 cases ro
 obtain⟨t,rfl⟩:=ri
 obtain⟨its,n,r,ho,hz⟩:=I.lst hp
 obtain⟨h1,h2,h3,h4⟩:=Ms hj
 have hl:=r.length
 have hn:=Ft
 have I':Inv X pins σ (upd H p (.lst (xs.set j v))) {s with heap:=s.heap.update p (fV (·.setIfInBounds j u))}:=
  I.lstUpd hp ho (LG its n j u) (r.set rv j) (by rw[iC];exact hz) s.toks
 by_cases h0:0≤k
 ·have hk:k.toNat=j:=by
   rw[mX h0 h4] at h1
   exact dW.inj h1
  exact PySem.W.ki_setAt ho h0 (by omega) (by rw[dv,←hl];exact h4) (by rw[hk];exact⟨_,I',q⟩)
 ·have hk:(k+(its.toArray.size:Int)).toNat=j:=by
   rw[seqIndex_neg (by omega) h3] at h1
   rw[dv,←hl]
   exact dW.inj h1
  exact PySem.W.ki_setBack ho (by omega) (by rw[dv,←hl];exact h3) (by omega) (by rw[hk];exact⟨_,I',q⟩)
theorem IP(lo hi:Option Int)(n:Nat):(jw lo hi none n).1=((HT.BG n 0 lo:Nat):Int)∧(jw lo hi none n).2.1=((HT.BG n n hi:Nat):Int)∧(jw lo hi none n).2.2=1:=by
 refine⟨?_,?_,rfl⟩
 ·cases lo with
  |none=>simp[jw,HT.BG]
  |some i=>
   simp only[jw,HT.BG,Option.getD_none,show(1:Int)>0 by decide,if_true]
   by_cases h:i<0
   ·simp only[h,if_true]<;>omega
   ·simp only[h,if_false]<;>omega
 ·cases hi with
  |none=>simp[jw,HT.BG]
  |some i=>
   simp only[jw,HT.BG,Option.getD_none,show(1:Int)>0 by decide,if_true]
   by_cases h:i<0
   ·simp only[h,if_true]<;>omega
   ·simp only[h,if_false]<;>omega
theorem HF(its:List Value)(lo hi:Option Int):slicePick its.toArray lo hi none=((its.drop (HT.BG its.length 0 lo)).take (HT.BG its.length its.length hi-HT.BG its.length 0 lo)).toArray:=by
 obtain⟨h1,h2,h3⟩:=IP lo hi its.toArray.size
 unfold slicePick
 rw[h1,h2,h3]
 simp only[sliceRange_one,pick_run,dv]<;>rfl
def bG(K:b5):V→Option Int→Option Int→Hp→VK→Prop:=fun x lo hi H Q=>∃a xs,x=.ref a∧Cr K H a xs∧∀p,H p=none→Q (.ref p) (upd H p (.lst (Eh xs lo hi)))
theorem Mu:aW X (bG X.K):=by
 intro pins s σ H x v vl vu lo hi sl Q I rx hs pl pu h
 obtain⟨a,xs,rfl,hx,q⟩:=h
 cases rx
 obtain⟨its,r,ht,hz⟩:=I.list hx
 have hlen:=r.length
 refine⟨"list",_,slot_list_getitem.lookup,ht.isList.typeIs,?_⟩
 refine wpAny_getItem_list_slice ht.isList hs pl pu .none (by simp) ?_ (by rw[dv]<;>omega)
 rw[HF,←hlen]
 refine⟨.ref s.heap.objs.size,_,I.laid (t':=s.toks) (o:=.lst (Eh xs lo hi)) (fun b ob q=>da _ q) (dm _) ?_,rfl,q _ (I.hok.fresh (dm _))⟩
 exact⟨fI (FJ xs lo hi) hz,_,0,(r.drop (HT.BG xs.length 0 lo)).take (HT.BG xs.length xs.length hi-HT.BG xs.length 0 lo),dF _ rfl⟩
def Fz:V→Bool
 | .non=>true
 | .bl _=>true
 | .int _=>true
 | .str _=>true
 |_=>false
def SR:V→V→Bool
 | .non,.non=>true
 | .bl a,.bl b=>a==b
 | .bl a,.int b=> (if a then 1 else 0)==b
 | .int a,.bl b=>a==(if b then 1 else 0)
 | .int a,.int b=>a==b
 | .str a,.str b=>a==b
 |_,_=>false
theorem WO{A:dH}{s:b6}{y x:V}{u v:Value}(ry:RelV y u)(rx:RelV x v)(fy:Fz y=true)(fx:Fz x=true):fF A s u v (SR y x):=by
 cases y with
 |non=>
  cases ry
  cases x with
  |non=>cases rx;exact fF.same _
  |bl b=>cases rx;exact fF.none_bool b
  |int b=>obtain⟨t,rfl⟩:=rx;exact fF.none_int b t
  |str b=>obtain⟨t,rfl⟩:=rx;exact fF.none_str b t
  |_=>exact absurd (show false=true from fx) dc
 |bl a=>
  cases ry
  cases x with
  |non=>cases rx;exact fF.bool_none a
  |bl b=>cases rx;exact fF.bool_bool a b
  |int b=>obtain⟨t,rfl⟩:=rx;exact fF.bool_int a b t
  |str b=>obtain⟨t,rfl⟩:=rx;exact fF.bool_str a b t
  |_=>exact absurd (show false=true from fx) dc
 |int a=>
  obtain⟨t',rfl⟩:=ry
  cases x with
  |non=>cases rx;exact fF.int_none a t'
  |bl b=>cases rx;exact fF.int_bool a t' b
  |int b=>obtain⟨t,rfl⟩:=rx;exact fF.int_int a t' b t
  |str b=>obtain⟨t,rfl⟩:=rx;exact fF.int_str a t' b t
  |_=>exact absurd (show false=true from fx) dc
 |str a=>
  obtain⟨t',rfl⟩:=ry
  cases x with
  |non=>cases rx;exact fF.str_none a t'
  |bl b=>cases rx;exact fF.str_bool a t' b
  |int b=>obtain⟨t,rfl⟩:=rx;exact fF.str_int a t' b t
  |str b=>obtain⟨t,rfl⟩:=rx;exact fF.str_str a t' b t
  |_=>exact absurd (show false=true from fx) dc
 |_=>exact absurd (show false=true from fy) dc
theorem CM:BD X (.builtin "len") (fun xs H Q=>∃p ys,xs=[.ref p]∧(Cr X.K H p ys∨II X.K H p ys)∧Q (.int ys.length) H):=by
 intro pins s σ H xs us Q I r h
 obtain⟨p,ys,rfl,hq,q⟩:=h
 obtain⟨u,rfl,rx⟩:=De r
 cases rx
 have hn:=Ft
 rcases hq with hq|hq
 ·obtain⟨its,r',pl,hz⟩:=I.list hq
  have hlen:=r'.length
  exact Calls.call_len_list pl.isList (by simp only[dv]<;>omega) ⟨.int ys.length,H,I.tok _,⟨s.toks+1,by rw[dv,hlen]⟩,q⟩
 ·obtain⟨its,r',pl,hz⟩:=I.tuple hq
  have hlen:=r'.length
  exact len_tuple pl (by simp only[dv]<;>omega) ⟨.int ys.length,H,I.tok _,⟨s.toks+1,by rw[dv,hlen]⟩,q⟩
def bH(K:b5)(T:String)(x:V)(H:Hp):Prop:=match x with
 | .str _=>T= "str"
 | .int _=>T= "int"
 | .ref p=> (T= "list"∧∃xs,Cr K H p xs)∨(T= "tuple"∧∃o,K.lookup p=some o∧o.cls=.type "tuple"∧o.dict=none)∨
   (T= "dict"∧((∃kvs,H p=some (.dK kvs))∨∃kvs,H p=some (.dT kvs)))∨(T= "set"∧∃S n,H p=some (.set S n))
 |_=>False
theorem WQ{pins:List (Addr×Obj)}{σ:St}{H:Hp}{s:b6}{T:String}{x:V}{v:Value}(I:Inv X pins σ H s)(r:RelV x v)(ty:bH X.K T x H):
  s.TypeIs v T∧∀a,v=.ref a→∃ob,s.heap.get? a=some ob∧ob.dict=none:=by
 cases x with
 |str z=>
  obtain⟨t,rfl⟩:=r
  cases(show T= "str" from ty)
  exact⟨typeIs_str s z t,fun _ e=>nomatch e⟩
 |int i=>
  obtain⟨t,rfl⟩:=r
  cases(show T= "int" from ty)
  exact⟨typeIs_int s i t,fun _ e=>nomatch e⟩
 |ref p=>
  cases r
  rcases ty with⟨rfl,xs,hq⟩| ⟨rfl,o,hk,hc,hd⟩| ⟨rfl,hk⟩| ⟨rfl,S,n,hk⟩
  ·obtain⟨its,_,pl,_⟩:=I.list hq
   refine⟨pl.isList.typeIs,fun a e=>?_⟩
   cases e
   obtain⟨o,n,e,c,hd,_⟩:=pl
   exact⟨o,e,hd⟩
  ·refine⟨⟨o,I.kIn p o hk,hc⟩,fun a e=>?_⟩
   cases e
   exact⟨o,I.kIn _ o hk,hd⟩
  ·have z:∃o,s.heap.get? p=some o∧o.ExactDict:=by
    rcases hk with⟨kvs,hk⟩| ⟨kvs,hk⟩
    ·obtain⟨_,_,_,_,o,_,_,e,ex,_⟩:=I.hok p _ hk
     exact⟨o,e,ex⟩
    ·obtain⟨_,_,_,_,o,_,_,e,ex,_⟩:=I.hok p _ hk
     exact⟨o,e,ex⟩
   obtain⟨o,e,ex⟩:=z
   refine⟨⟨o,e,ex.1⟩,fun a e2=>?_⟩
   cases e2
   exact⟨o,e,ex.2.1⟩
  ·obtain⟨o,_,_,_,e,ex,_⟩:=I.hok p _ hk
   refine⟨⟨o,e,ex.1⟩,fun a e2=>?_⟩
   cases e2
   exact⟨o,e,ex.2.1⟩
 |_=>exact iM ty
def cM(K:b5)(T:String)(r:V→List V→Hp→VK→Prop)(to:TE)(t:TA):TE:=fun σ H Q=>to σ H fun x H1=>bH K T x H1∧t σ H1 fun xs H2=>r x xs H2 Q
variable{o e:Expr}{es:List Expr}{to:TE}{t:TA}{name:Str}{apos cpos:Pos}{T id:String}{r:V→List V→Hp→VK→Prop}
theorem Ym(pa:PlainAttrs T)(slot:Slot T name id)(hty:typeOf (.builtin id)=pure (.type "method_descriptor"))(hm:bu X id r)(ho:PE X o to)(ha:PA X (e::es) t)
  (hbase:kO o name X.env (eval o X.env)=eval o X.env:=by rfl)
  (hfew:((gU cpos (df (e::es) X.env)).all (fun x=>!x.1)&&(nj cpos (lL [] X.env)).all (fun x=>x.1.isSome)
   &&decide ((e::es).length+([]:List kM).length+(if([]:List kM).isEmpty then 0 else 1)<30))=true:=by rfl)
  (hline:(apos.endLine==cpos.line)=true:=by rfl) (hs:df (e::es) X.env=(false,eval e X.env)::df es X.env:=by rfl) (hplain:(gU cpos (df es X.env)).any (·.1)=false:=by rfl):
  PE X (.Call (.Attribute o name apos) (e::es) [] cpos) (cM X.K T r to t):=by
 intro pins s σ H Q I h
 refine wpAny_Call_method_late hbase hfew hline rfl (Ay (ho pins s σ H _ I h) fun v s1 ⟨x,H1,I1,r1,ty,q1⟩=>?_)
 obtain⟨h1,h2⟩:=WQ I1 r1 ty
 refine⟨T,id,pa,slot,hty,h1,h2,?_⟩
 have hA:=ha cpos pins s1 σ H1 _ I1 q1
 rw[hs] at hA ⊢
 refine Calls.callWith_builtin (by show(false|| (gU cpos (df es X.env)).any (·.1))=false;rw[hplain]<;>rfl) (Calls.evalArgs_plain ?_)
 exact Ay hA fun us s2 ⟨vs,H2,I2,r2,q2⟩=>hm pins s2 σ H2 x vs v us Q I2 r1 r2 q2
end
def bw(X:Cx)(id:String)(r:V→List V→Hp→VK→Prop):Prop:=
 ∀(pins:List (Addr×Obj)) (s:b6) (σ:St) (H:Hp) (x:V) (xs:List V) (v:Value) (us:List Value) (Q:VK),Inv X pins σ H s→RelV x v→Vals xs us→r x xs H Q→
  wpAny (model X.prog X.w) X.A (call (.builtin id) (v::us)) (EP X pins σ Q) X.xe s
theorem Vals.one:∀{x:V} {us:List Value},Vals [x] us→∃u,us=[u]∧RelV x u
 |_,_,.cons r .nil=> ⟨_,rfl,r⟩
section
variable{X:Cx}{pins:List (Addr×Obj)}{σ:St}{H:Hp}{s:b6}{l b:Addr}{xs ys zs:List V}
theorem Inv.lset{its its':List Value}{n:Nat}{f:Array Value→Array Value}{t':Nat}(I:Inv X pins σ H s)(hH:H l=some (.lst xs))
  (e:s.heap.get? l=some {cls:=.type "list",data:=.seq its.toArray n}) (hf:f its.toArray=its'.toArray) (hv:Vals ys its') (hz:ys.length≤sizeLine):
  Inv X pins σ (upd H l (.lst ys)) {s with heap:=s.heap.update l (fV f),toks:=t'}:=by
 have q:=PySem.IsL.update e f
 rw[hf] at q
 refine I.write (x:=l) (e:=l) (by rw[hH];exact trivial) (.inl rfl) (fun b' u hb hu=> (eQ s.heap (fV f) (Ne.symm hb)).trans hu) ⟨_,q⟩ ?_
 exact⟨hz,its',_,hv,q⟩
theorem Inv.lnew{its:List Value}{t':Nat}(I:Inv X pins σ H s)(hv:Vals ys its)(hz:ys.length≤sizeLine):
  Inv X pins σ (upd H s.heap.objs.size (.lst ys)) {s with heap:=s.heap.push {cls:=.type "list",data:=.seq its.toArray},toks:=t'}:=
 I.laid (fun _ _ q=>da _ q) (dm _) ⟨hz,its,0,hv,dF _ rfl⟩
theorem Inv.fresh(I:Inv X pins σ H s):H s.heap.objs.size=none:=I.hok.fresh (dm _)
theorem Inv.lstM(I:Inv X pins σ H s)(hH:H l=some (.lst xs)):xs.length≤sizeLine∧∃(its:List Value) (n:Nat),Vals xs its∧xs.length=its.length∧s.heap.get? l=some {cls:=.type "list",data:=.seq its.toArray n}:=by
 obtain⟨z,its,n,r,e⟩:=I.hok l _ hH
 exact⟨z,its,n,r,r.length,e⟩
theorem Pb{n:Nat}(h:n≤sizeLine):iO n=false:=by
 unfold iO
 exact decide_eq_false (by omega)
end
section
variable{X:Cx}
def Mv:V→List V→Hp→VK→Prop:=fun x vs H Q=>∃l xs y,x=.ref l∧vs=[y]∧H l=some (.lst xs)∧xs.length<sizeLine∧Q .non (upd H l (.lst (xs++[y])))
theorem HX:bw X "list.append" Mv:=by
 intro pins s σ H x vs v us Q I rx rv h
 obtain⟨l,xs,y,rfl,rfl,hH,hz,q⟩:=h
 cases rx
 obtain⟨u,rfl,ru⟩:=rv.one
 obtain⟨z,its,n,r,hl,e⟩:=I.lstM hH
 refine mj F.slot_list_append ⟨_,e,rfl⟩ F.entry_list_append (F.args_list_append_2 _ _) (PySem.list_append l its.toArray n u (by rw[dv];omega)) ⟨e,?_⟩
 refine⟨.non,_,I.lset (its':=its++[u]) hH e (by simp) (r.append (.cons ru .nil)) ?_,rfl,q⟩
 rw[dz,List.length_singleton]
 omega
def Sk:V→List V→Hp→VK→Prop:=fun x vs H Q=>∃l b xs zs,x=.ref l∧vs=[.ref b]∧H l=some (.lst xs)∧H b=some (.lst zs)∧xs.length+zs.length≤sizeLine∧Q .non (upd H l (.lst (xs++zs)))
theorem OB:bw X "list.extend" Sk:=by
 intro pins s σ H x vs v us Q I rx rv h
 obtain⟨l,b,xs,zs,rfl,rfl,hH,hB,hz,q⟩:=h
 cases rx
 obtain⟨u,rfl,ru⟩:=rv.one
 cases ru
 obtain⟨z,its,n,r,hl,e⟩:=I.lstM hH
 obtain⟨z2,its2,n2,r2,hl2,e2⟩:=I.lstM hB
 have hsz:its.toArray.size+its2.toArray.size≤sizeLine:=by rw[dv,dv];omega
 have hlong:¬(!its.toArray.isEmpty&&iO (its.toArray.size+its2.toArray.size))=true:=by
  rw[Pb hsz,kz]
  exact dc
 refine mj F.slot_list_extend ⟨_,e,rfl⟩ F.entry_list_extend (F.args_list_extend_2 _ _)
  (AutoSeq1.list_extend_list_list_0 l its.toArray n b its2.toArray n2 hlong (by rw[dv];omega) (by omega)) ⟨e,e2,?_⟩
 refine⟨.non,_,I.lset (its':=its++its2) hH e (by simp) (r.append r2) ?_,rfl,q⟩
 rw[dz]
 omega
def Yn:R2:=fun x y H Q=>∃l b xs zs,x=.ref l∧y=.ref b∧H l=some (.lst xs)∧H b=some (.lst zs)∧xs.length+zs.length≤sizeLine∧∀p,H p=none→Q (.ref p) (upd H p (.lst (xs++zs)))
theorem LH:Cs X (jl .Add) Yn:=by
 intro pins s σ H x y v u Q I rx ry h
 obtain⟨l,b,xs,zs,rfl,rfl,hH,hB,hz,q⟩:=h
 cases rx
 cases ry
 obtain⟨z,its,n,r,hl,e⟩:=I.lstM hH
 obtain⟨z2,its2,n2,r2,hl2,e2⟩:=I.lstM hB
 refine PySem.P.add_list e e2 ?_ (by rw[dv,dv];omega)
 have ea:its.toArray++its2.toArray=(its++its2).toArray:=by simp
 rw[ea]
 exact⟨.ref _,_,I.lnew (t':=s.toks) (r.append r2) (by rw[dz];omega),rfl,q _ I.fresh⟩
end
section
variable{prog:Program}{w:World}{A:dH}{E:Value→b6→Prop}{s:b6}
end
section
variable{X:Cx}
end
end L2
namespace Att
open PySem PySem.W PySem.Calls PyProof.Rows
theorem FS{P:Params}{h:Heap}:∀(ns:List Int) (vs:List Value),WellAll P h vs (ns.map WData.int)→j9 vs ns:=by
 intro ns
 induction ns with
 |nil=>
  intro vs w
  rw[j8] at w
  cases w
  exact .nil
 |cons n ns ih=>
  intro vs w
  rw[dM] at w
  cases w with
  |cons a b=>
   cases a
   exact .cons _ _ (ih _ b)
theorem OC{l:lB}{n:Nat}(hn:l.most=some n){P:Params}{h:Heap}{args:List WData}{vals:List Value}
  (hpre:l.row.toRowW.claim.pre args=true) (hwl:WellAll P h vals args):
  ∃a vs ns,vals=[Value.ref a]∧args=[WData.list (ns.map WData.int)]∧h.get? a=some {cls:=.type "list",data:=.seq vs.toArray}∧j9 vs ns∧ns.length≤n:=by
 have hsh:WShape.hasAll [] args [.list .int]=true:=(pre_splitW hpre).1
 have hc:l.pre.holds [] {args:=args}=true:=(pre_splitW hpre).2
 obtain⟨d,r,rfl,h1,h2⟩:=hasAllW_cons hsh
 obtain rfl:=hasAllW_nil h2
 obtain⟨xs,rfl,h3⟩:=hasW_list h1
 obtain⟨ns,rfl⟩:=items_int h3
 have hlen:ns.length≤n:=by
  unfold lB.pre at hc
  have h4:(WTm.not (.lt (.lit (.int (n:Int))) (.len (.arg 0)))).holds [] {args:=[.list (ns.map .int)]}=true:=by
   have h4:=(holds_andW hc).1
   rw[hn] at h4
   exact h4
  have h5:=condW_of h4 (w_not (w_lt w_lit (w_len_list (w_arg rfl))))
  rw[c9] at h5
  refine jJ fun q=>?_
  have q':(n:Int)< ((ns.length:Nat):Int):=by omega
  first
   | (rw[decide_eq_true q'] at h5;exact absurd h5 (by decide))
   | (simp at h5;omega)
 cases hwl with
 |cons w1 w2=>
  cases w2
  cases w1 with
  |list ho hall=>exact⟨_,_,ns,rfl,rfl,ho,FS ns _ hall,hlen⟩
theorem OD(l:lB)(args:List WData):l.row.toRowW.claim.post args (.bool true) args=true:=
 postW_of (r:=l.row.toRowW) (X:=(true==true))
  (show WShape.has [] (.bool true) .bool=true by first|rfl|decide|simp[WShape.has,WShape.arms,WShape.armsAll])
  (show(WTm.eq .res (.lit (.bool true))).value [] {args:=args,res:=some (.bool true),after:=args}=some (.bool (true==true)) from w_eq_bool (w_res rfl) w_lit) rfl
theorem Jk{l:lB}{n:Nat}{q:Program}{loose:List Str}{XP:(Str→Option Value)→Heap→Prop}{YP:World→Heap→Prop}{d:DefRec}
  (hn:l.most=some n) (hdf:d.params.defaults=[])
  (call:∀(w:World) (s₀ s₁:b6) (mg mb:Str→Option Value) (fa:Addr) (o:Obj) (pm cd doc:Value) (a:Addr) (vs:List Value) (ns:List Int),
   Ground q loose [] XP w s₀ mg mb s₁.heap→YP w s₁.heap→
   s₁.heap.get? fa=some o→o.data=.func (docDef d.name d.params d.body d.scope pm cd doc)→s₁.heap.CodeRec cd d.name→mg d.name=some (.ref fa)→
   s₁.heap.get? a=some {cls:=.type "list",data:=.seq vs.toArray}→j9 vs ns→ns.length≤n→s₁.gens= #[]→
   iY (model l.prog w) lZ (.call (.ref fa) ⟨[.ref a],[]⟩) (fun r s'=>r=.ok (.ret (.bool true))∧OldK s₁.heap s'.heap∧s'.os=s₁.os∧kb s'.gens) s₁):
  WalkO q loose XP YP l.row.toRowW d [] (fun f vs=>PySem.call f vs):=by
 intro w s₀ s₁ mg mb G Y fa o pm cd doc dV kV ho hd hcd hD hmg hg args vals as hpre hlay hrd hwl hlo
 obtain rfl:dV=.none:=Dflts.none hD hdf
 obtain rfl:kV=.none:=Dflts.noKw hD
 obtain⟨a,vs,ns,rfl,rfl,hobj,hints,hlen⟩:=OC hn hpre hwl
 refine enter_call (j6 (call w s₀ s₁ mg mb fa o pm cd doc a vs ns G Y ho (fd_plain hd) hcd hmg hobj hints hlen hg) fun r s' hq=>?_)
 obtain⟨rfl,h2,h3,h4⟩:=hq
 exact⟨.inl ⟨.bool true,.bool true,[],rfl,fun _=>rfl,.bool true,OD l _,fun _=> ⟨iH,fun _ hm=> (nomatch hm)⟩⟩,h2,h3,h4⟩
section
variable{prog:Program}{w:World}{A:dH}{E:Value→b6→Prop}{s:b6}{K:Frag}
end
end Att
namespace L2
open PySem PySem.Spec PyProof.Rows
theorem DR:∀{vs:List Value} {ns:List Int},j9 vs ns→Vals (ns.map V.int) vs
 |_,_,.nil=> .nil
 |_,_,.cons n t h=> .cons ⟨t,rfl⟩ (DR h)
def WR(H:Hp):Prop:=∀b,H b=none∨∃o xs,H b=some (.frz o (.lst xs))
theorem Pc{P:Program}{w:World}{K:b5}{mg mb:Str→Option Value}{CX:PX}{k:Nat}{fa a:Addr}{fd:dD}{x:Str}{sp:Sp}{s₁:b6}{vs:List Value}{ns:List Int}
  (KX:K.In s₁.heap) (hns:s₁.heap.Ns fj mg) (hb:s₁.heap.Ns ml mb) (hbb:∀x:Str,x≠"__name__"→mb x=eC x) (hlim:s₁.heap.NoLimit) (hg:s₁.gens= #[])
  (ha:s₁.heap.get? a=some {cls:=.type "list",data:=.seq vs.toArray}) (hi:j9 vs ns) (hl:ns.length≤sizeLine) (hr:Room k lZ)
  (F:∀base:Heap,K.In base→base.Ns fj mg→FnOk P w K mg base CX k fa fd [x] sp) (hbind:∀(s:b6) (u:Value),mR s fd ⟨[u],[]⟩ [(x,u)])
  (hsp:∀H:Hp,WR H→Cr K H a (ns.map V.int)→sp [.ref a] H (fun v _=>v=.bl true) fun _ _ _=>False)
  (hCX:∀H e s',CX [] H s₁ (fun _ _ _=>False) e s'→False):
  iY (model P w) lZ (.call (.ref fa) ⟨[.ref a],[]⟩) (fun r s'=>r=.ok (.ret (.bool true))∧OldK s₁.heap s'.heap∧s'.os=s₁.os∧kb s'.gens) s₁:=by
 have rv:=DR hi
 have lenV:=hi.length
 have core:∀H:Hp,WR H→Cr K H a (ns.map V.int)→HOk P w H s₁.heap→(∀b,H b≠none→b=a)→(H a≠none→K.lookup a=none)→
   iY (model P w) lZ (.call (.ref fa) ⟨[.ref a],[]⟩) (fun r s'=>r=.ok (.ret (.bool true))∧OldK s₁.heap s'.heap∧s'.os=s₁.os∧kb s'.gens) s₁:=by
  intro H hO hS hok hA hK
  have base_of:∀{b:Addr} {o:Obj},s₁.heap.get? b=some o→H b=none→(IG s₁.heap H).get? b=some o:=fun e n=>PC e n
  have noA:∀{b:Addr} {o:Obj} {es:Array DictEntry} {ep:Nat},s₁.heap.get? b=some o→o.data=.dict es ep→H b=none:=fun{b o es ep} e d=>by
   cases q:H b with
   |none=>rfl
   |some u=>
    have e':b=a:=hA b (by rw[q];simp)
    subst e'
    rw[ha] at e;cases e
    have d':Data.seq vs.toArray _=Data.dict es ep:=d
    cases d'
  have nsK:∀{b:Addr} {m:Str→Option Value},s₁.heap.Ns b m→(IG s₁.heap H).Ns b m:=fun{b m} ⟨o,es,ep,e,d,r⟩=> ⟨o,es,ep,base_of e (noA e d),d,r⟩
  have hKb:K.In (IG s₁.heap H):=fun b o e=>base_of (KX b o e) (by
   cases q:H b with
   |none=>rfl
   |some u=>
    have e':b=a:=hA b (by rw[q];simp)
    subst e'
    rw[hK (by rw[q];simp)] at e;cases e)
  have hM:Mod K mg (IG s₁.heap H):=⟨hKb,nsK hns,⟨mb,nsK hb,hbb⟩,let⟨mc,h1,h2⟩:=hlim;⟨mc,nsK h1,h2⟩⟩
  have e0:Env0 P w K mg (IG s₁.heap H) lZ [] s₁ H:=⟨rfl,hM,fun b o e=>SX e,Nat.le_of_eq (Np _ _),trivial,fun b hb=>absurd (show b∈([]:List Addr) from hb) (by simp),hok,.of_eq hg⟩
  refine j6 ((F _ hKb (nsK hns)).run lZ [] s₁ H ⟨[.ref a],[]⟩ [.ref a] [.ref a] _ _ hr e0 (hbind s₁ (.ref a)) (.cons rfl .nil) (hsp H hO hS)) fun r s' h=>?_
  cases r with
  |error e=>exact(hCX H e s' h).elim
  |ok fl=>
   cases fl with
   |next=>exact iM h
   |brk=>exact iM h
   |cont=>exact iM h
   |ret u=>
    obtain⟨v,H',os,bare,un,hok',r',q⟩:=h
    have q':v=.bl true:=q
    subst q'
    obtain rfl:u=km true:=r'
    refine⟨rfl,OldK.of_keep fun b o e=>?_,os,bare⟩
    cases q:H b with
    |none=>exact un.keep b o e q (by intro z;exact absurd (show b∈([]:List Addr) from z) (by simp)) (by simp)
    |some u=>
     rcases hO b with z| ⟨ob,xs,z⟩
     ·rw[q] at z;cases z
     ·have z2:=un.frzs b ob _ z
      obtain⟨e1,_⟩:=hok b _ z
      obtain⟨e2,_⟩:=hok' b _ z2
      rw[e] at e1;cases e1
      exact e2
 cases hk:K.lookup a with
 |some o=>
  have e:=KX a o hk
  rw[ha] at e
  cases e
  refine core (fun _=>none) (fun _=> .inl rfl) (.inr ⟨_,vs.toArray,_,hk,rfl,rfl,rfl,by rw[dv,lenV];exact hl,by simpa using rv⟩) (fun b u z=>by have z':(none:Option HO)=some u:=z;cases z') (fun b z=>absurd rfl z) fun z=>absurd rfl z
 |none=>
  refine core (fun b=>if b=a then some (.frz {cls:=.type "list",data:=.seq vs.toArray} (.lst (ns.map V.int))) else none) (fun b=>?_) (.inl (.inr ⟨{cls:=.type "list",data:=.seq vs.toArray},if_pos rfl⟩)) (fun b u z=>?_) (fun b z=>?_) fun _=>hk
  ·by_cases hb:b=a
   ·exact .inr ⟨_,_,if_pos hb⟩
   ·exact .inl (if_neg hb)
  ·by_cases hb:b=a
   ·have z':=(if_pos hb).symm.trans z
    cases z'
    subst hb
    exact⟨ha,by rw[c9];exact hl,vs,_,rv,ha⟩
   ·have z':=(if_neg hb).symm.trans z
    cases z'
  ·by_cases hb:b=a
   ·exact hb
   ·exact absurd (if_neg hb) z
theorem Sl{l:lB}{n k:Nat}{q:Program}{loose:List Str}{XP:(Str→Option Value)→Heap→Prop}{YP:World→Heap→Prop}{d:DefRec}{K:Params→b5}{CX:World→PX}{sp:World→Sp}{x:Str}
  (hn:l.most=some n) (hn2:n≤sizeLine) (hdf:d.params.defaults=[]) (hr:Room k lZ)
  (hY:∀(w:World) (h:Heap),YP w h→(K w.params).In h)
  (F:∀(w:World) (mg:Str→Option Value) (fa:Addr) (h:Heap),(K w.params).In h→h.Ns fj mg→mg d.name=some (.ref fa)→
   ∃fd:dD,(∀(s:b6) (u:Value),mR s fd ⟨[u],[]⟩ [(x,u)])∧
    ∀base:Heap,(K w.params).In base→base.Ns fj mg→FnOk l.prog w (K w.params) mg base (CX w) k fa fd [x] (sp w))
  (hsp:∀(w:World) (H:Hp) (a:Addr) (ns:List Int),ns.length≤n→WR H→Cr (K w.params) H a (ns.map V.int)→sp w [.ref a] H (fun v _=>v=.bl true) fun _ _ _=>False)
  (hCX:∀(w:World) (H:Hp) (s:b6) (e:Value) (s':b6),CX w [] H s (fun _ _ _=>False) e s'→False):
  PySem.W.WalkO q loose XP YP l.row.toRowW d [] (fun f vs=>PySem.call f vs):=by
 refine Att.Jk hn hdf fun w s₀ s₁ mg mb fa o pm cd doc a vs ns G Y ho hd hcd hmg hobj hints hlen hg=>?_
 have KX:=hY w _ Y
 obtain⟨fd,hb,hF⟩:=F w mg fa _ KX G.T.g hmg
 exact Pc KX G.T.g G.T.b G.T.builtins G.T.nolimit hg hobj hints (fI hlen hn2) hr hF hb (fun H hO hS=>hsp w H a ns hlen hO hS) fun H e s'=>hCX w H s₁ e s'
def Dv(s:Stmt):Arguments:=match s with
 | .FunctionDef _ a _ _ _ _ _ _ _ _=>a
 |_=> {posonlyargs:=[],args:=[],vararg:=none,kwonlyargs:=[],kw_defaults:=[],kwarg:=none,defaults:=[]}
def BA(s:Stmt):List Stmt:=match s with
 | .FunctionDef _ _ b _ _ _ _ _ _ _=>b
 |_=> []
def AA(s:Stmt):Scope:=match s with
 | .FunctionDef _ _ _ _ _ _ sc _ _ _=>sc
 |_=> {kind:=.function,names:=[],isGenerator:=false,isCoroutine:=false}
abbrev E0:XK:=fun _ _ _=>False
structure Fun(K:b5)(x qual:Str)(st:Stmt)(f:Addr)(fd:dD):Prop where
 ex:∃(oc:Value) (od:Option Addr) (kV doc pm:Value) (an:Option Addr) (cdv ct:Value) (osl:Array (Option Value)),
  fd=jh x qual (Dv st) (BA st) (AA st) .none kV doc pm an cdv ct∧K.lookup f=some ⟨oc,od,.func fd,osl⟩∧lP K cdv qual=true
 kp:iu K (.ref f)=true
section
variable{P:Program}{w:World}{K:b5}{mg:Str→Option Value}{base:Heap}
theorem Fun.binds{x qual:Str}{st:Stmt}{f:Addr}{fd:dD}{ps:List Str}(F:Fun K x qual st f fd)
  (h:∀(kV doc pm:Value) (an:Option Addr) (cdv ct:Value) (us:List Value),us.length=ps.length→bindArgs (jh x qual (Dv st) (BA st) (AA st) .none kV doc pm an cdv ct) ⟨us,[]⟩=pure (ps.zip us)):Binds K fd ps []:=by
 obtain⟨oc,od,kV,doc,pm,an,cdv,ct,osl,rfl,lk,hcd⟩:=F.ex
 exact .all (h kV doc pm an cdv ct)
end
section
variable{X:Cx}
theorem pv(i:Nat){x:Str}{pos:Pos}(hN:X.N[i]?=some x:=by rfl)(hv:YD X.env.scope x:=by first|exact lQ rfl|exact kS (lQ rfl)|exact kS (kS rfl))(hd:(x==("__debug__" :Str))=false:=by decide)
  (hcd:(x==("__classdict__" :Str))=false:=by decide):PE X (.Name x pos) (YG i):=PD hN hv hd hcd
end
theorem Pd{A B:Prop}(h:B):if false=true then A else B:=by
 rw[if_neg dc]
 exact h
theorem LI{A B:Prop}(h:A):if true=true then A else B:=by
 rw[if_pos rfl]
 exact h
theorem WU{c A B:Prop} [Decidable c](h1:c→A)(h2:¬c→B):if c then A else B:=by
 by_cases h:c
 ·rw[if_pos h]
  exact h1 h
 ·rw[if_neg h]
  exact h2 h
end L2
set_option maxHeartbeats 4000000
namespace K12
open PySem L2
def kE(P:Params)(x:Str)(n:Tok)(v:Value):DictEntry:=⟨fP.keyHash P x,.str x n,v⟩
def tp(i:Nat):Stmt:=dS.main.body.getD i (.Pass ⟨0,0,0,0⟩)
def kF(x:Str)(i:Nat)(m:Str)(t:Tok)(c:Addr):Obj:=⟨.type "function",none,.func (jh x x (Dv (tp i)) (BA (tp i)) (AA (tp i)) .none .none .none (.str m t) none (.ref c) .none),#[]⟩
def kC(x:Str)(a b c:Tok)(vs:List Value):Obj:=⟨.type "code",none,.fields ((mU x a::.str x b::.str "/claim/cut.py" c::vs).toArray),#[]⟩
def kD(x:Str)(a b c:Tok)(l n:Int)(r:Addr)(g:Int)(q:Addr)(z:Int)(k:Tok)(vs:List Value):Obj:=kC x a b c (.int l 0::.int n 0::.int 0 0::.int 0 0::.int 3 0::.ref r::.bool true::.int g 0::.ref q::(vs++[.int z 0,.int l 0,.str "/claim/cut.py" k]))
def Kk:Params→b5:=fun P=> (nat_lit 3,⟨(.type "dict"),none,(.dict #[kE P "__name__" 165 (.str "law_noshortring_k12_whole_growth" 533),kE P "__doc__" 166 .none,kE P "__package__" 167 .none,kE P "__loader__" 168 (.builtin "__main__.__loader__#opaque"),kE P "__spec__" 169 .none,kE P "__annotations__" 170 (.ref 6),kE P "__builtins__" 171 (.ref 4),kE P "__file__" 173 (.str "/claim/cut.py" 172),kE P "__cached__" 174 .none,kE P "RingError" 206 (.ref 24),kE P "NoPlace" 222 (.ref 37),kE P "NoNumber" 238 (.ref 49),kE P "NoLine" 254 (.ref 61),kE P "NotEven" 270 (.ref 73),kE P "is_whole" 281 (.ref 82),kE P "need_number" 290 (.ref 89),kE P "least_told" 296 (.ref 94),kE P "MOST_PLACES" 300 (.int 16 299),kE P "LEAST_RING" 302 (.int 3 301),kE P "is_place" 310 (.ref 101),kE P "need_place" 318 (.ref 108),kE P "are_tied" 327 (.ref 115),kE P "nears_of" 333 (.ref 120),kE P "near_of" 341 (.ref 127),kE P "fars_from" 347 (.ref 132),kE P "far_of" 356 (.ref 139),kE P "even_by" 362 (.ref 144),kE P "ring_by_tie" 368 (.ref 149),kE P "shortest" 374 (.ref 154),kE P "LEAST_TIES" 378 (.int 2 377),kE P "MOST_TIES" 380 (.int 15 379),kE P "MOST_RING" 382 (.int 16 381),kE P "need_ties" 389 (.ref 161),kE P "need_ring" 396 (.ref 168),kE P "need_ties_and_ring" 404 (.ref 175),kE P "sum_of_powers" 415 (.ref 182),kE P "grown_places" 424 (.ref 189),kE P "least_by_growth" 432 (.ref 196),kE P "need_tie" 443 (.ref 203),kE P "layers_from" 449 (.ref 208),kE P "places_so_far" 455 (.ref 213),kE P "layers_of" 463 (.ref 220),kE P "layers_by_tie" 472 (.ref 227),kE P "ring_at" 478 (.ref 232),kE P "ring_by" 487 (.ref 239),kE P "evenness" 495 (.ref 246),kE P "full_layers" 507 (.ref 253),kE P "full_at" 516 (.ref 260),kE P "full_by" 526 (.ref 267),kE P "longest_fit" 532 (.ref 272),kE P "_law_cell_at" 542 (.ref 279),kE P "_law_next" 549 (.ref 286),kE P "_law_pen_of" 557 (.ref 293),kE P "_law_draw" 566 (.ref 300),kE P "_law_web_of" 572 (.ref 305),kE P "_law_round" 578 (.ref 310),kE P "_law_some_web" 584 (.ref 315),kE P "_law_least" 590 (.ref 320),kE P "_law_rings_right" 596 (.ref 325),kE P "_law_layers_right" 602 (.ref 330),kE P "_law_full_right" 615 (.ref 337),kE P "law" 626 (.ref 344)] 62),#[]⟩)::
  (nat_lit 23,⟨(.type "dict"),none,(.dict #[kE P "__module__" 196 (.str "noshortring.errors" 187),kE P "__firstlineno__" 200 (.int 2 199),kE P "__static_attributes__" 201 (.ref 22),kE P "__weakref__" 203 (.ref 25),kE P "__doc__" 204 .none] 3),#[]⟩)::
  (nat_lit 24,⟨(.type "type"),none,(.cls ⟨"RingError",[(.type "ValueError")],[(.ref 24),(.type "ValueError"),(.type "Exception"),(.type "BaseException"),(.type "object")],23,"RingError",true,[],[(.ref 37),(.ref 49),(.ref 61),(.ref 73)],false,none,false⟩),#[(some (.ref 15)),none,(some (.str "RingError" 189)),(some (.str "RingError" 197)),(some (.builtin "ValueError.__new__")),(some (.bool true))]⟩)::
  (nat_lit 36,⟨(.type "dict"),none,(.dict #[kE P "__module__" 214 (.str "noshortring.errors" 187),kE P "__firstlineno__" 218 (.int 4 217),kE P "__static_attributes__" 219 (.ref 35),kE P "__doc__" 220 .none] 2),#[]⟩)::
  (nat_lit 37,⟨(.type "type"),none,(.cls ⟨"NoPlace",[(.ref 24)],[(.ref 37),(.ref 24),(.type "ValueError"),(.type "Exception"),(.type "BaseException"),(.type "object")],36,"NoPlace",true,[],[],false,none,false⟩),#[(some (.ref 28)),none,(some (.str "NoPlace" 207)),(some (.str "NoPlace" 215)),(some (.builtin "ValueError.__new__")),(some (.bool true))]⟩)::
  (nat_lit 48,⟨(.type "dict"),none,(.dict #[kE P "__module__" 230 (.str "noshortring.errors" 187),kE P "__firstlineno__" 234 (.int 6 233),kE P "__static_attributes__" 235 (.ref 47),kE P "__doc__" 236 .none] 2),#[]⟩)::
  (nat_lit 49,⟨(.type "type"),none,(.cls ⟨"NoNumber",[(.ref 24)],[(.ref 49),(.ref 24),(.type "ValueError"),(.type "Exception"),(.type "BaseException"),(.type "object")],48,"NoNumber",true,[],[],false,none,false⟩),#[(some (.ref 40)),none,(some (.str "NoNumber" 223)),(some (.str "NoNumber" 231)),(some (.builtin "ValueError.__new__")),(some (.bool true))]⟩)::
  (nat_lit 60,⟨(.type "dict"),none,(.dict #[kE P "__module__" 246 (.str "noshortring.errors" 187),kE P "__firstlineno__" 250 (.int 8 249),kE P "__static_attributes__" 251 (.ref 59),kE P "__doc__" 252 .none] 2),#[]⟩)::
  (nat_lit 61,⟨(.type "type"),none,(.cls ⟨"NoLine",[(.ref 24)],[(.ref 61),(.ref 24),(.type "ValueError"),(.type "Exception"),(.type "BaseException"),(.type "object")],60,"NoLine",true,[],[],false,none,false⟩),#[(some (.ref 52)),none,(some (.str "NoLine" 239)),(some (.str "NoLine" 247)),(some (.builtin "ValueError.__new__")),(some (.bool true))]⟩)::
  (nat_lit 72,⟨(.type "dict"),none,(.dict #[kE P "__module__" 262 (.str "noshortring.errors" 187),kE P "__firstlineno__" 266 (.int 10 265),kE P "__static_attributes__" 267 (.ref 71),kE P "__doc__" 268 .none] 2),#[]⟩)::
  (nat_lit 73,⟨(.type "type"),none,(.cls ⟨"NotEven",[(.ref 24)],[(.ref 73),(.ref 24),(.type "ValueError"),(.type "Exception"),(.type "BaseException"),(.type "object")],72,"NotEven",true,[],[],false,none,false⟩),#[(some (.ref 64)),none,(some (.str "NotEven" 255)),(some (.str "NotEven" 263)),(some (.builtin "ValueError.__new__")),(some (.bool true))]⟩)::
  (nat_lit 81,kD "is_whole" 273 274 275 13 3 76 181 77 279 280 [.none,(.ref 78),(.ref 79),(.ref 80)])::
  (nat_lit 82,kF "is_whole" 7 "noshortring.common" 271 81)::
  (nat_lit 88,kD "need_number" 282 283 284 17 3 83 181 84 288 289 [.none,(.ref 85),(.ref 86),(.ref 87)])::
  (nat_lit 89,kF "need_number" 8 "noshortring.common" 271 88)::
  (nat_lit 93,kD "least_told" 291 292 293 20 1 90 181 91 294 295 [.none,.none,.none,(.ref 92)])::
  (nat_lit 94,kF "least_told" 9 "noshortring.common" 271 93)::
  (nat_lit 100,kD "is_place" 303 304 305 25 2 95 181 96 308 309 [.none,(.ref 97),(.ref 98),(.ref 99)])::
  (nat_lit 101,kF "is_place" 13 "noshortring.webs" 297 100)::
  (nat_lit 107,kD "need_place" 311 312 313 27 2 102 181 103 316 317 [.none,(.ref 104),(.ref 105),(.ref 106)])::
  (nat_lit 108,kF "need_place" 14 "noshortring.webs" 297 107)::
  (nat_lit 114,kD "are_tied" 319 320 321 30 3 109 181 110 325 326 [.none,(.ref 111),(.ref 112),(.ref 113)])::
  (nat_lit 115,kF "are_tied" 15 "noshortring.webs" 297 114)::
  (nat_lit 119,kD "nears_of" 328 329 330 32 1 116 181 117 331 332 [.none,.none,.none,(.ref 118)])::
  (nat_lit 120,kF "nears_of" 16 "noshortring.webs" 297 119)::
  (nat_lit 126,kD "near_of" 334 335 336 38 2 121 181 122 339 340 [.none,(.ref 123),(.ref 124),(.ref 125)])::
  (nat_lit 127,kF "near_of" 17 "noshortring.webs" 297 126)::
  (nat_lit 131,kD "fars_from" 342 343 344 41 2 128 181 129 345 346 [.none,.none,.none,(.ref 130)])::
  (nat_lit 132,kF "fars_from" 18 "noshortring.webs" 297 131)::
  (nat_lit 138,kD "far_of" 348 349 350 57 3 133 181 134 354 355 [.none,(.ref 135),(.ref 136),(.ref 137)])::
  (nat_lit 139,kF "far_of" 19 "noshortring.webs" 297 138)::
  (nat_lit 143,kD "even_by" 357 358 359 61 1 140 181 141 360 361 [.none,.none,.none,(.ref 142)])::
  (nat_lit 144,kF "even_by" 20 "noshortring.webs" 297 143)::
  (nat_lit 148,kD "ring_by_tie" 363 364 365 64 3 145 181 146 366 367 [.none,.none,.none,(.ref 147)])::
  (nat_lit 149,kF "ring_by_tie" 21 "noshortring.webs" 297 148)::
  (nat_lit 153,kD "shortest" 369 370 371 69 1 150 181 151 372 373 [.none,.none,.none,(.ref 152)])::
  (nat_lit 154,kF "shortest" 22 "noshortring.webs" 297 153)::
  (nat_lit 160,kD "need_ties" 383 384 385 76 1 155 181 156 387 388 [.none,(.ref 157),(.ref 158),(.ref 159)])::
  (nat_lit 161,kF "need_ties" 27 "noshortring.fewest" 375 160)::
  (nat_lit 167,kD "need_ring" 390 391 392 78 1 162 181 163 394 395 [.none,(.ref 164),(.ref 165),(.ref 166)])::
  (nat_lit 168,kF "need_ring" 28 "noshortring.fewest" 375 167)::
  (nat_lit 174,kD "need_ties_and_ring" 397 398 399 80 2 169 181 170 402 403 [.none,(.ref 171),(.ref 172),(.ref 173)])::
  (nat_lit 175,kF "need_ties_and_ring" 29 "noshortring.fewest" 375 174)::
  (nat_lit 181,kD "sum_of_powers" 405 406 407 83 2 176 181 177 413 414 [.none,(.ref 178),(.ref 179),(.ref 180)])::
  (nat_lit 182,kF "sum_of_powers" 30 "noshortring.fewest" 375 181)::
  (nat_lit 188,kD "grown_places" 416 417 418 90 2 183 181 184 422 423 [.none,(.ref 185),(.ref 186),(.ref 187)])::
  (nat_lit 189,kF "grown_places" 31 "noshortring.fewest" 375 188)::
  (nat_lit 195,kD "least_by_growth" 425 426 427 93 2 190 181 191 430 431 [.none,(.ref 192),(.ref 193),(.ref 194)])::
  (nat_lit 196,kF "least_by_growth" 32 "noshortring.fewest" 375 195)::
  (nat_lit 202,kD "need_tie" 435 436 437 97 3 197 181 198 441 442 [.none,(.ref 199),(.ref 200),(.ref 201)])::
  (nat_lit 203,kF "need_tie" 34 "noshortring.growth" 433 202)::
  (nat_lit 207,kD "layers_from" 444 445 446 102 2 204 181 205 447 448 [.none,.none,.none,(.ref 206)])::
  (nat_lit 208,kF "layers_from" 35 "noshortring.growth" 433 207)::
  (nat_lit 212,kD "places_so_far" 450 451 452 106 2 209 181 210 453 454 [.none,.none,.none,(.ref 211)])::
  (nat_lit 213,kF "places_so_far" 36 "noshortring.growth" 433 212)::
  (nat_lit 219,kD "layers_of" 456 457 458 108 2 214 181 215 461 462 [.none,(.ref 216),(.ref 217),(.ref 218)])::
  (nat_lit 220,kF "layers_of" 37 "noshortring.growth" 433 219)::
  (nat_lit 226,kD "layers_by_tie" 464 465 466 111 3 221 181 222 470 471 [.none,(.ref 223),(.ref 224),(.ref 225)])::
  (nat_lit 227,kF "layers_by_tie" 38 "noshortring.growth" 433 226)::
  (nat_lit 231,kD "ring_at" 473 474 475 114 2 228 181 229 476 477 [.none,.none,.none,(.ref 230)])::
  (nat_lit 232,kF "ring_at" 39 "noshortring.growth" 433 231)::
  (nat_lit 238,kD "ring_by" 479 480 481 118 3 233 181 234 485 486 [.none,(.ref 235),(.ref 236),(.ref 237)])::
  (nat_lit 239,kF "ring_by" 40 "noshortring.growth" 433 238)::
  (nat_lit 245,kD "evenness" 488 489 490 121 1 240 181 241 493 494 [.none,(.ref 242),(.ref 243),(.ref 244)])::
  (nat_lit 246,kF "evenness" 41 "noshortring.growth" 433 245)::
  (nat_lit 252,kD "full_layers" 496 497 498 126 3 247 181 248 505 506 [.none,(.ref 249),(.ref 250),(.ref 251)])::
  (nat_lit 253,kF "full_layers" 42 "noshortring.growth" 433 252)::
  (nat_lit 259,kD "full_at" 508 509 510 135 2 254 181 255 514 515 [.none,(.ref 256),(.ref 257),(.ref 258)])::
  (nat_lit 260,kF "full_at" 43 "noshortring.growth" 433 259)::
  (nat_lit 266,kD "full_by" 517 518 519 138 3 261 181 262 524 525 [.none,(.ref 263),(.ref 264),(.ref 265)])::
  (nat_lit 267,kF "full_by" 44 "noshortring.growth" 433 266)::
  (nat_lit 271,kD "longest_fit" 527 528 529 141 2 268 181 269 530 531 [.none,.none,.none,(.ref 270)])::
  (nat_lit 272,kF "longest_fit" 45 "noshortring.growth" 433 271)::
  (nat_lit 278,kD "_law_cell_at" 535 536 537 146 2 273 181 274 540 541 [.none,(.ref 275),(.ref 276),(.ref 277)])::
  (nat_lit 279,kF "_law_cell_at" 47 "law_noshortring_k12_whole_growth" 533 278)::
  (nat_lit 285,kD "_law_next" 543 544 545 150 1 280 181 281 547 548 [.none,(.ref 282),(.ref 283),(.ref 284)])::
  (nat_lit 286,kF "_law_next" 48 "law_noshortring_k12_whole_growth" 533 285)::
  (nat_lit 292,kD "_law_pen_of" 550 551 552 153 1 287 181 288 555 556 [.none,(.ref 289),(.ref 290),(.ref 291)])::
  (nat_lit 293,kF "_law_pen_of" 49 "law_noshortring_k12_whole_growth" 533 292)::
  (nat_lit 299,kD "_law_draw" 558 559 560 156 2 294 181 295 564 565 [.none,(.ref 296),(.ref 297),(.ref 298)])::
  (nat_lit 300,kF "_law_draw" 50 "law_noshortring_k12_whole_growth" 533 299)::
  (nat_lit 304,kD "_law_web_of" 567 568 569 163 2 301 181 302 570 571 [.none,.none,.none,(.ref 303)])::
  (nat_lit 305,kF "_law_web_of" 51 "law_noshortring_k12_whole_growth" 533 304)::
  (nat_lit 309,kD "_law_round" 573 574 575 165 3 306 181 307 576 577 [.none,.none,.none,(.ref 308)])::
  (nat_lit 310,kF "_law_round" 52 "law_noshortring_k12_whole_growth" 533 309)::
  (nat_lit 314,kD "_law_some_web" 579 580 581 167 2 311 181 312 582 583 [.none,.none,.none,(.ref 313)])::
  (nat_lit 315,kF "_law_some_web" 53 "law_noshortring_k12_whole_growth" 533 314)::
  (nat_lit 319,kD "_law_least" 585 586 587 193 1 316 181 317 588 589 [.none,.none,.none,(.ref 318)])::
  (nat_lit 320,kF "_law_least" 54 "law_noshortring_k12_whole_growth" 533 319)::
  (nat_lit 324,kD "_law_rings_right" 591 592 593 196 1 321 181 322 594 595 [.none,.none,.none,(.ref 323)])::
  (nat_lit 325,kF "_law_rings_right" 55 "law_noshortring_k12_whole_growth" 533 324)::
  (nat_lit 329,kD "_law_layers_right" 597 598 599 201 2 326 181 327 600 601 [.none,.none,.none,(.ref 328)])::
  (nat_lit 330,kF "_law_layers_right" 56 "law_noshortring_k12_whole_growth" 533 329)::
  (nat_lit 336,kD "_law_full_right" 603 604 605 213 2 331 181 332 613 614 [.none,(.ref 333),(.ref 334),(.ref 335)])::
  (nat_lit 337,kF "_law_full_right" 57 "law_noshortring_k12_whole_growth" 533 336)::
  (nat_lit 343,kD "law" 616 617 618 223 1 338 181 339 624 625 [.none,(.ref 340),(.ref 341),(.ref 342)])::
  (nat_lit 344,kF "law" 58 "law_noshortring_k12_whole_growth" 533 343)::[]
def ka:List Addr:=[3,23,24,36,37,48,49,60,61,72,73,81,82,88,89,93,94,100,101,107,108,114,115,119,120,126,127,131,132,138,139,143,144,148,149,153,154,160,161,167,168,174,175,181,182,188,189,195,196,202,203,207,208,212,213,219,220,226,227,231,232,238,239,245,246,252,253,259,260,266,267,271,272,278,279,285,286,292,293,299,300,304,305,309,310,314,315,319,320,324,325,329,330,336,337,343,344]
abbrev kq:Program:=PySem.W.view dS [1,2,3,4,5,7,8,9,11,12,13,14,15,16,17,18,19,20,21,22,24,25,26,27,28,29,30,31,32,34,35,36,37,38,39,40,41,42,43,44,45,47,48,49,50,51,52,53,54,55,56,57,58]
theorem bI:(fun(_:Params→b5) (_:Program)=>true) Kk dS=true:=by k_qdec
abbrev oS(s:b6):=PySem.W.openSeen kq [] (importedModules dS.main.body) (fun s=>mF kq [] s&&l9 [] s) true s
abbrev oE(w:World):=PySem.W.openEnds treeTable dS w 4900
theorem Yo(w:World):(oE w).map (fun s=> ((oS s).1,(oS s).2.2.2.2.1))=some ((fg kq []).1,(fg kq []).2.2.2.2.1):=by
 delta oE oS kq
 rw[PySem.W.Fast.te15760185284088534847,fz,fH]
 delta fG fg
 dsimp only
 kernel_rfl
theorem Yp(w:World):(oE w).map (fun s=> ((oS s).2.1,(oS s).2.2.1,(oS s).2.2.2.2.2.2.1,(oS s).2.2.2.2.2.2.2.2))=some ((fg kq []).2.1,(fg kq []).2.2.1,(fg kq []).2.2.2.2.2.2.1,(fg kq []).2.2.2.2.2.2.2.2):=by
 delta oE oS kq
 rw[PySem.W.Fast.te15760185284088534847,fz,fH,PySem.W.Fast.te5923862056798008813]
 delta fG fg
 dsimp only
 kernel_rfl
theorem Yq(w:World):(oE w).map (fun s=> ((oS s).2.2.2.1))=some ((fg kq []).2.2.2.1):=by
 delta oE oS kq
 rw[PySem.W.Fast.te15760185284088534847,fz,fH]
 delta fG fg
 dsimp only
 kernel_rfl
theorem Yr(w:World):(oE w).map (fun s=> ((oS s).2.2.2.2.2.1))=some ((fg kq []).2.2.2.2.2.1):=by
 delta oE oS kq
 rw[PySem.W.Fast.te15760185284088534847,fz,fH]
 delta fG fg
 dsimp only
 kernel_rfl
theorem Ys(w:World):(oE w).map (fun s=> ((oS s).2.2.2.2.2.2.2.1,ka.map s.heap.get?))=some ((fg kq []).2.2.2.2.2.2.2.1,(Kk w.params).map fun(p:Addr×Obj)=>some p.2):=by
 delta oE oS kq
 rw[PySem.W.Fast.te15502401973275641167,PySem.W.Fast.te15760185284088534847,fz,fH]
 delta fG fg
 dsimp only
 kernel_rfl
theorem left:PySem.W.LeftO dS kq [] (fun s=>mF kq [] s&&l9 [] s) (fun s=>ka.map s.heap.get?) (fun w=> (Kk w.params).map fun(p:Addr×Obj)=>some p.2) 4900:=by
 intro w
 have h0:=Yo w
 have h1:=Yp w
 have h2:=Yq w
 have h3:=Yr w
 have h4:=Ys w
 show(oE w).map (fun s=> (oS s,ka.map s.heap.get?))=_
 revert h0 h1 h2 h3 h4
 cases oE w with
 |none=>intro h;cases h
 |some s=>
  intro h0 h1 h2 h3 h4
  have h0:=dW.inj h0
  simp only[ma] at h0
  have h1:=dW.inj h1
  simp only[ma] at h1
  have h2:=dW.inj h2
  have h3:=dW.inj h3
  have h4:=dW.inj h4
  simp only[ma] at h4
  exact congrArg some (fK (fK (h0.1) (fK (h1.1) (fK (h1.2.1) (fK (h2) (fK (h0.2) (fK (h3) (fK (h1.2.2.1) (fK (h4.1) (h1.2.2.2))))))))) (h4.2))
end K12
namespace L2
open PySem PySem.Spec PyProof.Rows
theorem IQ{env:Env}:∀(l:List (Str×NameKind)) (acc:List (Str×Addr)),(∀y∈l,y.2=.free→∃c,env.cells.lookup y.1=some c)→
  (∀x c,acc.lookup x=some c→env.cells.lookup x=some c)→
  ∃cl,(forIn l acc (fun(x:Str×NameKind) (r:List (Str×Addr))=> (match x with
   | (name,kind)=>if(kind==NameKind.free)=true then(do let a←cellOf env name;pure (gF ((name,a)::r))) else pure (gF r):Sem (ForInStep (List (Str×Addr))))))=(pure cl:Sem _)∧
   (∀x c,cl.lookup x=some c→env.cells.lookup x=some c)∧(∀x,(acc.lookup x).isSome=true→(cl.lookup x).isSome=true)∧∀y∈l,y.2=.free→(cl.lookup y.1).isSome=true
 | [],acc,_,ha=> ⟨acc,rfl,ha,fun _ h=>h,fun _ h=>nomatch h⟩
 | (n,k)::r,acc,h,ha=>by
  have hr:∀y∈r,y.2=.free→∃c,env.cells.lookup y.1=some c:=fun y hy=>h y (dw _ hy)
  by_cases hk:k=.free
  ·subst hk
   obtain⟨c,hc⟩:=h (n,.free) dP rfl
   have hc:env.cells.lookup n=some c:=hc
   have ha':∀x c',((n,c)::acc).lookup x=some c'→env.cells.lookup x=some c':=fun x c' e=>by
    rw[eS] at e
    cases hx:x==n with
    |true=>rw[hx] at e;cases e;rw[beq_iff_eq.mp hx];exact hc
    |false=>rw[hx] at e;exact ha x c' e
   obtain⟨cl,e,h1,h2,h3⟩:=IQ r ((n,c)::acc) hr ha'
   refine⟨cl,?_,h1,fun x hx=>h2 x ?_,fun y hy hf=>?_⟩
   ·rw[List.forIn_cons]
    simp only[cellOf,hc,beq_self_eq_true,if_true]
    exact e
   ·rw[eS]
    cases x==n with
    |true=>rfl
    |false=>exact hx
   ·rcases dh.mp hy with rfl|hy
    ·exact h2 n (by rw[eS,beq_self_eq_true];rfl)
    ·exact h3 y hy hf
  ·have hb:(k==NameKind.free)=false:=by simpa using hk
   obtain⟨cl,e,h1,h2,h3⟩:=IQ r acc hr ha
   refine⟨cl,?_,h1,h2,fun y hy hf=>?_⟩
   ·rw[List.forIn_cons]
    simp only[hb,dC,if_false]
    exact e
   ·rcases dh.mp hy with rfl|hy
    ·exact absurd hf hk
    ·exact h3 y hy hf
theorem Sm{env:Env}{csc:Scope}(h:∀y∈csc.names,y.2=.free→∃c,env.cells.lookup y.1=some c):
  ∃cl,closureFor csc env=pure cl∧(∀x c,cl.lookup x=some c→env.cells.lookup x=some c)∧∀y∈csc.names,y.2=.free→(cl.lookup y.1).isSome=true:=by
 obtain⟨cl,e,h1,_,h3⟩:=IQ csc.names [] h (fun x c e=>by cases e)
 refine⟨cl,?_,h1,h3⟩
 unfold closureFor
 have e':=congrArg (fun m:Sem (List (Str×Addr))=>m>>=fun r=>pure r) e
 exact e'
theorem Dw{env:Env}:∀{names:List (Str×NameKind)} {x:Str},names.lookup x=some .free→
  (names.map fun(n,k)=>if(k==NameKind.free&&env.scope.kind==.function&&env.kindOf n==some .cell) then(n,ja) else(n,k)).lookup x=some .cell∨
  (names.map fun(n,k)=>if(k==NameKind.free&&env.scope.kind==.function&&env.kindOf n==some .cell) then(n,ja) else(n,k)).lookup x=some .free
 | [],_,h=>by simp at h
 | (n,k)::r,x,h=>by
  have ih:=@Dw env r x
  rw[dM]
  show List.lookup x ((if(k==NameKind.free&&env.scope.kind==.function&&env.kindOf n==some .cell)=true then(n,ja) else(n,k))::_)=_∨List.lookup x ((if(k==NameKind.free&&env.scope.kind==.function&&env.kindOf n==some .cell)=true then(n,ja) else(n,k))::_)=_
  cases hx:x==n with
  |true=>
   simp only[eS,hx] at h
   cases h
   split
   ·exact .inl (by rw[eS,hx])
   ·exact .inr (by rw[eS,hx])
  |false=>
   simp only[eS,hx] at h
   split
   ·simp only[eS,hx];exact ih h
   ·simp only[eS,hx];exact ih h
def Mw:Option NameKind→Bool
 |some .cell=>true
 |_=>false
theorem Jl{k:Option NameKind}(h:Mw k=true):k=some .cell:=by
 cases k with
 |none=>cases h
 |some k=>cases k<;>first|rfl|cases h
def Sn(X:Cx)(csc:Scope)(cl:List (Str×Addr))(N':List Str)(s:b6)(H:Hp)(fp:List Addr):Cx:=
 {X with N:=N',s₀:=s,H₀:=H,env:=mz csc cl s.heap.objs.size X.env,outer:=X.stack,ex:=fp,fn:=fun x=>Mw (csc.names.lookup x),pn:=[],xe:=fun _ _=>False}
structure LcCx(X:Cx)(csc:Scope)(N':List Str)(X':Cx):Prop where
 is:∃cl s H fp,X'=Sn X csc cl N' s H fp
def Br(σ:St)(cap:List (Str×Nat)):St:=cap.map fun p=> (σ[p.2]?).join
structure LcOk(X:Cx)(csc:Scope)(nc:List Str)(cap:List (Str×Nat)):Prop where
 kind:csc.kind=.function
 cells:∀y∈csc.names,y.2=.cell→csc.names.lookup y.1=some .cell
 locals:∀y∈csc.names,y.2=.local→csc.names.lookup y.1=some .local
 free:∀y∈csc.names,y.2=.free→X.env.scope.names.lookup y.1=some .cell∨X.env.scope.names.lookup y.1=some .free
 caps:∀p∈cap,X.N[p.2]?=some p.1∧csc.names.lookup p.1=some .free
abbrev Ab(nc:List Str)(cap:List (Str×Nat)):List Str:=nc++cap.map (·.1)
abbrev HG(nc:List Str)(σ:St)(cap:List (Str×Nat)):St:=e9 nc.length none++Br σ cap
theorem Ar{α:Type}:∀{l:List (Str×α)} {x:Str} {v:α},l.lookup x=some v→(x,v)∈l
 | [],_,_,h=>by simp at h
 | (n,k)::r,x,v,h=>by
  rw[eS] at h
  cases hx:x==n with
  |true=>rw[hx] at h;cases h;rw[beq_iff_eq.mp hx];exact dP
  |false=>rw[hx] at h;exact dw _ (Ar h)
theorem LJ:∀(names:List (Str×NameKind)) (L:Nat) (a acc:List (Str×Addr)),gj L names (a++acc)=gj L names a++acc
 | [],_,_,_=>rfl
 | (n,k)::r,L,a,acc=>by
  unfold gj
  split
  ·exact LJ r (L+1) ((n,L)::a) acc
  ·exact LJ r L a acc
theorem WV(names:List (Str×NameKind))(L:Nat)(acc:List (Str×Addr)):gj L names acc=gj L names []++acc:=LJ names L [] acc
theorem LK:∀(names:List (Str×NameKind)) (L:Nat) (acc:List (Str×Addr)) (x:Str) (c:Addr),(x,c)∈gj L names acc→(x,.cell)∈names∨(x,c)∈acc
 | [],_,_,_,_,h=> .inr h
 | (n,k)::r,L,acc,x,c,h=>by
  unfold gj at h
  split at h
  ·rename_i hk
   rcases LK r (L+1) _ x c h with h|h
   ·exact .inl (dw _ h)
   ·rcases dh.mp h with h|h
    ·cases h
     rw[eq_of_beq hk]
     exact .inl dP
    ·exact .inr h
  ·rcases LK r L _ x c h with h|h
   ·exact .inl (dw _ h)
   ·exact .inr h
theorem IR:∀(names:List (Str×NameKind)) (L:Nat) (acc:List (Str×Addr)) (x:Str),((x,.cell)∈names∨(acc.lookup x).isSome=true)→((gj L names acc).lookup x).isSome=true
 | [],_,_,_,h=>h.elim (fun z=>by cases z) id
 | (n,k)::r,L,acc,x,h=>by
  unfold gj
  split
  ·refine IR r (L+1) _ x ?_
   rcases h with h|h
   ·rcases dh.mp h with h|h
    ·cases h
     exact .inr (by rw[eS,beq_self_eq_true];rfl)
    ·exact .inl h
   ·refine .inr ?_
    rw[eS]
    cases x==n with
    |true=>rfl
    |false=>exact h
  ·rename_i hk
   refine IR r L acc x ?_
   rcases h with h|h
   ·rcases dh.mp h with h|h
    ·cases h;exact absurd rfl hk
    ·exact .inl h
   ·exact .inr h
theorem Dh{α:Type}:∀{l m:List (Str×α)} {x:Str},(l++m).lookup x=match l.lookup x with|some v=>some v|none=>m.lookup x
 | [],_,_=>rfl
 | (n,k)::r,m,x=>by
  rw[eZ,eS,eS]
  cases x==n with
  |true=>rfl
  |false=>exact Dh
structure LcCells(X:Cx)(csc:Scope)(cs:List (Str×Addr))(s:b6)(h1:Heap):Prop where
 at_:∀x c,cs.lookup x=some c→(csc.names.lookup x=some .cell∧s.heap.objs.size≤c∧h1.IsCell c none)∨(csc.names.lookup x≠some .cell∧X.env.cells.lookup x=some c)
 has:∀x,csc.names.lookup x=some .free∨csc.names.lookup x=some .cell→∃c,cs.lookup x=some c
 inj:∀x y c,cs.lookup x=some c→cs.lookup y=some c→x=y
theorem So{X:Cx}{csc:Scope}{cl:List (Str×Addr)}{nc:List Str}{cap:List (Str×Nat)}{pins:List (Addr×Obj)}{σ:St}{H:Hp}{s:b6}{o:Obj}
  (ok:LcOk X csc nc cap) (I:Inv X pins σ H s) (hc1:∀x c,cl.lookup x=some c→X.env.cells.lookup x=some c) (hc2:∀y∈csc.names,y.2=.free→(cl.lookup y.1).isSome=true):
  LcCells X csc (gj (s.heap.objs.size+1) csc.names cl) s (lW (s.heap.push o) csc.names):=by
 have nk:=cellsFrom_ok csc.names (s.heap.push o) (s.heap.objs.size+1) [] ⟨fun _ _ hm=> (nomatch hm),iH⟩ (by rw[fL];exact dm _)
 rw[fL] at nk
 rw[WV]
 have split:∀x c,(gj (s.heap.objs.size+1) csc.names []++cl).lookup x=some c→((x,c)∈gj (s.heap.objs.size+1) csc.names []∧csc.names.lookup x=some .cell)∨(csc.names.lookup x≠some .cell∧cl.lookup x=some c):=fun x c e=>by
  rw[Dh] at e
  cases hx:(gj (s.heap.objs.size+1) csc.names []).lookup x with
  |some v=>
   rw[hx] at e
   cases e
   have m:=Ar hx
   refine .inl ⟨m,?_⟩
   rcases LK _ _ _ _ _ m with z|z
   ·exact ok.cells _ z rfl
   ·cases z
  |none=>
   rw[hx] at e
   refine .inr ⟨fun z=>?_,e⟩
   have:=IR csc.names (s.heap.objs.size+1) [] x (.inl (Ar z))
   rw[hx] at this
   cases this
 refine⟨fun x c e=>?_,fun x hx=>?_,fun x y c e1 e2=>?_⟩
 ·rcases split x c e with⟨m,k⟩| ⟨k,e⟩
  ·exact .inl ⟨k,kJ (nk.empty x c m).2,(nk.empty x c m).1⟩
  ·exact .inr ⟨k,hc1 x c e⟩
 ·refine Option.isSome_iff_exists.mp ?_
  rw[Dh]
  cases hn:(gj (s.heap.objs.size+1) csc.names []).lookup x with
  |some v=>rfl
  |none=>
   rcases hx with hx|hx
   ·exact hc2 _ (Ar hx) rfl
   ·have:=IR csc.names (s.heap.objs.size+1) [] x (.inl (Ar hx))
    rw[hn] at this
    cases this
 ·have old:∀z,cl.lookup z=some c→c<s.heap.objs.size:=fun z e=>by
   obtain⟨v,hv⟩:=I.cell z c (hc1 z c e)
   exact hv.lt
  rcases split x c e1 with⟨m1,_⟩| ⟨_,g1⟩<;>rcases split y c e2 with⟨m2,_⟩| ⟨_,g2⟩
  ·exact name_of_addr nk.apart m1 m2
  ·exact absurd (dG (old y g2) (kJ (nk.empty x c m1).2)) (e6 _)
  ·exact absurd (dG (old x g1) (kJ (nk.empty y c m2).2)) (e6 _)
  ·exact I.ok.inj x y c (hc1 x c g1) (hc1 y c g2)
section
variable{M:Model}{A:dH}{E:Value→b6→Prop}{s:b6}
theorem Pe{scope:Scope}{globals:Addr}{closure:List (Str×Addr)}{qual:Str}{env:Env}{Q:Env→b6→Prop}
  (hQ:Q (newEnv scope s.heap.objs.size globals (gj (s.heap.objs.size+1) scope.names closure) qual none .none (some env) ml) {s with heap:=lW (s.heap.push {cls:=.type "dict",data:=.dict #[]}) scope.names}):
  wpAny M A (lK scope globals closure [] qual none .none (some env)) Q E s:=by
 simp only[lK,Option.isSome_some,if_true]
 refine b4 (wpAny_alloc ?_)
 refine b4 (wpAny_layCells _ (fun name kind cells=>by cases hkc:kind==ja<;>simp[hkc]) _ _ _ _ ?_)
 rw[show({s with heap:=s.heap.push {cls:=.type "dict",data:=.dict #[]}}:b6).heap.objs.size=s.heap.objs.size+1 from fL ..]
 refine b4 ?_
 rw[List.forIn_nil]
 exact b7 (b7 hQ)
end
theorem WX{X:Cx}{csc:Scope}{cl:List (Str×Addr)}{nc:List Str}{cap:List (Str×Nat)}{pins:List (Addr×Obj)}{σ:St}{H:Hp}{s:b6}{h1:Heap}{fp:List Addr}
  (ok:LcOk X csc nc cap) (I:Inv X pins σ H s) (C:LcCells X csc cl s h1)
  (hf:∀b∈fp,Fp X pins H b) (ho:∀b∈fp,∃o,s.heap.get? b=some o)
  (hn:h1.Ns s.heap.objs.size (fun _=>none)) (kept:∀b o,s.heap.get? b=some o→h1.get? b=some o):
  Inv (Sn X csc cl (Ab nc cap) s H fp) [] (HG nc σ cap) H {s with heap:=h1}:=by
 have frel:∀x,csc.names.lookup x=some .free→(mz csc cl s.heap.objs.size X.env).kindOf x=some .cell∨(mz csc cl s.heap.objs.size X.env).kindOf x=some .free:=fun x h=>Dw h
 have back:∀{names:List (Str×NameKind)} {x:Str},((names.map fun(n,k)=>if(k==NameKind.free&&X.env.scope.kind==.function&&X.env.kindOf n==some .cell) then(n,ja) else(n,k)).lookup x=some .cell∨
   (names.map fun(n,k)=>if(k==NameKind.free&&X.env.scope.kind==.function&&X.env.kindOf n==some .cell) then(n,ja) else(n,k)).lookup x=some .free)→
   names.lookup x=some .free∨names.lookup x=some .cell:=by
  intro names
  induction names with
  |nil=>intro x h;simp at h
  |cons p r ih=>
   obtain⟨n,k⟩:=p
   intro x h
   rw[dM] at h
   cases hx:x==n with
   |true=>
    rw[eS,hx]
    have e:∀(kk:NameKind) (l:List (Str×NameKind)),((n,kk)::l).lookup x=some kk:=fun kk l=>by rw[eS,hx]
    by_cases hcnd:(k==NameKind.free&&X.env.scope.kind==.function&&X.env.kindOf n==some .cell)=true
    ·left
     have:(k==NameKind.free)=true:=by
      revert hcnd;cases(k==NameKind.free)<;>simp
     show some k=some .free
     rw[eq_of_beq this]
    ·simp only[if_neg hcnd] at h
     rw[e,] at h
     exact h.symm
   |false=>
    have e:∀(kk:NameKind) (l:List (Str×NameKind)),((n,kk)::l).lookup x=l.lookup x:=fun kk l=>by rw[eS,hx]
    by_cases hcnd:(k==NameKind.free&&X.env.scope.kind==.function&&X.env.kindOf n==some .cell)=true
    ·simp only[if_pos hcnd] at h
     rw[e] at h
     rw[e]
     exact ih h
    ·simp only[if_neg hcnd] at h
     rw[e] at h
     rw[e]
     exact ih h
 refine⟨⟨I.ok.mod,ok.kind,I.ok.glob,I.ok.blt,dm _,C.inj,fun x hx=>C.has x (back hx),fun x c e1 e2=>?_,I.ok.hd,I.ok.frames,.inl rfl,fun b hb=> ⟨?_,fun x c e=>?_⟩,
  I.bs,fI I.ok.bsz I.sz,fun b o e hb=>?_,fun b hb z=>?_,I.stack,I.stkFree⟩,rfl,I.bare,⟨fun b o e _ _ _=>kept b o e,fun b o e _ _ _=> ⟨o.slots,kept b o e⟩,fun b o e n _=>n,fun b o e _=> ⟨o,kept b o e⟩,fun _ _ e=>e,fun _ _ _ e=>e,fun b ps e=> ⟨#[],by rw[show H b=some (HO.tbl ps) from e];simp⟩⟩,
  ⟨_,hn,fun i x v e1 e2 e3=>?_⟩,fun x c e=>?_,I.hok.fresh (dm _),fun x c e=> (C.at_ x c e).elim (fun z=>I.hok.fresh z.2.1) (fun z=>I.freeC x c z.2),fun p hp=>absurd (show p∈([]:List (Addr×Obj)) from hp) (by simp),I.hok.kept kept,?_⟩
 ·rcases C.at_ x c e2 with z|z
  ·exact z.2.1
  ·exact absurd (Jl e1) z.1
 ·obtain⟨o,e⟩:=ho b hb
  exact dN (du e)
 ·rcases C.at_ x c e with z|z
  ·obtain⟨o,e⟩:=ho b hb
   exact j7 (dG (du e) z.2.1)
  ·exact(hf b hb).2.2.2.2.1 x c z.2
 ·have h1:=(hf b hb).2.2.2.1
  rcases h1 with z|z
  ·exact I.ok.noex b o e z
  ·exact absurd (dG (du e) (fI I.ok.bsz z)) (e6 _)
 ·have h1:=(hf b hb).2.1
  have h2:=(hf b hb).2.2.1
  exact(dh.mp (I.stkSub b z)).elim h1 h2
 ·--the names
  have hlen:nc.length≤i:=by
   by_cases hi:i<nc.length
   ·have e2':(e9 nc.length (none:Option V)++Br σ cap)[i]?=some (some v):=e2
    rw[eF (by simpa using hi),gw] at e2'
    split at e2'<;>cases e2'
   ·omega
  have e1':(nc++cap.map (·.1))[i]?=some x:=e1
  have e2':(e9 nc.length (none:Option V)++Br σ cap)[i]?=some (some v):=e2
  rw[dQ hlen,b9] at e1'
  rw[dQ (by simpa using hlen)] at e2'
  simp only[fQ] at e2'
  unfold Br at e2'
  rw[b9] at e2'
  cases hp:cap[i-nc.length]? with
  |none=>rw[hp] at e1';cases e1'
  |some p=>
   rw[hp] at e1' e2'
   have e1'':p.1=x:=dW.inj e1'
   have e2'':(σ[p.2]?).join=some v:=dW.inj e2'
   subst e1''
   obtain⟨c1,c2⟩:=ok.caps p (dj hp)
   have hσ:σ[p.2]?=some (some v):=by
    cases q:σ[p.2]? with
    |none=>rw[q] at e2'';cases e2''
    |some w'=>rw[q] at e2'';exact congrArg some e2''
   have vis:X.env.scope.names.lookup p.1=some .cell∨X.env.scope.names.lookup p.1=some .free:=ok.free _ (Ar c2) rfl
   obtain⟨m,_,hl⟩:=I.loc
   obtain⟨u,r,l⟩:=hl p.2 p.1 v c1 hσ (vis.elim (fun z=> .inr (.inl z)) fun z=> .inr (.inr z))
   refine⟨u,r,.inr ⟨frel p.1 c2,?_⟩⟩
   rcases l with⟨k,_⟩| ⟨_,c,e,z⟩
   ·have k:X.env.scope.names.lookup p.1=some .local:=k
    rcases vis with q|q<;> (rw[q] at k;cases k)
   ·obtain⟨c',e''⟩:=C.has p.1 (.inl c2)
    have q:X.env.cells.lookup p.1=some c':=by
     rcases C.at_ _ _ e'' with z|z
     ·rw[c2] at z;cases z.1
     ·exact z.2
    rw[e] at q;cases q
    obtain⟨o,z1,z2⟩:=z
    exact⟨c,e'',o,kept c o z1,z2⟩
 ·rcases C.at_ x c e with z|z
  ·exact⟨none,z.2.2⟩
  ·obtain⟨v,o,z1,z2⟩:=I.cell x c z.2
   exact⟨v,o,kept c o z1,z2⟩
 ·show(e9 nc.length (none:Option V)++Br σ cap).length=(nc++cap.map (·.1)).length
  unfold Br
  simp
section
variable{prog:Program}{w:World}{A:dH}{R:mV→b6→Prop}{s:b6}
abbrev Sq:Value→b6→Prop:=fun _ _=>False
theorem Cy{elt target iter:Expr}{ifs:List Expr}{scope:Scope}{pos:Pos}{it acc:Value}{env:Env}(I:Nat→b6→Prop)
  (turn:∀n s,I n s→wpAny (model prog w) A (jz it) (fun r s₁=>match r with
   |none=>R (.ok .next) s₁
   |some v=>wpAny (model prog w) A (jV target it v) (fun _ s₂=>wpAny (model prog w) A (assign target env v) (fun _ s₃=>
     wpAny (model prog w) A (forIn ifs true fun c r=>if r=true then do let ok←isTrue c env (eval c env);pure (gF ok) else pure (gF r)) (fun ok s₄=>
      if ok=true then wpAny (model prog w) A (eval elt env) (fun x s₅=>
       wpAny (model prog w) A (call (.builtin "list.append") [acc,x]) (fun _ s₆=>∃m,m<n∧I m s₆) Sq s₅) Sq s₄
      else∃m,m<n∧I m s₄) Sq s₃) Sq s₂) Sq s₁) Sq s)
  (n:Nat) (h:I n s):
  iY (model prog w) A (.compLoop (.ListComp elt [⟨target,iter,ifs,0⟩] scope pos) 0 it acc env) R s:=by
 refine codeAny_loop rfl I (fun n s hI=>?_) n h
 show wpAny _ A ((compTurn (.ListComp elt [⟨target,iter,ifs,0⟩] scope pos) 0 it acc env).onRaise (fun x=>do noteFrame x env;theTreesLotGoes x)) _ _ s
 refine wpAny_noted (wpAny_noRaise ?_)
 rw[compTurn_list]
 refine b4 (jk (b4 (Ay (turn n s hI) fun r s₁ h₁=>?_)))
 cases r with
 |none=>exact b7 h₁
 |some v=>
  refine b4 (Ay h₁ fun _ s₂ h₂=>b4 (Ay h₂ fun _ s₃ h₃=>b4 (Ay h₃ fun ok s₄ h₄=>?_)))
  cases ok with
  |true=>
   rw[if_pos rfl] at h₄ ⊢
   exact b4 (b4 (Ay h₄ fun x s₅ h₅=>b4 (Ay h₅ fun _ s₆ h₆=>b7 (b7 ⟨rfl,h₆⟩))))
  |false=>
   rw[if_neg dc] at h₄ ⊢
   exact b4 (b7 (b7 ⟨rfl,h₄⟩))
end
def WY(X:Cx)(ifs:List Expr)(t:TT):Prop:=
 ∀(pins:List (Addr×Obj)) (s:b6) (σ:St) (H:Hp) (Q:Bool→Hp→Prop),Inv X pins σ H s→t σ H Q→
  wpAny (model X.prog X.w) X.A (forIn ifs true fun c r=>if r=true then do let ok←isTrue c X.env (eval c X.env);pure (gF ok) else pure (gF r)) (TP X pins σ Q) X.xe s
def Yt:TT:=fun _ H Q=>Q true H
theorem Sr{X:Cx}:WY X [] Yt:=fun _ _ _ H _ I h=>wpAny_tests_nil ⟨H,I,h⟩
theorem Ss{X:Cx}{c:Expr}{t:TT}(h:PT X c t):WY X [c] t:=fun pins s σ H Q I q=>wpAny_tests_one (h pins s σ H Q I q)
def Uw(nc:List Str)(cap:List (Str×Nat))(g:TG)(tt:TT)(te:TE)(σ:St)(J:It)(p:Addr)(H:Hp)(Q:Hp→Prop):Prop:=
 ∃W:Nat→Nat→Hp→Prop,(∃m,W 0 m (upd H p (.lst [])))∧∀i m H2,W i m H2→
  (J.stop i H2∧Q H2)∨(J.go i H2∧∃N:Hp→Prop,(∀H',N H'→∃m',m'<m∧W (i+1) m' H')∧∀x H3,J.yld i H2 x H3→g x (HG nc σ cap) H3 fun σ4 H4=> (∃pre:St,pre.length=nc.length∧σ4=pre++Br σ cap)∧tt σ4 H4 fun b H5=>
   if b=true then te σ4 H5 fun y H6=>∃ys,H6 p=some (.lst ys)∧ys.length<sizeLine∧N (upd H6 p (.lst (ys++[y])))
   else N H5)
def aX(wi:TI)(nc:List Str)(cap:List (Str×Nat))(g:TG)(tt:TT)(te:TE):TE:=fun σ H Q=>wi σ H fun J H1=>∀p,H1 p=none→Uw nc cap g tt te σ J p H1 (Q (.ref p))
section
variable{X:Cx}{elt tg iter:Expr}{ifs:List Expr}{csc:Scope}{nc:List Str}{cap:List (Str×Nat)}{wi:TI}{g:TG}{tt:TT}{te:TE}{pos:Pos}
theorem Jm{pins:List (Addr×Obj)}{σ:St}{s2:b6}{H2:Hp}{it:Addr}{fp:List Addr}{tn:Nat→Heap→Prop}{J:It}{cl:List (Str×Addr)}{Q:Hp→Prop}{RR:Value→Addr→mV→b6→Prop}{E:Value→b6→Prop}
  (hc:X.calm=true) (ok:LcOk X csc nc cap) (hg:∀X',LcCx X csc (Ab nc cap) X'→PG X' tg g) (ht:∀X',LcCx X csc (Ab nc cap) X'→WY X' ifs tt) (he:∀X',LcCx X csc (Ab nc cap) X'→PE X' elt te)
  (hc1:∀x c,cl.lookup x=some c→X.env.cells.lookup x=some c) (hc2:∀y∈csc.names,y.2=.free→(cl.lookup y.1).isSome=true)
  (I2:Inv X pins σ H2 s2) (T:Turn X.prog X.w X.K tg J fp it tn) (st2:tn 0 s2.heap) (f2:∀b∈fp,Fp X pins H2 b) (run:Uw nc cap g tt te σ J s2.heap.objs.size H2 Q)
  (out:∀(C:Addr) (H':Hp) (s':b6),Inv X pins σ H' s'→(∃m,s'.heap.Ns C m)→H' C=none→C≠X.env.locals→X.s₀.heap.objs.size≤C→(∀x c,X.env.cells.lookup x=some c→c≠C)→(∀p∈X.pn++pins,p.1≠C)→Q H'→RR (.ref s2.heap.objs.size) C (.ok .next) s'):
  wpAny (model X.prog X.w) X.A (newList []) (fun acc s₃=>wpAny (model X.prog X.w) X.A (lK csc X.env.globals cl [] X.env.qual none .none (some X.env)) (fun cenv s₄=>
   iY (model X.prog X.w) X.A (.compStart (.ListComp elt [⟨tg,iter,ifs,0⟩] csc pos) 0 (.ref it) acc {cenv with scope:=relabel csc X.env}) (RR acc cenv.locals) s₄) E s₃) E s2:=by
 refine fS ?_
 have hp:H2 s2.heap.objs.size=none:=I2.hok.fresh (dm _)
 have I3:Inv X pins σ (upd H2 s2.heap.objs.size (.lst [])) {s2 with heap:=s2.heap.push {cls:=.type "list",dict:=none,data:=.seq ([]:List Value).toArray}}:=
  I2.laid (t':=s2.toks) (fun b u e=>da _ e) (dm _) ⟨fb _,[],0,.nil,dF _ rfl⟩
 generalize hs3:({s2 with heap:=s2.heap.push {cls:=.type "list",dict:=none,data:=.seq ([]:List Value).toArray}}:b6)=s3 at I3
 have hk3:∀b o,s2.heap.get? b=some o→s3.heap.get? b=some o:=fun b o e=>by rw[←hs3];exact da _ e
 generalize hp0:s2.heap.objs.size=p at*
 have hlt:∀b∈fp,b<p:=fun b hb=>by
  obtain⟨o,e,_⟩:=T.obj 0 _ st2 b hb
  rw[←hp0];exact du e
 have f3:∀b∈fp,Fp X pins (upd H2 p (.lst [])) b:=fun b hb=> ⟨by rw[AR (dN (hlt b hb))];exact(f2 b hb).1,(f2 b hb).2⟩
 have st3:tn 0 s3.heap:=T.keep 0 _ _ st2 fun b _ o e=>hk3 b o e
 refine Pe ?_
 have LC:=So (o:={cls:=.type "dict",data:=.dict #[]}) ok I3 hc1 hc2
 have hns:(lW (s3.heap.push {cls:=.type "dict",data:=.dict #[]}) csc.names).Ns s3.heap.objs.size (fun _=>none):=(Heap.Ns.new s3.heap (.type "dict")).keeps (pushCells_keeps _ _)
 have kept4:∀b o,s3.heap.get? b=some o→(lW (s3.heap.push {cls:=.type "dict",data:=.dict #[]}) csc.names).get? b=some o:=fun b o e=>pushCells_keeps _ _ b o (da _ e)
 generalize hcs:gj (s3.heap.objs.size+1) csc.names cl=cs at LC ⊢
 generalize hh1:lW (s3.heap.push {cls:=.type "dict",data:=.dict #[]}) csc.names=h₁ at LC hns kept4 ⊢
 have hcc:∀x c,cs.lookup x=some c→X.env.cells.lookup x=some c∨s3.heap.objs.size≤c:=fun x c e=> (LC.at_ x c e).elim (fun z=> .inr z.2.1) (fun z=> .inl z.2)
 have I4:Inv (Sn X csc cs (Ab nc cap) s3 (upd H2 p (.lst [])) fp) [] (HG nc σ cap) (upd H2 p (.lst [])) {s3 with heap:=h₁}:=
  WX ok I3 LC f3 (fun b hb=> (T.obj 0 _ st3 b hb).imp fun o q=>q.1) hns kept4
 have st4:tn 0 h₁:=T.keep 0 _ _ st3 fun b _ o e=>kept4 b o e
 generalize hX':Sn X csc cs (Ab nc cap) s3 (upd H2 p (.lst [])) fp=X' at I4
 have is':LcCx X csc (Ab nc cap) X':=⟨_,_,_,_,hX'.symm⟩
 have hP:X'.prog=X.prog:=by rw[←hX'];rfl
 have hw:X'.w=X.w:=by rw[←hX'];rfl
 have hK:X'.K=X.K:=by rw[←hX'];rfl
 have hA:X'.A=X.A:=by rw[←hX'];rfl
 have hcal:X'.calm=true:=by rw[←hX'];exact hc
 have hE:X'.env=mz csc cs s3.heap.objs.size X.env:=by rw[←hX'];rfl
 have hxe:X'.xe=Sq:=by rw[←hX'];rfl
 have hfs:X'.fs=HE X.stack:=by rw[←hX'];rfl
 have hex:X'.ex=fp:=by rw[←hX'];rfl
 have hs0:X'.s₀=s3:=by rw[←hX'];rfl
 have hH0:X'.H₀=upd H2 p (.lst []):=by rw[←hX'];rfl
 have hpn:X'.pn=[]:=by rw[←hX'];rfl
 have stat:∀{H':Hp},(∀b∈fp,H' b=none)→∀b∈fp,Fp X' [] H' b:=fun{H'} hn b hb=>by
  obtain⟨_,q2,q3,q4,q5,q6⟩:=f3 b hb
  obtain⟨o,e,_⟩:=T.obj 0 _ st3 b hb
  refine⟨hn b hb,?_,?_,?_,?_,?_⟩
  ·rw[hE];exact dN (du e)
  ·rw[hfs];exact fun z=> (dh.mp (I3.stkSub b z)).elim q2 q3
  ·rw[hex];exact .inl hb
  ·rw[hE];exact fun x c e'=> (hcc x c e').elim (fun z=>q5 x c z) fun z=>j7 (dG (du e) z)
  ·rw[hpn];intro p hp;simp at hp
 obtain⟨W,⟨m0,w0⟩,turn⟩:=run
 have loop:∀s4:b6,s4={s3 with heap:=h₁}→iY (model X.prog X.w) X.A (.compLoop (.ListComp elt [⟨tg,iter,ifs,0⟩] csc pos) 0 (.ref it) (.ref p) (mz csc cs s3.heap.objs.size X.env)) (RR (.ref p) s3.heap.objs.size) s4:=by
  rintro s4 rfl
  refine Cy (fun n s'=>∃i H',Inv X' [] (HG nc σ cap) H' s'∧tn i s'.heap∧(∀b∈fp,H' b=none)∧W i n H') ?_ m0 ⟨0,_,I4,st4,fun b hb=> (f3 b hb).1,w0⟩
  rintro n s5 ⟨i,H5,I5,st5,fr5,w5⟩
  rcases turn i n H5 w5 with⟨stop,qn⟩| ⟨go,N,hN,step⟩
  ·have q:=T.done X' hP hw hK hcal i [] s5 (HG nc σ cap) H5 Sq I5 (stat fr5) st5 stop
   rw[hA] at q
   refine Ay q fun r s6 ⟨hr,I6⟩=>?_
   subst hr
   have B:=I6.base
   rw[hfs,hex,hs0,hH0] at B
   have I7:Inv X pins σ H5 s6:=by
    refine I3.call' (ch:=fp) (by rw[I6.os,hs0]) B (by have:=I6.hok;rw[hP,hw] at this;exact this) I6.bare fun b hb=>?_
    obtain⟨_,q2,q3,q4,q5,q6⟩:=f3 b hb
    exact⟨q4,q2,q5,q6⟩
   obtain⟨m,hm,_⟩:=I6.loc
   have hCf:=I6.free
   rw[hE] at hm hCf
   refine out _ H5 s6 I7 ⟨m,hm⟩ hCf (j7 I3.lt) I3.sz (fun x c e z=>?_) (fun p hp z=>?_) qn
   ·obtain⟨v,hv⟩:=I3.cell x c e
    exact absurd hv.lt (by rw[z];exact e6 _)
   ·exact absurd (du (I3.pin p hp).1) (by rw[z];exact e6 _)
  ·have q:=T.item X' hP hw hK hcal i [] s5 (HG nc σ cap) H5 Sq I5 (stat fr5) st5 go
   rw[hA] at q
   refine Ay q fun r s6 ⟨u,hr,h6⟩=>?_
   subst hr
   refine Ay h6 fun _ s7 ⟨x,H7,I7,r7,y7,st7,fr7⟩=>?_
   have I7':=I7.pinned (stat fr7) (T.obj _ _ st7)
   have q8:=hg X' is' _ s7 _ H7 x u _ I7' r7 (step x H7 y7)
   rw[hP,hw,hA,hE,hxe] at q8
   refine Ay q8 fun _ s8 ⟨σ8,H8,I8,⟨pre,hpl,hσ8⟩,q8⟩=>?_
   have q9:=ht X' is' _ s8 σ8 H8 _ I8 q8
   rw[hP,hw,hA,hE,hxe] at q9
   have wk:∀{s':b6} {H':Hp} {pl:List (Addr×Obj)},Inv X' pl σ8 H' s'→Inv X' pl (HG nc σ cap) H' s':=fun{s' H' pl} J'=>by
    refine J'.weak (by rw[J'.len,I4.len]) fun j v e=>?_
    rw[hσ8]
    by_cases hj:j<nc.length
    ·have e:(e9 nc.length (none:Option V)++Br σ cap)[j]?=some (some v):=e
     rw[eF (by simpa using hj),gw] at e
     split at e<;>cases e
    ·have e:(e9 nc.length (none:Option V)++Br σ cap)[j]?=some (some v):=e
     rw[dQ (by simpa using hj)] at e
     rw[dQ (by omega),hpl]
     simpa using e
   have again:∀{s':b6} {H':Hp} {m':Nat},Inv X' ([]++Fq fp s7.heap) σ8 H' s'→m'<n→W (i+1) m' H'→
     ∃m,m<n∧∃i H',Inv X' [] (HG nc σ cap) H' s'∧tn i s'.heap∧(∀b∈fp,H' b=none)∧W i m H':=fun{s' H' m'} J' hm hW=>by
    refine⟨m',hm,i+1,H',wk J'.unpinned,T.keep _ _ _ st7 fun b hb o e=> (J'.pin (b,o) (eV _ (eV _ (CK hb e)))).1,fun b hb=>?_,hW⟩
    obtain⟨o,e,d⟩:=T.obj _ _ st7 b hb
    exact(J'.pin (b,o) (eV _ (eV _ (CK hb e)))).2.1
   refine Ay q9 fun b s9 ⟨H9,I9,q9⟩=>?_
   cases b with
   |false=>
    rw[if_neg dc] at q9 ⊢
    obtain⟨m',hm,hW⟩:=hN _ q9
    exact again I9 hm hW
   |true=>
    rw[if_pos rfl] at q9 ⊢
    have qe:=he X' is' _ s9 σ8 H9 _ I9 q9
    rw[hP,hw,hA,hE,hxe] at qe
    refine Ay qe fun u s10 ⟨y,H10,I10,ry,ys,hys,hlen,hNn⟩=>?_
    obtain⟨m',hm,hW⟩:=hN _ hNn
    have qa:=HX (X:=X') _ s10 σ8 H10 (.ref p) [y] (.ref p) [u] (fun _ H'=>H'=upd H10 p (.lst (ys++[y]))) I10 rfl (.cons ry .nil) ⟨p,ys,y,rfl,rfl,hys,hlen,rfl⟩
    rw[hP,hw,hA,hxe] at qa
    refine Ay qa fun _ s11 ⟨_,H11,I11,_,e11⟩=>?_
    subst e11
    exact again I11 hm hW
 have st5:=loop _ rfl
 exact codeAny_compStart_list (loop _ rfl) (T.self X.A 0 _ _ _ st4 (loop _ rfl))
end
section
variable{X:Cx}{elt tg iter:Expr}{ifs:List Expr}{csc:Scope}{nc:List Str}{cap:List (Str×Nat)}{wi:TI}{g:TG}{tt:TT}{te:TE}{pos:Pos}
theorem LcOk.clos{pins:List (Addr×Obj)}{σ:St}{H:Hp}{s:b6}(ok:LcOk X csc nc cap)(I:Inv X pins σ H s):
  ∃cl,closureFor csc X.env=pure cl∧(∀x c,cl.lookup x=some c→X.env.cells.lookup x=some c)∧∀y∈csc.names,y.2=.free→(cl.lookup y.1).isSome=true:=
 Sm fun y hy hf=>I.ok.has y.1 (ok.free y hy hf)
theorem Ux(hc:X.calm=true)(ok:LcOk X csc nc cap)(hi:PI X tg iter wi)(hg:∀X',LcCx X csc (Ab nc cap) X'→PG X' tg g)(ht:∀X',LcCx X csc (Ab nc cap) X'→WY X' ifs tt)(he:∀X',LcCx X csc (Ab nc cap) X'→PE X' elt te)
  (hs:∀x,fw iter X.env x=pure x:=by intro _;rfl):PE X (.ListComp elt [⟨tg,iter,ifs,0⟩] csc pos) (aX wi nc cap g tt te):=by
 intro pins s σ H Q I h
 obtain⟨cl,hcl,hc1,hc2⟩:=ok.clos I
 rw[eval_ListComp]
 refine wpAny_comprehension_free (use:=none) rfl hs hcl ok.kind ok.locals (Ay (hi pins s σ H _ I h) fun v s1 h1=>Ay h1 fun itv s2 h2=>?_)
 obtain⟨it,fp,tn,J,H2,e,I2,T,st2,f2,run⟩:=h2
 subst e
 refine Jm (RR:=fun acc C=>compPost (model X.prog X.w) X.A X.xe none (EP X pins σ Q) acc C) hc ok hg ht he hc1 hc2 I2 T st2 f2 (run _ (I2.hok.fresh (dm _))) ?_
 intro C H' s' I' hn h1 h2 h3 h4 h5 q
 obtain⟨m,hn⟩:=hn
 refine⟨m,hn,fun h' sb=> ⟨.ref s2.heap.objs.size,H',?_,rfl,q⟩⟩
 exact I'.turned (t':=s'.toks) (fun b o hb e=> (sb.2 b hb).trans e) h1 h2 (.inr h3) h4 h5
def WZ(i:Nat)(te:TE):TS:=fun D σ H=>te σ H fun v H1=>D.nx (σ.set i (some v)) H1
theorem Jn{i:Nat}{x:Str}{px spos:Pos}(hN:X.N.Nodup)(hx:X.N[i]?=some x)(hk:X.env.scope.names.lookup x=some .local)(hsw:kc (.ListComp elt [⟨tg,iter,ifs,0⟩] csc pos) (some (.Name x px)) spos.line X.env=pure true)
  (hc:X.calm=true) (ok:LcOk X csc nc cap) (hi:PI X tg iter wi) (hg:∀X',LcCx X csc (Ab nc cap) X'→PG X' tg g) (ht:∀X',LcCx X csc (Ab nc cap) X'→WY X' ifs tt) (he:∀X',LcCx X csc (Ab nc cap) X'→PE X' elt te)
  (hs:∀x,fw iter X.env x=pure x:=by intro _;rfl):PS X (.Assign [.Name x px] (.ListComp elt [⟨tg,iter,ifs,0⟩] csc pos) spos) (WZ i (aX wi nc cap g tt te)):=by
 intro pins s σ H D I h
 obtain⟨cl,hcl,hc1,hc2⟩:=ok.clos I
 rw[exec_Assign_Name_used _ _ _ _ hsw]
 refine b4 (jk (b4 ?_))
 show wpAny _ X.A (do let _←comprehension (.ListComp elt [⟨tg,iter,ifs,0⟩] csc pos) csc X.env _ (newList []) false (eval iter X.env) (some (assign (.Name x px) X.env))) _ _ s
 refine b4 (Ay (wpAny_comprehension_free (use:=some (assign (.Name x px) X.env)) (Q:=fun _ s'=>SP X pins D .next s') rfl hs hcl ok.kind ok.locals
  (Ay (hi pins s σ H _ I h) fun v s1 h1=>Ay h1 fun itv s2 h2=>?_)) fun _ s' hq=>b7 (b7 hq))
 obtain⟨it,fp,tn,J,H2,e,I2,T,st2,f2,run⟩:=h2
 subst e
 refine Jm (RR:=fun acc C=>compPost (model X.prog X.w) X.A X.xe (some (assign (.Name x px) X.env)) (fun _ s'=>SP X pins D .next s') acc C) hc ok hg ht he hc1 hc2 I2 T st2 f2 (run _ (I2.hok.fresh (dm _))) ?_
 intro C H' s' I' hn h1 h2 h3 h4 h5 q
 obtain⟨m,hn⟩:=hn
 show wpAny _ X.A (assign (.Name x px) X.env (.ref s2.heap.objs.size)) _ _ _
 refine wpAny_assign_Name (HP I' hN hx (.inl hk) (v:=.ref s2.heap.objs.size) rfl (fun s'' I'' ha=>?_) (.inr hk))
 obtain⟨a,sb,ha⟩:=ha
 have hCa:C≠a:=by
  rcases ha with ha|ha
  ·rw[ha];exact h2
  ·exact fun z=>h4 x a ha z.symm
 refine⟨m,hn.sameBut sb hCa,fun h' sb'=> ⟨_,H',?_,q⟩⟩
 exact I''.turned (t':=s''.toks) (fun b o hb e=> (sb'.2 b hb).trans e) h1 h2 (.inr h3) h4 h5
end
section
variable{K:b5}{nc:List Str}{cap:List (Str×Nat)}{g:TG}{tt:TT}{te:TE}{σ:St}{p a:Addr}{H:Hp}{Q:Hp→Prop}
end
def DK(h h':Heap):Prop:=h.objs.size≤h'.objs.size∧∀e,e<h.objs.size→(h'.objs[e]?).map (·.dict)=(h.objs[e]?).map (·.dict)
theorem DK.refl(h:Heap):DK h h:=⟨dm _,fun _ _=>rfl⟩
theorem DK.trans{a b c:Heap}(x:DK a b)(y:DK b c):DK a c:=⟨fI x.1 y.1,fun e he=> (y.2 e (dG he x.1)).trans (x.2 e he)⟩
theorem DK.push{h:Heap}{o:Obj}:DK h (h.push o):=by
 refine⟨by rw[fL];omega,fun e he=>?_⟩
 show((h.objs.push o)[e]?).map _=_
 rw[Array.getElem?_push,if_neg (by omega)]
theorem DK.upd{h:Heap}{a:Addr}{f:Obj→Obj}(hf:∀o,(f o).dict=o.dict):DK h (h.update a f):=by
 obtain⟨objs,l⟩:=h
 refine⟨by show objs.size≤(objs.modify a f).size;simp,fun e he=>?_⟩
 show((objs.modify a f)[e]?).map _=_
 rw[Array.getElem?_modify]
 split
 ·cases objs[e]? with
  |none=>rfl
  |some o=>exact congrArg some (hf o)
 ·rfl
theorem Mx{h:Heap}{e:Addr}{o:Obj}(q:h.get? e=some o):h.objs[e]?=some o:=by
 unfold Heap.get? at q
 split at q
 ·cases q
 ·exact q
theorem DK.at_{h h':Heap}{e:Addr}{o o':Obj}(x:DK h h')(q:h.get? e=some o)(q':h'.get? e=some o'):o'.dict=o.dict:=by
 have z:=x.2 e (du q)
 rw[Mx q,Mx q'] at z
 exact dW.inj z
inductive KD{α:Type}:Sem α→Prop
 |pure (a:α):KD (.pure a)
 |raise (e:Value):KD (.raise e)
 |unsup (x:String):KD (.unsupported x)
 |load {a:Addr} {p:Option Value} {k:Obj→Sem α}:(∀o,KD (k o))→KD (.load a p k)
 |upd {a:Addr} {p:Option Value} {f:Obj→Obj} {k:Unit→Sem α}:(∀o,(f o).dict=o.dict)→KD (k ())→KD (.update a p f k)
 |alloc {o:Obj} {k:Addr→Sem α}:(∀a,KD (k a))→KD (.alloc o k)
 |stack {k:List (Code×Pos)→Sem α}:(∀l,KD (k l))→KD (.stack k)
theorem KD.bind{α β:Type}{m:Sem α}{f:α→Sem β}(h:KD m)(hf:∀a,KD (f a)):KD (m>>=f):=by
 show KD (Sem.bind m f)
 induction h with
 |pure a=>exact hf a
 |raise e=>exact .raise e
 |unsup x=>exact .unsup x
 |load _ ih=>exact .load ih
 |upd q _ ih=>exact .upd q ih
 |alloc _ ih=>exact .alloc ih
 |stack _ ih=>exact .stack ih
theorem KD.wp{α:Type}{M:Model}{Γ:PySem.Ctx}{Q:α→Pos→b6→Prop}{E:Value→Pos→b6→Prop}{h0:Heap}{t:Sem α}(h:KD t):∀{p:Pos} {s:b6},DK h0 s.heap→Sem.wp M Γ t Q E p s→Sem.wp M Γ t (fun a p' s'=>Q a p' s'∧DK h0 s'.heap) E p s:=by
 induction h with
 |pure a=>intro p s d q;exact⟨q,d⟩
 |raise e=>intro p s d q;exact q
 |unsup x=>intro p s d q;exact q
 |load _ ih=>intro p s d q;obtain⟨o,e,q⟩:=q;exact⟨o,e,ih o d q⟩
 |upd hf _ ih=>intro p s d q;exact⟨q.1,ih (d.trans (.upd hf)) q.2⟩
 |alloc _ ih=>intro p s d q;exact ih _ (d.trans .push) q
 |stack _ ih=>intro p s d q;exact ih _ d q
theorem KD.any{α:Type}{M:Model}{A:dH}{Q:α→b6→Prop}{E:Value→b6→Prop}{s:b6}{t:Sem α}(h:KD t)(q:wpAny M A t Q E s):wpAny M A t (fun a s'=>Q a s'∧DK s.heap s'.heap) E s:=
 fun Γ p g=>h.wp (.refl _) (q Γ p g)
theorem KD.ite{α:Type}{c:Prop} [Decidable c]{a b:Sem α}(ha:KD a)(hb:KD b):KD (if c then a else b):=by split<;>assumption
theorem Jo(v:Value):KD (fieldsOf v):=by
 unfold fieldsOf
 split
 ·refine KD.bind (.load fun o=> .pure o) fun o=>?_
  split
  ·exact .pure _
  ·exact .unsup _
 ·exact .unsup _
theorem Dx(v:Value)(i:Nat):KD (field v i):=by
 unfold field
 refine(Jo v).bind fun vs=>?_
 split
 ·exact .pure _
 ·exact .unsup _
theorem GA(f:Array Value→Array Value)(o:Obj):(Obj.mapFields f o).dict=o.dict:=by
 unfold Obj.mapFields;split<;>rfl
theorem Cz(v:Value)(i:Nat)(x:Value):KD (setField v i x):=by
 unfold setField
 split
 ·unfold updateField
  refine KD.bind (.load fun o=> .pure o) fun o=>?_
  split
  ·exact .ite (.upd (GA _) (.pure _)) (.unsup _)
  ·exact .unsup _
 ·exact .unsup _
theorem IS(e:Value)(f:Option Addr):KD (setFlight e f):=by
 unfold setFlight
 exact(Dx e 1).bind fun tb=> .ite (Cz _ _ _) (.pure _)
theorem Jp:∀(l:List Env),KD (readyFrames l)
 | []=> .pure _
 |env::outer=>by
  unfold readyFrames
  split
  ·refine KD.bind (.load fun o=> .pure o) fun o=>?_
   refine .ite (.pure _) ?_
   refine KD.bind ?_ fun im=>?_
   ·unfold behindIsImport
    exact .ite (.pure _) (.ite (.pure _) ((Dx _ _).bind fun _=> .pure _))
   refine KD.bind ?_ fun bk=>?_
   ·unfold keptBack
    split
    ·refine .ite (.pure _) (KD.bind ?_ fun _=> .pure _)
     unfold underTheClaimsCaller
     exact KD.bind (.stack fun _=> .pure _) fun _=> .pure _
    ·exact .pure _
   exact KD.bind (.upd (fun _=>rfl) (.pure _)) fun _=>Jp outer
  ·exact .unsup _
theorem LL(env:Env):KD (l8 env):=by
 unfold l8
 refine KD.bind ?_ fun es=>?_
 ·unfold frameEnvs
  exact KD.bind (.stack fun _=> .pure _) fun _=> .pure _
 refine KD.bind ?_ fun r=>?_
 ·cases es.dropWhile (·.frame !=env.frame) with
  |nil=>exact .pure _
  |cons a b=>unfold frameObject;exact(Jp _).bind fun _=> .pure _
 split
 ·exact .pure _
 ·exact .unsup _
theorem Pf(f:Addr)(b:Bool):KD (my f b):=by
 unfold my
 refine KD.bind (.stack fun _=> .pure _) fun _=>?_
 split<;>exact .pure _
theorem Pg(h a l f i:Value)(pl:List Value):KD (j4 h a l f i pl):=by
 have z:∀d,KD (newObjAsIs (.type "traceback") d):=fun d=> .alloc fun a=> .pure _
 unfold j4 newFields newObj
 dsimp only
 exact .ite (KD.bind (.unsup _) fun _=>z _) (z _)
theorem Su(e:Value)(env:Env):KD (noteFrame e env):=by
 unfold noteFrame
 split
 ·rename_i f hf
  refine(Dx e 1).bind fun head=>?_
  have fin:KD (do setField e 1 (←j4 head (←l8 env) .none (k6 f) .none (←my f (head !=.none)))):=
   (LL env).bind fun a=> (Pf _ _).bind fun pl=> (Pg _ _ _ _ _ _).bind fun b=>Cz _ _ _
  refine .ite ?_ fin
  exact(Dx _ _).bind fun x=> .ite (.pure _) ((Cz _ _ _).bind fun _=>fin)
 ·exact .unsup _
theorem GB(env:Env)(e:Value):KD (leaving env e):=(Su e env).bind fun _=>IS e none
theorem ObjOk.obj{P:Program}{w:World}{H:Hp}{h:Heap}{a:Addr}{o:HO}(x:ObjOk P w H h a o):∃ob,h.get? a=some ob:=by
 cases o with
 |lst xs=>obtain⟨_,_,_,_,e⟩:=x;exact⟨_,e⟩
 |tup xs=>obtain⟨_,_,_,o,e,_⟩:=x;exact⟨_,e⟩
 |dK kvs=>obtain⟨_,_,_,_,o,_,_,e,_⟩:=x;exact⟨_,e⟩
 |dT kvs=>obtain⟨_,_,_,_,o,_,_,e,_⟩:=x;exact⟨_,e⟩
 |set S n=>obtain⟨o,_,_,_,e,_⟩:=x;exact⟨_,e⟩
 |ins C dx fs=>obtain⟨_,_,_,e,_⟩:=x;exact⟨_,e⟩
 |own y=>obtain⟨_,e⟩:=x;exact⟨_,e⟩
 |xd fs=>obtain⟨_,⟨_,_,_,e,_⟩,_⟩:=x;exact⟨_,e⟩
 |rng lo hi=>obtain⟨_,_,_,e⟩:=x;exact⟨_,e⟩
 |frz ob u=>obtain⟨e,_⟩:=x;exact⟨_,e⟩
 |tbl ps=>exact⟨_,(show h.get? a=some _ from x)⟩
 |met f y=>exact⟨_,(show h.get? a=some _ from x)⟩
 |ext φ=>obtain⟨_,⟨_,e⟩,_⟩:=x;exact⟨_,e⟩
theorem HOk.none_of{P:Program}{w:World}{H:Hp}{h:Heap}{a:Addr}(x:HOk P w H h)(e:h.get? a=none):H a=none:=by
 cases q:H a with
 |none=>rfl
 |some u=>
  obtain⟨ob,e'⟩:=(x a u q).obj
  rw[e] at e';cases e'
def aY(n:Nat):Int:=if n%2=0 then((n/2:Nat):Int) else-((n/2:Nat):Int)
def cN:List Nat→List (Str×V)
 |0::n::_=> [("number",.int (aY n))]
 |1::n::_=> [("row",.int (aY n))]
 |2::n::m::_=> [("many",.int (aY n)),("most",.int (aY m))]
 |_=> []
def bx(x:Str):List (Str×V):=cN x.cps.toList
def Ph:Value→Value
 | .str _ C=> .ref C
 |v=>v
def bJ(dx:Addr)(fs:List (Str×V))(h:Heap):Prop:=∃mA,h.Ns1 dx mA∧(∀f,SW (fs.lookup f) (mA f))∧mD mA (fs.map (·.1))
def bz(dx:Addr)(fs:List (Str×V)):HO:=.ext (bJ dx fs)
def DicX(cls:Value)(x:Addr)(H:Hp)(h:Heap):Prop:=∀fs C,cls=.str fs C→∃ox dx,h.get? x=some ox∧ox.dict=some dx∧H dx=some (bz dx (bx fs))
theorem DicX.ref{C x:Addr}{H:Hp}{h:Heap}:DicX (.ref C) x H h:=fun _ _ e=>nomatch e
theorem DicX.dk{cls:Value}{x:Addr}{H:Hp}{h h':Heap}(q:DicX cls x H h)(d:DK h h')(e:∃o',h'.get? x=some o'):DicX cls x H h':=fun fs C z=>by
 obtain⟨ox,dx,e1,e2,e3⟩:=q fs C z
 obtain⟨o',e'⟩:=e
 exact⟨o',dx,e',(d.at_ e1 e').trans e2,e3⟩
structure Fly(P:Program)(w:World)(outer:List Env)(H:Hp)(s:b6)(H':Hp)(x:Addr)(cls:Value)(s':b6):Prop where
 os:s'.os=s.os
 bare:kb s'.gens
 un:Un (HE outer) [] H H' s.heap s'.heap
 hok:HOk P w H' s'.heap
 fr:H' x=none
 fly:∃B t,(∀b,H' b≠none→∃o,B.get? b=some o)∧(∀b o,s.heap.get? b=some o→b∉HE outer→∃o',B.get? b=some o')∧mQ B outer x (Ph cls) (.ref t) s'.heap
 dic:DicX cls x H' s'.heap
def CXe(P:Program)(w:World):PX:=fun outer H s E e s'=>∃x cls H',e=.ref x∧Fly P w outer H s H' x cls s'∧E cls none H'
theorem CXe.never{P:Program}{w:World}{outer:List Env}{H:Hp}{s s':b6}{e:Value}(h:CXe P w outer H s E0 e s'):False:=by
 obtain⟨_,_,_,_,_,q⟩:=h
 exact q
structure XFly(X:Cx)(W:St→XK):Prop where
 fly:∀(pins:List (Addr×Obj)) (σ:St) (H:Hp) (s:b6) (e:Value) (s':b6),Inv X pins σ H s→CXe X.prog X.w X.stack H s (W σ) e s'→X.xe e s'
structure XOk(X:Cx)(W:St→XK):Prop where
 made:∀(pins:List (Addr×Obj)) (σ:St) (H:Hp) (s:b6) (h':Heap) (x C:Addr),Inv X pins σ H s→Heap.MadeExcOf s.heap h' x (.ref C) []→W σ (.ref C) none H→X.xe (.ref x) {s with heap:=h'}
 fly:∀(pins:List (Addr×Obj)) (σ:St) (H:Hp) (s:b6) (e:Value) (s':b6),Inv X pins σ H s→CXe X.prog X.w X.stack H s (W σ) e s'→X.xe e s'
 own:kg (model X.prog X.w) X.A X.env X.xe
 madeF:∀(pins:List (Addr×Obj)) (σ:St) (H:Hp) (s:b6) (x C t dx:Addr) (fs:Str),Inv X pins σ H s→H x=none→X.s₀.heap.get? x=none→s.heap.get? x=some ⟨.ref C,some dx,.fields #[.ref t,.none,.none,.none,.bool false,.none],#[]⟩→H dx=some (bz dx (bx fs))→W σ (.str fs C) none H→X.xe (.ref x) s
theorem HOk.by_keep{P:Program}{w:World}{H:Hp}{h h':Heap}(x:HOk P w H h)(k:∀b o,H b≠none→h.get? b=some o→h'.get? b=some o):HOk P w H h':=fun a o e=>
 (x a o e).stay (fun b u hb q=>k b u (by
  rcases hb with rfl|hb
  ·rw[e];exact fun z=>nomatch z
  ·rw[hb];exact fun z=>nomatch z) q) (fun _ q=>q) fun _ _ q=>q
section
variable{P:Program}{w:World}{K:b5}{mg:Str→Option Value}{base:Heap}{N:List Str}{qual:Str}{scope:Scope}{f:Addr}{cd:Value}{A:dH}{outer:List Env}{s:b6}{H:Hp}{E:XK}
theorem IT{X:Cx}{pins:List (Addr×Obj)}{σ:St}{H1:Hp}{s2:b6}{h':Heap}{x:Addr}{cls:Value}{B:Heap}{t:Addr}(hst:X.stack=X.env::X.outer)(hex:X.ex=[])(hfr:X.env.frame=some X.env.locals)(I:Inv X pins σ H1 s2)
  (hB1:∀b,H1 b≠none→∃o,B.get? b=some o) (hB2:∀b o,X.s₀.heap.get? b=some o→b∉HE X.outer→∃o',B.get? b=some o') (hx:H1 x=none) (hs2:B.StaysIn s2.heap) (fl:mQ B X.outer x (Ph cls) (.ref t) h') (up:s2.heap.UpToSlots h') (dq:DicX cls x H1 h'):
  Fly X.prog X.w X.outer X.H₀ X.s₀ H1 x cls {s2 with heap:=h'}:=by
 have fsm:∀b o,b∈X.fs→s2.heap.get? b=some o→∃sl,h'.get? b=some {o with slots:=sl}:=fun b o hb e=>by
  obtain⟨_,o',e',hd⟩:=I.funs.mem hb
  rw[e] at e';cases e'
  exact up b o e hd
 have same:∀b o o',B.get? b=some o'→s2.heap.get? b=some o→h'.get? b=some o:=fun b o o' e1 e2=>by
  have q:=hs2 b o' e1
  rw[e2] at q;cases q
  exact fl.1 b o e1
 refine⟨I.os,I.bare,⟨fun b o e n hb _=>?_,fun b o e n hb _=>?_,fun b o e n _=>?_,fun b o e _=>?_,I.base.tups,I.base.frzs,I.base.tbls⟩,I.hok.by_keep fun b o hb e=>?_,hx,⟨B,t,hB1,hB2,fl⟩,dq⟩
 ·obtain⟨o',e'⟩:=hB2 b o e hb
  exact same b o o' e' (I.base.keep b o e n hb (by rw[hex];simp))
 ·obtain⟨sl,e1⟩:=I.base.slot b o e n hb (by rw[hex];simp)
  obtain⟨sl',e2⟩:=fsm b _ hb e1
  exact⟨sl',e2⟩
 ·exact I.base.free b o e n (by rw[hex];simp)
 ·obtain⟨o1,e1⟩:=I.base.there b o e (by rw[hex];simp)
  by_cases hb:b∈X.fs
  ·obtain⟨sl,e2⟩:=fsm b o1 hb e1
   exact⟨_,e2⟩
  ·obtain⟨o',e'⟩:=hB2 b o e hb
   exact⟨o',fl.1 b o' e'⟩
 ·obtain⟨o',e'⟩:=hB1 b hb
  exact same b o o' e' e
theorem Aq:XOk (Bv (CXe P w) P w K mg base N qual scope f cd A outer s H E) (fun _=>E) where
 made:=by
  intro pins σ H1 s1 h' x C I hx q
  have hin:∀env∈(Bv (CXe P w) P w K mg base N qual scope f cd A outer s H E).stack,∀b,env.frame=some b→b∈HE (Bv (CXe P w) P w K mg base N qual scope f cd A outer s H E).stack:=fun env he b hb=>gM.mpr ⟨env,he,hb⟩
  have hxn:H1 x=none:=I.hok.none_of hx.new
  have I':Inv (Bv (CXe P w) P w K mg base N qual scope f cd A outer s H E) pins σ H1 {s1 with heap:=h'}:=I.kept (t':=s1.toks) hx.keeps
  refine wpAny_leaves_madeW (base:=jo s1.heap (HE (Bv (CXe P w) P w K mg base N qual scope f cd A outer s H E).stack)) (h:=s1.heap) I.ok.frames rfl (fun b o q=>jt _ q) (PySem.W.funFrames_hide I.stack hin) hx fun h2 t x1 x2 x3 x4=>?_
  refine⟨x,.ref C,H1,rfl,?_,q⟩
  refine IT (X:=Bv (CXe P w) P w K mg base N qual scope f cd A outer s H E) rfl rfl rfl I' (fun b hb=>?_) (fun b o e hb=>?_) hxn (fun b o e=>hx.keeps b o (jt _ e)) x1 x4 .ref
  ·cases e:H1 b with
   |none=>exact absurd e hb
   |some u=>
    obtain⟨o,eo⟩:=(I.hok b u e).obj
    exact⟨o,iQ _ eo fun z=>hb (I.stkFree b z)⟩
  ·obtain⟨o1,e1⟩:=I.base.there b o e (fun z=>nomatch z)
   refine⟨o1,iQ _ e1 fun z=>?_⟩
   rcases dh.mp (I.stkSub b z) with z|z
   ·exact absurd z (dN (dG (du e) I.ok.above))
   ·exact hb z
 fly:=by
  rintro pins σ H1 s1 e s2 I ⟨x,cls,H2,rfl,F,q⟩
  obtain⟨B,t,b1,b2,fl⟩:=F.fly
  have I2:Inv (Bv (CXe P w) P w K mg base N qual scope f cd A outer s H E) pins σ H2 s2:=I.call' (ch:=[]) F.os F.un F.hok F.bare (fun b z=>absurd z (by simp))
  refine iK (KD.any (GB _ _) (wpAny_leaves_onW (E:=fun _ _=>False) (Q:=fun _ s3=>mQ B outer x (Ph cls) (.ref t) s3.heap∧s2.heap.UpToSlots s3.heap∧s3={s2 with heap:=s3.heap}) I.ok.frames rfl fl fun h' x1 x2=> ⟨x1,x2,rfl⟩)) ?_ fun _ _ z=>iM z
  rintro _ s3 ⟨⟨x1,x2,e3⟩,dk⟩
  refine⟨x,cls,H2,rfl,?_,q⟩
  rw[e3]
  refine IT (X:=Bv (CXe P w) P w K mg base N qual scope f cd A outer s H E) rfl rfl rfl I2 b1 (fun b o e hb=>?_) F.fr fl.1 x1 x2 (F.dic.dk dk (let⟨o,e,_⟩:=x1.there;⟨o,e⟩))
  obtain⟨o1,e1⟩:=I.base.there b o e (fun z=>nomatch z)
  refine b2 b o1 e1 fun z=>?_
  rcases dh.mp (I.stkSub b z) with z|z
  ·exact absurd z (dN (dG (du e) I.ok.above))
  ·exact hb z
 own:=kg.leaving
 madeF:=by
  intro pins σ H1 s1 x C t dx fs I hxn hs0 ex hdx q
  have hin:∀env∈(Bv (CXe P w) P w K mg base N qual scope f cd A outer s H E).stack,∀b,env.frame=some b→b∈x::HE (Bv (CXe P w) P w K mg base N qual scope f cd A outer s H E).stack:=fun env he b hb=>dw _ (gM.mpr ⟨env,he,hb⟩)
  have hkb:Heap.StaysIn (jo s1.heap (x::HE (Bv (CXe P w) P w K mg base N qual scope f cd A outer s H E).stack)) s1.heap:=fun b o q=>jt _ q
  have hen:(jo s1.heap (x::HE (Bv (CXe P w) P w K mg base N qual scope f cd A outer s H E).stack)).get? x=none:=by
   exact PySem.W.hideAll_none _ (dP ..)
  refine iK (KD.any (GB _ _) (wpAny_leaving_firstW (E:=fun _ _=>False) (Q:=fun _ s3=>Heap.LeftW (jo s1.heap (x::HE (Bv (CXe P w) P w K mg base N qual scope f cd A outer s H E).stack)) _ x (.ref C) (.ref t) s1.heap s3.heap∧s3={s1 with heap:=s3.heap}) I.ok.frames (PySem.W.funFrames_hide I.stack hin) rfl ex hkb hen rfl rfl rfl fun h' hL=> ⟨hL,rfl⟩)) ?_ fun _ _ z=>iM z
  rintro _ s3 ⟨⟨⟨x1,⟨_,_,x2⟩,x3,x4⟩,e3⟩,dk⟩
  refine⟨x,.str fs C,H1,rfl,?_,q⟩
  rw[e3]
  have hth:∃o,s3.heap.get? x=some o:=by
   obtain⟨oe,_,_,_,_,he,_⟩:=x3
   exact⟨oe,he⟩
  refine IT (X:=Bv (CXe P w) P w K mg base N qual scope f cd A outer s H E) rfl rfl rfl I (fun b hb=>?_) (fun b o e hb=>?_) hxn hkb ⟨x1,hen,x2,x3⟩ x4 ?_
  ·cases e:H1 b with
   |none=>exact absurd e hb
   |some u=>
    obtain⟨o,eo⟩:=(I.hok b u e).obj
    refine⟨o,iQ _ eo fun z=>?_⟩
    rcases dh.mp z with z|z
    ·rw[z] at e;rw[hxn] at e;cases e
    ·exact hb (I.stkFree b z)
  ·obtain⟨o1,e1⟩:=I.base.there b o e (fun z=>nomatch z)
   refine⟨o1,iQ _ e1 fun z=>?_⟩
   rcases dh.mp z with z|z
   ·rw[z] at e;rw[hs0] at e;cases e
   rcases dh.mp (I.stkSub b z) with z|z
   ·exact absurd z (dN (dG (du e) I.ok.above))
   ·exact hb z
  ·exact DicX.dk (h:=s1.heap) (fun fs' C' z=>by cases z;exact⟨_,dx,ex,rfl,hdx⟩) dk hth
end
section
variable{X:Cx}{W:St→XK}
def Wa(W:St→XK)(C:Addr):TS:=fun _ σ H=>W σ (.ref C) none H
def Wb(sp:Sp)(W:St→XK)(t:TA):TE:=fun σ H Q=>t σ H fun vs H1=>sp vs H1 Q (W σ)
theorem XOk.f(x:XOk X W):XFly X W:=⟨x.fly⟩
theorem Jq{k:Nat}{f:Addr}{fd:dD}{ps:List Str}{sp:Sp}{x:Str}{p pos:Pos}{e:Expr}{es:List Expr}{t:TA}(xo:XFly X W)(F:FnOk X.prog X.w X.K X.mg X.base (CXe X.prog X.w) k f fd ps sp)(hr:Room k X.A)(hg:Gl X x)(hm:X.mg x=some (.ref f))(hk:iu X.K (.ref f)=true)(hb:Binds X.K fd ps [])
  (ha:PA X (e::es) t) (hdb:(x==("__debug__" :Str))=false:=by decide) (he:df (e::es) X.env=(false,eval e X.env)::df es X.env:=by rfl) (hpl:(gU pos (df es X.env)).any (·.1)=false:=by rfl):
  PE X (.Call (.Name x p) (e::es) [] pos) (Wb sp W t):=by
 intro pins s σ H Q I h
 refine iX (IH I hg hm ?_ hdb)
 refine PySem.W.callWith_K (h₀:=X.base) I.ok.mod.kin hk (Ay (ha pos pins s σ H _ I h) fun us s1 ⟨vs,H1,I1,r,q⟩=> ⟨I1.kIn,?_⟩) he hpl
 have r2:Vals vs (us++[]):=by rw[i8];exact r
 have hl:(us++[]).length=ps.length:=by rw[←r2.length];exact F.len _ _ _ _ q
 refine kj (j6 (F.run X.A X.stack s1 H1 ⟨us,[]⟩ (us++[]) vs Q (W σ) hr I1.env0 (hb s1 us I1.kIn hl) r2 q) fun r s' hq=>?_)
 cases r with
 |error e=>exact xo.fly pins σ H1 s1 e s' I1 hq
 |ok fl=>
  cases fl with
  |ret u=>exact I1.after hq
  |next=>exact iM hq
  |brk=>exact iM hq
  |cont=>exact iM hq
end
open PySem.Calls
section
variable{prog:Program}{w:World}{A:dH}{E:Value→b6→Prop}{s:b6}{K:b5}{x D:Addr}{ox:Obj}{od:Option Obj}{name:Str}
structure ExcCls(K:b5)(D:Addr):Prop where
 ga:jA K (.ref D) "__getattribute__" =some (some (.builtin "BaseException.__getattribute__"))
 gn:jA K (.ref D) "__getattr__" =some none
 be:kP K D (.type "BaseException")=some true
 ob:kP K D (.type "object")=some true
 cl:jA K (.ref D) "__class__" =some (some (.builtin "object.__class__"))
 gt:PySem.W.specialIn K (.builtin "object.__class__") "__get__" =some (some (.builtin "getset_descriptor.__get__"))
 tk:PySem.W.takesIn K (.builtin "object.__class__")=some true
def TyAt(D x:Addr)(h:Heap):Prop:=∃ox,h.get? x=some ox∧ox.cls=.ref D
theorem TyAt.looks{M:Model}{h:Heap}(p:TyAt D x h):i9 M h (typeOf (.ref x)) (.ref D):=by
 obtain⟨o,h1,h2⟩:=p
 exact h2▸(i9.ld h1).andThen .now
open PySem.W Builtin Builtin.ObjectAttr Builtin.Getset_descriptor in
theorem LM {R:mV→b6→Prop} {tp:Value} (X:K.In s.heap) (I:TyAt D x s.heap) (hm:kP K D (.type "object")=some true) (h:R (.ok (.ret (.ref D))) s):
  iY (model prog w) A (.call (.builtin "getset_descriptor.__get__") ⟨[.builtin "object.__class__",.ref x,tp],[]⟩) R s:=by
 obtain⟨hh,gg,dd,tt,oo⟩:=s
 have L0:=I.looks (M:=model prog w)
 have L1:=PySem.W.looks_mroIn (M:=model prog w) X hm
 refine iF
  KF.slot_gs.plain KF.entry_gs (KF.slot_gs.check _ _ _ _ _ _ _ _
   KF.type_class (KF.args_gs _ _ _) ?_)
 unfold Builtin.«getset_descriptor.__get__»
  descrGet
 rw[dga_obj]
 refine b4 (b7 ?_)
 unfold descrGetter descrCheckInstance
  descrNameAndClass isInstance
 simp only[KF.owner_class]
 repeat lk
 refine⟨Code.quiet_builtin _
  (by decide+kernel),fW KF.entry_class ?_⟩
 unfold Builtin.«object.__class__» shownTypeOf
 repeat lk
 exact h
theorem ExcCls.find{M:Model}{h:Heap}(c:ExcCls K D)(X:K.In h):i9 M h (Builtin.ObjectAttr.find (.ref x) (.ref D) "__class__") (.bind (.builtin "getset_descriptor.__get__") (.builtin "object.__class__")):=by
 have L1:=jQ (M:=M) X c.cl
 have L2:i9 M h (Builtin.ObjectAttr.getOf (some (.builtin "object.__class__"))) (some (.builtin "getset_descriptor.__get__")):=PySem.W.looks_specialIn X c.gt
 have L3:=PySem.W.looks_takesIn (M:=M) X c.tk
 refine L1.andThen (L2.andThen ?_)
 exact(show i9 M h (Builtin.ObjectAttr.dataDescriptor? (some (.builtin "object.__class__")) (some (.builtin "getset_descriptor.__get__"))) (some (.builtin "getset_descriptor.__get__",.builtin "object.__class__"))
  from L3.andThen .now).andThen (i9.tag .now)
theorem OE{Q:Option Value→b6→Prop}(c:ExcCls K D)(X:K.In s.heap)(I:TyAt D x s.heap)(h:Q (some (.ref D)) {s with toks:=s.toks+1}):wpAny (model prog w) A (getAttr? (.ref x) "__class__") Q E s:=by
 obtain⟨hh,g,d,t,os⟩:=s
 have L0:=I.looks (M:=model prog w)
 have L1:=jQ (M:=model prog w) X c.ga
 have L2:=jQ (M:=model prog w) X c.gn
 have L3:=PySem.W.looks_mroIn (M:=model prog w) X c.be
 have L4:=c.find (x:=x) (M:=model prog w) X
 have hb:bindSpecial (.builtin "BaseException.__getattribute__") (.ref x)=pure (.builtin "BaseException.__getattribute__",[.ref x]):=PySem.F.excAttr_ValueError.ga.bind _
 have hk:builtinKind "BaseException.__getattribute__" =some .slot:=by decide+kernel
 have hsplit:splitId "BaseException.__getattribute__" =some ("BaseException","__getattribute__"):=by decide+kernel
 have hx2:(Value.builtin "BaseException.__getattribute__" ==Value.builtin "object.__getattribute__")=false:=by decide+kernel
 unfold getAttr? getAttrBy? getAttrBy
 refine b4 (wpAny_mkText (b4 (jM (ef (b4 (L0.at (b4 (L1.at ?_))))))))
 dsimp only
 rw[hx2,kz,if_neg dc]
 unfold getAttrByItsOwn hookBefore
 refine b4 (L2.at ?_)
 refine b4 (jM (ef ?_))
 unfold callGetattribute boundAndCalled
 rw[hb]
 show wpAny _ _ (call (.builtin "BaseException.__getattribute__") [.ref x,.str "__class__" t]) _ _ _
 refine kj (iF PySem.F.excAttr_ValueError.ga.plain PySem.F.entry_bexc_ga ?_)
 have ha:=PySem.F.args_bexc_ga (.ref x) (.str "__class__" t)
 simp only[jI,hk,hsplit]
 refine b4 ?_
 unfold isInstance
 refine b4 (L0.at (L3.at ?_))
 rw[if_neg (by decide)]
 refine jv ha ?_
 show wpAny _ _ (typeOf (.ref x)>>=fun tp=>Builtin.ObjectAttr.find (.ref x) tp "__class__" >>=_) _ _ _
 refine b4 (L0.at (b4 (L4.at ?_)))
 show wpAny _ _ ((holding [.builtin "object.__class__"] (call (.builtin "getset_descriptor.__get__") [.builtin "object.__class__",.ref x,.ref D]))>>=ret) _ _ _
 refine b4 (ef (kj (LM (s:=⟨hh,g,d,t+1,os⟩) X I c.ob ?_)))
 exact b7 (b7 (b7 h))
theorem ExcCls.isTy{M:Model}{h:Heap}(c:ExcCls K D)(X:K.In h):i9 M h (isType (.ref D)) true:=by
 obtain⟨cd,hc,_⟩:=Option.bind_eq_some_iff.mp (show(kQ K D).bind _=some true from c.be)
 unfold kQ at hc
 split at hc
 ·rename_i c' d' cd' sl' ho
  intro A' Q' E' s' k q
  unfold isType loadHead
  exact b4 (wpAny_loadPart (k _ _ (X _ _ ho)) (b7 q))
 ·cases hc
theorem Pi(c:ExcCls K D):PySem.W.KitX K (.ref x) (.ref D) (TyAt D x) where
 ty:=fun _ _ _ I=>I.looks
 it:=fun _ _ X _=>c.isTy X
 ne:=fun h tp dd its n sl X htp=>by
  refine Bool.eq_false_iff.mpr fun q=>?_
  have e:D=tp:=Value.ref.inj (beq_iff_eq.mp q)
  subst e
  obtain⟨cd,hc,_⟩:=Option.bind_eq_some_iff.mp (show(kQ K D).bind _=some true from c.be)
  unfold kQ at hc
  split at hc
  ·rename_i c' d' cd' sl' ho
   have z:=(X _ _ ho).symm.trans htp
   cases z
  ·cases hc
 ca:=fun X I k=>OE c X I k
end
def Wc(D x:Addr):HO:=.ext (TyAt D x)
theorem LN{X:Cx}{pins:List (Addr×Obj)}{σ:St}{H:Hp}{s:b6}{A:dH}{E:Value→b6→Prop}{Q:Value→b6→Prop}{c:Value}{b:Bool}{D x:Addr}(I:Inv X pins σ H s)(hx:Rd H x (Wc D x))(k:ExcCls X.K D)
  (e:eu X.K (.ref D) c=some b) (h:∀tk,Q (.bool b) {s with toks:=tk}):wpAny (model X.prog X.w) A (call (.builtin "isinstance") [.ref x,c]) Q E s:=by
 obtain⟨p,_,_⟩:=(show ObjOk X.prog X.w H s.heap x (Wc D x) from hx.ok I.hok)
 exact fJ (Pi k) I.kIn p e (fun z=>nomatch z) h
abbrev HH:List Value:=[.type "ValueError",.type "Exception",.type "BaseException",.type "object"]
theorem Sv{K:b5}{h:Heap}{C:Addr}{bmB:List Value}{newId:String}(X:K.In h)(q:gk K C bmB newId=true):
  ∃bm N nm qn bs hdct sn sub ab col dd k0 k1 k2 k3 k5 mN,h.get? C=some (excClassObj nm qn C N bs bm hdct sn sub ab col dd k0 k1 k2 k3 k5 newId)∧h.Ns N mN∧mN "__init__" =none∧OwnTail h bmB bm:=by
 unfold gk at q
 split at q
 ·rename_i dd cd sl ho
  split at q
  ·rename_i C' bm k0 k1 k2 k3 n k5 hm hs
   simp only[gO,beq_iff_eq,
    fT] at q
   obtain⟨⟨⟨⟨⟨e1,e2⟩,hdel⟩,ht⟩,hok⟩,hni⟩:=q
   subst e1 e2
   obtain⟨nm,bs,mro,ns,qn,hd,sn,sub,ab,col,del⟩:=cd
   dsimp only at hm hdel hok hni
   subst hm hdel
   have hsl:sl= #[k0,k1,k2,k3,some (.builtin n),k5]:=by
    obtain⟨l⟩:=sl
    simp only at hs
    rw[hs]
   subst hsl
   exact⟨bm,ns,nm,qn,bs,hd,sn,sub,ab,col,dd,k0,k1,k2,k3,k5,_,X _ _ ho,
    .of_isNs (PySem.W.isNs_of_in X hok),PySem.W.nsMap_none_of_in X hok hni,PySem.W.tail_of_in X ht⟩
  ·cases q
 ·cases q
theorem OF{X:Cx}{W:St→XK}{x:Str}{C:Addr}{np cpos pos:Pos}(xo:XOk X W)(hc:X.calm=true)(hg:Gl X x)(hm:X.mg x=some (.ref C))(q:gk X.K C HH "ValueError.__new__" =true)
  (hd:(x==("__debug__" :Str))=false:=by decide):PS X (.Raise (some (.Call (.Name x np) [] [] cpos)) none pos) (Wa W C):=by
 intro pins s σ H D I h
 obtain⟨bm,N,nm,qn,bs,hdct,sn,sub,ab,col,dd,k0,k1,k2,k3,k5,mN,hC,hN,hni,T⟩:=Sv I.kIn q
 refine wpAny_Raise_call_subT (C:=C) (nm:=nm) (q:=qn) (N:=N) (bs:=bs) (bm:=bm) (hdct:=hdct) (sn:=sn) (sub:=sub) (ab:=ab) (col:=col) (dd:=dd) (k0:=k0) (k1:=k1) (k2:=k2) (k3:=k3) (k5:=k5)
  PySem.F.excBase_ValueError (mN:=mN) (T.hasType PySem.F.excBase_ValueError.hasBase) (I.ok.hd hc) rfl hni (IH I hg hm ⟨rfl,?_⟩ hd)
 exact evalArgs_empty ⟨rfl,fb _,hC,hN,T,fun h' e hx=>xo.made pins σ H s h' e C I hx h⟩
section
variable{X:Cx}{pins:List (Addr×Obj)}{σ:St}{H:Hp}{s:b6}
end
section
variable{X:Cx}{pins pins':List (Addr×Obj)}{σ:St}{H:Hp}{s:b6}{E':Value→b6→Prop}{x:Addr}
end
theorem Fun.okX{P:Program}{w:World}{K:b5}{mg:Str→Option Value}{base:Heap}{x qual:Str}{st:Stmt}{f:Addr}{fd:dD}{N ps:List Str}{k:Nat}{sp:Sp}(F:Fun K x qual st f fd)(S:FnScope N ps (AA st))(len:∀vs H Q E,sp vs H Q E→vs.length=ps.length)
  (hbody:∀(cdv:Value) (A:dH) (outer:List Env) (s:b6) (H:Hp) (vs:List V) (Q:VK) (E:XK),Room k (A.deeper (je qual (AA st) s.heap.objs.size f cdv))→sp vs H Q E→
   ∃t,PSs (Bv (CXe P w) P w K mg base N qual (AA st) f cdv A outer s H E) (BA st) t∧t {nx:=fun _ H'=>Q .non H',rt:=Q} (start N vs) H):FnOk P w K mg base (CXe P w) (k+1) f fd ps sp:=by
 obtain⟨oc,od,kV,doc,pm,an,cdv,ct,osl,rfl,lk,hcd⟩:=F.ex
 exact Yh lk hcd S len fun A outer s H vs Q E hr hsp=>hbody cdv A outer s H vs Q E hr hsp
section
variable{X:Cx}
def cO(K:b5)(H:Hp)(x:V)(t:Value):Prop:=TyOf K H x t∨∃a D,x=.ref a∧t=.ref D∧Rd H a (Wc D a)∧ExcCls K D
def Yu(K:b5):List V→Hp→VK→Prop:=fun vs H Q=>∃x c t cv b,vs=[x,c]∧RelV c cv∧cO K H x t∧eu K t cv=some b∧Q (.bl b) H
theorem Pj:BD X (.builtin "isinstance") (Yu X.K):=by
 intro pins s σ H xs us Q I r h
 obtain⟨x,c,t,cv,b,rfl,rc,ty,e,q⟩:=h
 obtain⟨u,w',rfl,rx,rw'⟩:=PU r
 have e2:w'=cv:=by
  cases c with
  |ty n=>exact(show w'=jr n from rw').trans (show cv=jr n from rc).symm
  |ref a=>exact(show w'=Value.ref a from rw').trans (show cv=Value.ref a from rc).symm
  |non=>exact(show w'=js from rw').trans (show cv=js from rc).symm
  |bl b=>exact(show w'=km b from rw').trans (show cv=km b from rc).symm
  |int i=>exact absurd e (by obtain⟨k,rfl⟩:=rc;unfold eu;rcases ty with ty| ⟨_,_,_,rfl,_⟩<;>first| (cases ty<;> (intro z;simp[iq] at z))| (intro z;simp[iq] at z))
  |str i=>exact absurd e (by obtain⟨k,rfl⟩:=rc;unfold eu;rcases ty with ty| ⟨_,_,_,rfl,_⟩<;>first| (cases ty<;> (intro z;simp[iq] at z))| (intro z;simp[iq] at z))
  |byt i=>exact absurd e (by obtain⟨k,rfl⟩:=rc;unfold eu;rcases ty with ty| ⟨_,_,_,rfl,_⟩<;>first| (cases ty<;> (intro z;simp[iq] at z))| (intro z;simp[iq] at z))
  |flt i=>exact absurd e (by obtain⟨k,rfl⟩:=rc;unfold eu;rcases ty with ty| ⟨_,_,_,rfl,_⟩<;>first| (cases ty<;> (intro z;simp[iq] at z))| (intro z;simp[iq] at z))
 subst e2
 rcases ty with ty| ⟨a,D,rfl,rfl,hx,k⟩
 ·exact Nz I rx ty e fun tk=> ⟨.bl b,H,I.tok tk,rfl,q⟩
 ·cases(show u=Value.ref a from rx)
  exact LN I hx k e fun tk=> ⟨.bl b,H,I.tok tk,rfl,q⟩
theorem Pk:aU X .Mult (fun x y H Q=>∃i j,x=.int i∧y=.int j∧CMul i j∧Q (.int (i*j)) H):=by
 intro pins s σ H x y v u Q I r1 r2 h
 obtain⟨i,j,e1,e2,hc,q⟩:=h
 subst e1;subst e2
 obtain⟨t,rfl⟩:=r1
 obtain⟨t',rfl⟩:=r2
 exact PyProof.Rows.imul_int ⟨.int _,H,I.tok _,⟨_,rfl⟩,q⟩ hc.ok
def LO:List V→List V→Bool
 | [],[]=>true
 |x::xs,y::ys=>SR x y&&LO xs ys
 |_,_=>false
theorem GC:∀{xs ys:List V},xs.length=ys.length→(dE xs.length).all (fun j=>SR (xs.getD j .non) (ys.getD j .non))=LO xs ys
 | [],[],_=>rfl
 |x::xs,y::ys,h=>by
  have ih:=GC (xs:=xs) (ys:=ys) (by simpa using h)
  rw[dA,List.range_succ_eq_map,List.all_cons,List.all_map]
  show(SR x y&&_)=(SR x y&&LO xs ys)
  rw[←ih]
  rfl
 | [],_::_,h=>by simp at h
 |_::_,[],h=>by simp at h
def bK(K:b5):R2:=fun x y H Q=>∃a b xs ys,x=.ref a∧y=.ref b∧Cr K H a xs∧Cr K H b ys∧xs.all Fz=true∧ys.all Fz=true∧xs.length=ys.length∧Q (.bl (!LO xs ys)) H
theorem Wd(hu:X.A.units<cLine):Cs X (fE .NotEq) (bK X.K):=by
 intro pins s σ H x y v u Q I rx ry h
 obtain⟨a,b,xs,ys,rfl,rfl,ha,hb,fx,fy,hl,q⟩:=h
 cases rx;cases ry
 obtain⟨its,r1,p1,z1⟩:=I.list ha
 obtain⟨its2,r2,p2,z2⟩:=I.list hb
 have l1:=r1.length
 have l2:=r2.length
 refine SeqAt.RcNeAt.lists (e:=fun j=>SR (xs.getD j .non) (ys.getD j .non)) p1.isList p2.isList (by simp only[dv];omega) hu (fun j h1 h2=>?_) _ _ _ _ ?_
 ·have j1:j<xs.length:=by simp only[dv] at h1;omega
  have j2:j<ys.length:=by omega
  obtain⟨u1,e1,q1⟩:=r1.get (i:=j) (x:=xs[j]) (by simp[j1])
  obtain⟨u2,e2,q2⟩:=r2.get (i:=j) (x:=ys[j]) (by simp[j2])
  have f1:Fz xs[j]=true:=gx.mp fx _ (fu _)
  have f2:Fz ys[j]=true:=gx.mp fy _ (fu _)
  have d1:xs.getD j .non=xs[j]:=by simp[iD,j1]
  have d2:ys.getD j .non=ys[j]:=by simp[iD,j2]
  show fF _ _ its.toArray[j] its2.toArray[j] (SR (xs.getD j .non) (ys.getD j .non))
  rw[d1,d2]
  have g1:its.toArray[j]=u1:=by
   have:its[j]'(by omega)=u1:=dW.inj (by rw[←e1];simp)
   simpa using this
  have g2:its2.toArray[j]=u2:=by
   have:its2[j]'(by omega)=u2:=dW.inj (by rw[←e2];simp)
   simpa using this
  rw[g1,g2]
  exact WO q1 q2 f1 f2
 ·refine⟨.bl _,H,I,rfl,?_⟩
  have e:(dE its.toArray.size).all (fun j=>SR (xs.getD j .non) (ys.getD j .non))=LO xs ys:=by
   rw[dv,←l1];exact GC hl
  rw[e]
  exact q
end
end L2
namespace StT
local macro_rules | `(tactic| omega) => `(tactic| first | lia | omega)
open PySem PySem.SetTable
theorem LP:∀(m:Nat) (l:List Nat),(∀e,e<m→e∈l)→m≤l.length
 |0,_,_=>fb _
 |m+1,l,h=>by
  have hm:m∈l:=h m (gL m)
  have ih:=LP m (l.erase m) fun e he=>by
   rw[List.mem_erase_of_ne (dN he)]
   exact h e (fA he)
  rw[List.length_erase_of_mem hm] at ih
  have:0<l.length:=jF hm
  omega
theorem Bj:∀(n:Nat) (l:List Nat),l.Nodup→(∀x∈l,x<n)→l.length≤n
 |0,[],_,_=>dm _
 |0,x::_,_,h=>absurd (h x dP) (jq _)
 |n+1,l,nd,h=>by
  have ih:=Bj n (l.erase n) (nd.erase n) fun x hx=>by
   have h1:=h x (List.mem_of_mem_erase hx)
   have h2:x≠n:=fun e=>by
    subst e
    exact absurd hx (List.Nodup.not_mem_erase nd)
   omega
  by_cases hn:n∈l
  ·rw[List.length_erase_of_mem hn] at ih
   omega
  ·rw[List.erase_of_not_mem hn] at ih
   omega
def Pl(xs:Array Nat):Prop:=xs.toList.Pairwise (· < ·)
theorem GD{xs:Array Nat}(r:Pl xs){i j:Nat}{x y:Nat}(hi:xs[i]?=some x)(hj:xs[j]?=some y)(h:i<j):x<y:=by
 obtain⟨h1,rfl⟩:=eX.mp hi
 obtain⟨h2,rfl⟩:=eX.mp hj
 have:=fk.mp r i j (by simpa using h1) (by simpa using h2) h
 simpa using this
theorem IU{xs:Array Nat}{j:Nat}:∀(fuel lo hi:Nat),hi-lo≤fuel→lo≤hi→hi≤xs.size→(∀i x,i<lo→xs[i]?=some x→x<j)→(∀i x,hi≤i→xs[i]?=some x→j≤x)→Pl xs→
  (ni xs j fuel lo hi≤xs.size)∧(∀i x,i<ni xs j fuel lo hi→xs[i]?=some x→x<j)∧∀i x,ni xs j fuel lo hi≤i→xs[i]?=some x→j≤x
 |0,lo,hi,hf,hlo,hhi,h1,h2,r=>by
  have:lo=hi:=by omega
  subst this
  exact⟨hhi,h1,h2⟩
 |fuel+1,lo,hi,hf,hlo,hhi,h1,h2,r=>by
  unfold ni
  by_cases hl:lo<hi
  ·rw[if_pos hl]
   have hm:(lo+hi)/2<xs.size:=by omega
   have em:xs[(lo+hi)/2]?=some xs[(lo+hi)/2]:=by simp[hm]
   have eg:xs.getD ((lo+hi)/2) j=xs[(lo+hi)/2]:=by simp[kA,hm]
   dsimp only
   rw[eg]
   by_cases hc:xs[(lo+hi)/2]<j
   ·rw[if_pos hc]
    refine IU fuel _ _ (by omega) (by omega) hhi (fun i x hi' e=>?_) h2 r
    by_cases hx:i=(lo+hi)/2
    ·subst hx
     rw[em] at e;cases e
     exact hc
    ·exact mM (GD r e em (by omega)) hc
   ·rw[if_neg hc]
    refine IU fuel _ _ (by omega) (by omega) (by omega) h1 (fun i x hi' e=>?_) r
    by_cases hx:i=(lo+hi)/2
    ·subst hx
     rw[em] at e;cases e
     omega
    ·have:=GD r em e (by omega)
     omega
  ·rw[if_neg hl]
   have:lo=hi:=by omega
   subst this
   exact⟨hhi,h1,h2⟩
theorem CO{xs:Array Nat}{j:Nat}(r:Pl xs):(below xs j≤xs.size)∧(∀i x,i<below xs j→xs[i]?=some x→x<j)∧∀i x,below xs j≤i→xs[i]?=some x→j≤x:=
 IU _ _ _ (by omega) (by omega) (dm _) (fun i x h=>absurd h (jq _)) (fun i x h e=>by
  have:=(eX.mp e).1
  omega) r
theorem Bm{xs:Array Nat}{i j:Nat}(r:Pl xs)(h:xs[i]?=some j):below xs j=i:=by
 obtain⟨b1,b2,b3⟩:=CO (j:=j) r
 have hi:i<xs.size:=(eX.mp h).1
 apply Nat.le_antisymm
 ·apply jJ
  intro hc
  exact absurd (b2 i j hc h) (e6 _)
 ·apply jJ
  intro hc
  have e:xs[below xs j]?=some xs[below xs j]:=by simp[mM hc hi]
  have h1:=b3 _ _ (dm _) e
  have h2:=GD r e h hc
  omega
theorem BF{α:Type}(xs:Array α)(p:Nat)(x:α):(gH xs p x).toList=xs.toList.take p++x::xs.toList.drop p:=by
 unfold gH
 simp
 rw[jC (by simp)]
theorem getElem?_insertAt{α:Type}(xs:Array α)(p:Nat)(x:α)(hp:p≤xs.size)(i:Nat):(gH xs p x)[i]?=if i<p then xs[i]? else if i=p then some x else xs[i-1]?:=by
 have e:(gH xs p x)[i]?=(gH xs p x).toList[i]?:=by simp
 rw[e,BF]
 have hl:(xs.toList.take p).length=p:=by simp[hp]
 by_cases h1:i<p
 ·rw[if_pos h1,eF (by omega),iL h1]
  simp
 ·rw[if_neg h1,dQ (by omega),hl]
  by_cases h2:i=p
  ·subst h2
   simp
  ·rw[if_neg h2]
   have:i-p=(i-p-1)+1:=by omega
   rw[this,iU,gm]
   have:p+(i-p-1)=i-1:=by omega
   rw[this]
   simp
theorem Df{α:Type}(xs:Array α)(p:Nat)(x:α)(hp:p≤xs.size):(gH xs p x).size=xs.size+1:=by
 rw[←dr,BF]
 simp
 omega
theorem LQ{xs:Array Nat}{j:Nat}(r:Pl xs)(hj:∀i:Nat,xs[i]?≠some j):Pl (gH xs (below xs j) j):=by
 obtain⟨b1,b2,b3⟩:=CO (j:=j) r
 unfold Pl
 rw[BF]
 have lt:∀y∈xs.toList.take (below xs j),y<j:=fun y hy=>by
  obtain⟨i,hi⟩:=eJ hy
  have hlt:i<below xs j:=by
   have:=(dt.mp hi).1
   simp at this;omega
  rw[iL hlt] at hi
  exact b2 i y hlt (by simpa using hi)
 have gt:∀y∈xs.toList.drop (below xs j),j<y:=fun y hy=>by
  obtain⟨i,hi⟩:=eJ hy
  rw[gm] at hi
  have hi':xs[below xs j+i]?=some y:=by simpa using hi
  have h1:=b3 _ y (Nat.le_add_right _ _) hi'
  have h2:y≠j:=fun e=>hj _ (e▸hi')
  omega
 refine jR.mpr ⟨eU.sublist (kK _ _) r,List.pairwise_cons.mpr ⟨gt,eU.sublist (List.drop_sublist _ _) r⟩,fun a ha b hb=>?_⟩
 rcases dh.mp hb with rfl|hb
 ·exact lt a ha
 ·exact mM (lt a ha) (gt b hb)
def adv(m:Nat)(p:Probe):Probe:=(fm.mk m #[] #[] 0 false 0 false).advance p
theorem GE(t:fm)(p:Probe):t.advance p=adv t.mask p:=rfl
theorem GF{m:Nat}{p:Probe}(h:0<p.more):adv m p=⟨p.j+1,p.more-1,p.i,p.perturb,p.dummy⟩:=by
 unfold adv advance
 exact if_pos h
theorem GG{m:Nat}{p:Probe}(h:¬0<p.more):adv m p=⟨(leap m p.i p.perturb).1,jd m (leap m p.i p.perturb).1- (leap m p.i p.perturb).1,(leap m p.i p.perturb).1,(leap m p.i p.perturb).2,p.dummy⟩:=by
 unfold adv advance
 exact if_neg h
def advN(m:Nat):Nat→Probe→Probe
 |0,p=>p
 |n+1,p=>advN m n (adv m p)
theorem Bn(m:Nat):∀(a b:Nat) (p:Probe),advN m (a+b) p=advN m b (advN m a p)
 |0,b,p=>by rw[hV];rfl
 |a+1,b,p=>by
  rw[mH]
  exact Bn m a b (adv m p)
theorem HY(m n:Nat)(p:Probe):advN m (n+1) p=adv m (advN m n p):=Bn m n 1 p
def st(m:Nat)(x:Nat×Nat)(d:Option Nat):Probe:={j:=x.1,more:=jd m x.1-x.1,i:=x.1,perturb:=x.2,dummy:=d}
theorem Pm(t:fm)(h:Int):t.probeStart h=st t.mask (bits h%(t.mask+1),bits h) none:=rfl
def LR(m:Nat):Nat→Nat×Nat→Nat×Nat
 |0,x=>x
 |n+1,x=>LR m n (leap m x.1 x.2)
theorem Ei(m i:Nat)(h:i≤m):i+(jd m i-i)≤m∧jd m i-i≤9:=by
 unfold jd
 split<;>omega
theorem IV(m:Nat):∀(k:Nat) (p:Probe),k≤p.more→advN m k p={p with j:=p.j+k,more:=p.more-k}
 |0,p,_=>rfl
 |k+1,p,h=>by
  show advN m k (adv m p)=_
  have e:adv m p={p with j:=p.j+1,more:=p.more-1}:=GF (by omega)
  rw[e,IV m k _ (by show k≤p.more-1;omega)]
  show({p with j:=p.j+1+k,more:=p.more-1-k}:Probe)={p with j:=p.j+(k+1),more:=p.more- (k+1)}
  rw[show p.j+1+k=p.j+(k+1) by omega,show p.more-1-k=p.more- (k+1) by omega]
theorem GH(m:Nat)(p:Probe):advN m (p.more+1) p=st m (leap m p.i p.perturb) p.dummy:=by
 rw[HY,IV m p.more p (dm _)]
 rw[GG (by show¬0<p.more-p.more;omega)]
 rfl
theorem GI(m:Nat):∀(L:Nat) (x:Nat×Nat),x.1≤m→(LR m L x).1≤m
 |0,_,h=>h
 |L+1,x,_=>GI m L _ (by show(x.1*5+1+x.2/32)%(m+1)≤m;have:=mn (x.1*5+1+x.2/32) (show 0<m+1 by omega);omega)
theorem Pn(m:Nat):∀(L:Nat) (x:Nat×Nat) (d:Option Nat),x.1≤m→∃n,n≤10*L∧advN m n (st m x d)=st m (LR m L x) d
 |0,x,d,_=> ⟨0,by omega,rfl⟩
 |L+1,x,d,h=>by
  have hl:(leap m x.1 x.2).1≤m:=GI m 1 x h
  obtain⟨n,hn,e⟩:=Pn m L (leap m x.1 x.2) d hl
  have h9:=(Ei m x.1 h).2
  refine⟨(st m x d).more+1+n,?_,?_⟩
  ·show jd m x.1-x.1+1+n≤_;omega
  ·rw[Bn,GH]
   exact e
theorem My(m:Nat):∀(a b:Nat) (x:Nat×Nat),LR m (a+b) x=LR m b (LR m a x)
 |0,b,x=>by rw[hV];rfl
 |a+1,b,x=>by rw[mH];exact My m a b _
theorem Mz(m:Nat):∀(L:Nat) (x:Nat×Nat),(LR m L x).2=x.2/32^L
 |0,x=>by simp[LR]
 |L+1,x=>by
  show(LR m L (leap m x.1 x.2)).2=_
  rw[Mz m L]
  show x.2/32/32^L=x.2/32^(L+1)
  rw[Nat.div_div_eq_div_mul,mJ,mK]
def YE(m:Nat):Nat→Nat→List Nat
 |0,_=> []
 |n+1,i=>i::YE m n ((i*5+1)%(m+1))
def fN(m:Nat):Nat→Nat→Nat
 |0,i=>i
 |n+1,i=>fN m n ((i*5+1)%(m+1))
theorem Yv(m:Nat):∀(L i:Nat),LR m L (i,0)=(fN m L i,0)
 |0,_=>rfl
 |L+1,i=>by
  show LR m L ((i*5+1+0/32)%(m+1),0/32)=_
  rw[Nat.zero_div,Nat.add_zero]
  exact Yv m L _
theorem IW(m:Nat):∀(a b x:Nat),fN m (a+b) x=fN m b (fN m a x)
 |0,b,x=>by rw[hV];rfl
 |a+1,b,x=>by rw[mH];exact IW m a b _
theorem IX(m:Nat):∀(n i e:Nat),e∈YE m n i→∃k,k<n∧fN m k i=e
 |0,_,_,h=>by simp[YE] at h
 |n+1,i,e,h=>by
  rcases dh.mp h with rfl|h
  ·exact⟨0,mG _,rfl⟩
  ·obtain⟨k,hk,hf⟩:=IX m n _ e h
   exact⟨k+1,by omega,hf⟩
def Bo(m:Nat):Prop:=m=7∨m=31∨m=127∨m=511
theorem bL{m:Nat}(h:Bo m):fN m (m+1) 0=0∧∀e,e≤m→e∈YE m (m+1) 0:=by
 have all:∀k,((dE (k+1)).all fun e=> (YE k (k+1) 0).contains e)=true→∀e,e≤k→e∈YE k (k+1) 0:=fun k hk e he=>by
  have:=gx.mp hk e (dU.mpr (Nat.lt_succ_of_le he))
  exact List.contains_iff_mem.mp this
 rcases h with rfl|rfl|rfl|rfl
 ·exact⟨by decide+kernel,all 7 (by decide+kernel)⟩
 ·exact⟨by decide+kernel,all 31 (by decide+kernel)⟩
 ·exact⟨by decide+kernel,all 127 (by decide+kernel)⟩
 ·exact⟨by decide+kernel,all 511 (by decide+kernel)⟩
theorem cP{m:Nat}(h:Bo m){i e:Nat}(hi:i≤m)(he:e≤m):∃k,k≤m∧fN m k i=e:=by
 obtain⟨c0,call⟩:=bL h
 obtain⟨a,ha,ea⟩:=IX m _ _ _ (call i hi)
 obtain⟨b,hb,eb⟩:=IX m _ _ _ (call e he)
 by_cases hab:a≤b
 ·refine⟨b-a,by omega,?_⟩
  rw[←ea,←IW,show a+(b-a)=b by omega]
  exact eb
 ·refine⟨m+1-a+b,by omega,?_⟩
  rw[←ea,←IW,show a+(m+1-a+b)=(m+1)+b by omega,IW,c0]
  exact eb
structure Pr(m:Nat)(p:Probe):Prop where
 ij:p.j+p.more≤m
 more:p.more≤9
 i:p.i≤m
 pert:p.perturb<2^64
theorem Pr.st{m:Nat}{x:Nat×Nat}{d:Option Nat}(h1:x.1≤m)(h2:x.2<2^64):Pr m (st m x d):=⟨(Ei m x.1 h1).1,(Ei m x.1 h1).2,h1,h2⟩
theorem Pr.adv{m:Nat}{p:Probe}(h:Pr m p):Pr m (adv m p):=by
 by_cases hm:0<p.more
 ·rw[GF hm]
  exact⟨by have:=h.ij;show p.j+1+(p.more-1)≤m;omega,by have:=h.more;show p.more-1≤9;omega,h.i,h.pert⟩
 ·rw[GG hm]
  have hl:(leap m p.i p.perturb).1≤m:=GI m 1 (p.i,p.perturb) h.i
  exact⟨(Ei m _ hl).1,(Ei m _ hl).2,hl,kr (Nat.div_le_self _ _) h.pert⟩
theorem Pr.advN{m:Nat}:∀{n:Nat} {p:Probe},Pr m p→Pr m (advN m n p)
 |0,_,h=>h
 |n+1,_,h=>Pr.advN (n:=n) h.adv
theorem Pr.j{m:Nat}{p:Probe}(h:Pr m p):p.j≤m:=by have:=h.ij;omega
theorem NA(h:Int):bits h<2^64:=by
 unfold bits
 have h1:=iE h (show(2^64:Int)≠0 by decide)
 have h2:=gN h (show(0:Int)<2^64 by decide)
 have h3:((2:Nat)^64:Nat)=18446744073709551616:=by decide
 omega
def start(m:Nat)(h:Int):Probe:=st m (bits h%(m+1),bits h) none
theorem Pr.start(m:Nat)(h:Int):Pr m (start m h):=Pr.st (by show bits h%(m+1)≤m;have:=mn (bits h) (show 0<m+1 by omega);omega) (NA h)
theorem Yw{q:Nat}(h:q<2^64):q/32^13=0:=Nat.div_eq_of_lt (dG h (by decide))
theorem Uy{m:Nat}(hm:Bo m){x:Nat×Nat}(h1:x.1≤m)(h2:x.2<2^64){e:Nat}(he:e≤m):∃L,L≤m+13∧(LR m L x).1=e:=by
 have e13:LR m 13 x=((LR m 13 x).1,0):=by
  have:=Mz m 13 x
  rw[Yw h2] at this
  rw[←this]
 obtain⟨k,hk,ek⟩:=cP hm (GI m 13 x h1) he
 refine⟨13+k,by omega,?_⟩
 rw[My,e13,Yv]
 exact ek
theorem Uz{m:Nat}(hm:Bo m){p:Probe}(h:Pr m p){e:Nat}(he:e≤m):∃n,n<10*(m+15)∧(advN m n p).j=e:=by
 have hl:(leap m p.i p.perturb).1≤m:=GI m 1 (p.i,p.perturb) h.i
 obtain⟨L,hL,eL⟩:=Uy hm (x:=leap m p.i p.perturb) hl (kr (Nat.div_le_self _ _) h.pert) he
 obtain⟨n,hn,en⟩:=Pn m L (leap m p.i p.perturb) p.dummy hl
 refine⟨p.more+1+n,by have:=h.more;omega,?_⟩
 rw[Bn,GH,en]
 exact eL
theorem OG(m:Nat)(p:Probe):(adv m p).dummy=p.dummy:=by
 by_cases h:0<p.more
 ·rw[GF h]
 ·rw[GG h]
theorem Di(m:Nat):∀(n:Nat) (p:Probe),(advN m n p).dummy=p.dummy
 |0,_=>rfl
 |n+1,p=> (Di m n _).trans (OG m p)
end StT
namespace StT
local macro_rules | `(tactic| omega) => `(tactic| first | lia | omega)
open PySem PySem.SetTable
def Jr(t:fm)(j:Nat):Prop:=∃i:Nat,t.place[i]?=some j
structure Tb(t:fm)(hs:List Int):Prop where
 mask:Bo t.mask
 dum:t.dummies= #[]
 ris:Pl t.place
 le:∀i j:Nat,t.place[i]?=some j→j≤t.mask
 size:t.place.size=hs.length
 fnd:∀(i j:Nat) (h:Int),t.place[i]?=some j→hs[i]?=some h→∃n,(advN t.mask n (start t.mask h)).j=j∧∀k,k<n→Jr t (advN t.mask k (start t.mask h)).j
section
variable{t:fm}{hs:List Int}
theorem Tb.odd(T:Tb t hs):t.mask%2=1:=by rcases T.mask with h|h|h|h<;>rw[h]
theorem Tb.low(T:Tb t hs):7≤t.mask:=by rcases T.mask with h|h|h|h<;>omega
theorem Tb.live(T:Tb t hs){i j:Nat}(h:t.place[i]?=some j):t.slot j=.live i:=by
 unfold slot
 rw[Bm T.ris h]
 simp only[h,beq_self_eq_true,if_true]
theorem Tb.empty(T:Tb t hs){j:Nat}(h:¬Jr t j):t.slot j=.empty:=by
 unfold slot
 have h1:(t.place[below t.place j]?==some j)=false:=by
  rw[beq_eq_false_iff_ne]
  exact fun e=>h ⟨_,e⟩
 have h2:has t.dummies j=false:=by
  unfold has
  rw[T.dum]
  rfl
 simp only[h1,h2,dC,if_false]
theorem Tb.room(T:Tb t hs)(h:hs.length≤t.mask):∃e,e≤t.mask∧¬Jr t e:=by
 apply fZ
 intro hn
 have:=LP (t.mask+1) t.place.toList fun e he=>by
  have:Jr t e:=fZ fun hc=>hn ⟨e,by omega,hc⟩
  obtain⟨i,hi⟩:=this
  exact dj (i:=i) (by simpa using hi)
 rw[dr,T.size] at this
 omega
theorem Sw(T:Tb t hs){hashAt:Nat→Int}{h:Int}{p:Probe}{i:Nat}(fuel:Nat)(h1:t.place[i]?=some p.j)(h2:hashAt i≠h):jP t hashAt h (fuel+1) p=jP t hashAt h fuel (adv t.mask p):=by
 rw[jP,T.live h1]
 simp only[beq_iff_eq,if_neg h2,GE]
theorem Js(T:Tb t hs){hashAt:Nat→Int}{h:Int}:∀(n fuel:Nat) (p:Probe),(∀k,k<n→∃i,t.place[i]?=some (advN t.mask k p).j∧hashAt i≠h)→jP t hashAt h (fuel+n) p=jP t hashAt h fuel (advN t.mask n p)
 |0,_,_,_=>rfl
 |n+1,fuel,p,hk=>by
  obtain⟨i,h1,h2⟩:=hk 0 (mG _)
  have h1:t.place[i]?=some p.j:=h1
  rw[←md,Sw T _ h1 h2]
  exact Js T n fuel _ fun k hk'=>hk (k+1) (Nat.succ_lt_succ hk')
theorem Po(T:Tb t hs){hashAt:Nat→Int}{h:Int}{p:Probe}{fuel:Nat}(h1:¬Jr t p.j):jP t hashAt h (fuel+1) p=some (.empty p.j p.dummy):=by
 rw[jP,T.empty h1]
theorem We(T:Tb t hs){hashAt:Nat→Int}{h:Int}{p:Probe}{fuel i:Nat}(h1:t.place[i]?=some p.j)(h2:hashAt i=h):jP t hashAt h (fuel+1) p=some (.candidate p.j i (adv t.mask p)):=by
 rw[jP,T.live h1]
 simp only[beq_iff_eq,if_pos h2,GE]
theorem least{S:Nat→Prop}:∀(n:Nat),S n→∃m,m≤n∧S m∧∀k,k<m→¬S k:=by
 intro n
 induction n using lC with
 |ind n ih=>
  intro hn
  by_cases h:∃k,k<n∧S k
  ·obtain⟨k,hk,sk⟩:=h
   obtain⟨m,h1,h2,h3⟩:=ih k hk sk
   exact⟨m,by omega,h2,h3⟩
  ·exact⟨n,dm _,hn,fun k hk sk=>h ⟨k,hk,sk⟩⟩
theorem Jt(T:Tb t hs)(hl:hs.length≤t.mask){p:Probe}(pr:Pr t.mask p)(hashAt:Nat→Int)(h:Int):∃n,(∀k,k<n→∃i,t.place[i]?=some (advN t.mask k p).j∧hashAt i≠h)∧
  ((¬Jr t (advN t.mask n p).j∧t.probe hashAt h p=some (.empty (advN t.mask n p).j p.dummy))∨∃i,t.place[i]?=some (advN t.mask n p).j∧hashAt i=h∧t.probe hashAt h p=some (.candidate (advN t.mask n p).j i (advN t.mask (n+1) p))):=by
 obtain⟨e,he,hne⟩:=T.room hl
 obtain⟨n0,hn0,en0⟩:=Uz T.mask pr he
 obtain⟨n,hn,sn,ln⟩:=least (S:=fun n=>¬Jr t (advN t.mask n p).j∨∃i,t.place[i]?=some (advN t.mask n p).j∧hashAt i=h) n0 (.inl (by rw[en0];exact hne))
 have pre:∀k,k<n→∃i,t.place[i]?=some (advN t.mask k p).j∧hashAt i≠h:=fun k hk=>by
  have:=ln k hk
  have ho:Jr t (advN t.mask k p).j:=fZ fun hc=>this (.inl hc)
  obtain⟨i,hi⟩:=ho
  exact⟨i,hi,fun z=>this (.inr ⟨i,hi,z⟩)⟩
 have hfuel:10*turns t.mask=(10*(t.mask+15)-n-1+1)+n:=by unfold turns;omega
 refine⟨n,pre,?_⟩
 unfold probe
 rw[hfuel,Js T n _ p pre]
 rcases sn with sn| ⟨i,h1,h2⟩
 ·exact .inl ⟨sn,by rw[Po T sn,Di]⟩
 ·exact .inr ⟨i,h1,h2,by rw[We T h1 h2,HY]⟩
theorem Tb.put(T:Tb t hs){h:Int}{n:Nat}(hfree:¬Jr t (advN t.mask n (start t.mask h)).j)(hway:∀k,k<n→Jr t (advN t.mask k (start t.mask h)).j):
  Tb (t.put (advN t.mask n (start t.mask h)).j).1 (hs.take (t.put (advN t.mask n (start t.mask h)).j).2++h::hs.drop (t.put (advN t.mask n (start t.mask h)).j).2)∧(t.put (advN t.mask n (start t.mask h)).j).2≤hs.length∧
   (t.put (advN t.mask n (start t.mask h)).j).1.mask=t.mask∧(t.put (advN t.mask n (start t.mask h)).j).1.plain=t.plain∧(t.put (advN t.mask n (start t.mask h)).j).1.led=t.led∧(t.put (advN t.mask n (start t.mask h)).j).1.moves=t.moves:=by
 have hj:(advN t.mask n (start t.mask h)).j≤t.mask:=(Pr.start t.mask h).advN.j
 generalize hJ:(advN t.mask n (start t.mask h)).j=J at*
 have hd:has t.dummies J=false:=by
  unfold has
  rw[T.dum]
  rfl
 have hnot:∀i:Nat,t.place[i]?≠some J:=fun i e=>hfree ⟨i,e⟩
 have hb:=(CO (j:=J) T.ris).1
 have e1:(t.put J).1={t with place:=gH t.place (below t.place J) J}:=by
  unfold fm.put
  simp only[hd,dC,if_false]
 have e2:(t.put J).2=below t.place J:=rfl
 rw[e1,e2]
 have ix:=getElem?_insertAt t.place (below t.place J) J hb
 have hl:(hs.take (below t.place J)).length=below t.place J:=by rw[eH,←T.size];omega
 have ih:∀i:Nat,(hs.take (below t.place J)++h::hs.drop (below t.place J))[i]?=if i<below t.place J then hs[i]? else if i=below t.place J then some h else hs[i-1]?:=fun i=>by
  by_cases h1:i<below t.place J
  ·rw[if_pos h1,eF (by omega),iL h1]
  ·rw[if_neg h1,dQ (by omega),hl]
   by_cases h2:i=below t.place J
   ·subst h2;simp
   ·rw[if_neg h2,show i-below t.place J=(i-below t.place J-1)+1 by omega,iU,gm]
    rw[show below t.place J+(i-below t.place J-1)=i-1 by omega]
 have occ:∀x,Jr t x→Jr {t with place:=gH t.place (below t.place J) J} x:=fun x ⟨i,hi⟩=>by
  by_cases h1:i<below t.place J
  ·exact⟨i,by show(gH t.place (below t.place J) J)[i]?=some x;rw[ix,if_pos h1];exact hi⟩
  ·exact⟨i+1,by show(gH t.place (below t.place J) J)[i+1]?=some x;rw[ix,if_neg (by omega),if_neg (by omega)];exact hi⟩
 refine⟨⟨T.mask,T.dum,LQ T.ris hnot,fun i j e=>?_,?_,fun i j h' e eh=>?_⟩,by rw[←T.size];exact hb,rfl,rfl,rfl,rfl⟩
 ·have e:(gH t.place (below t.place J) J)[i]?=some j:=e
  rw[ix] at e
  by_cases h1:i<below t.place J
  ·rw[if_pos h1] at e;exact T.le i j e
  ·rw[if_neg h1] at e
   by_cases h2:i=below t.place J
   ·rw[if_pos h2] at e;cases e;exact hj
   ·rw[if_neg h2] at e;exact T.le _ j e
 ·show(gH t.place (below t.place J) J).size=_
  rw[Df _ _ _ hb,T.size]
  have hb':below t.place J≤hs.length:=by rw[←T.size];exact hb
  rw[dz,hl,dA,ie]
  omega
 ·have e:(gH t.place (below t.place J) J)[i]?=some j:=e
  rw[ix] at e
  rw[ih] at eh
  by_cases h1:i<below t.place J
  ·rw[if_pos h1] at e eh
   obtain⟨k,ek,wk⟩:=T.fnd i j h' e eh
   exact⟨k,ek,fun k' hk=>occ _ (wk k' hk)⟩
  ·rw[if_neg h1] at e eh
   by_cases h2:i=below t.place J
   ·rw[if_pos h2] at e eh
    cases e;cases eh
    exact⟨n,hJ,fun k hk=>occ _ (hway k hk)⟩
   ·rw[if_neg h2] at e eh
    obtain⟨k,ek,wk⟩:=T.fnd _ j h' e eh
    exact⟨k,ek,fun k' hk=>occ _ (wk k' hk)⟩
theorem Tb.fresh(f mv:Nat)(led:Bool):Tb (fm.fresh f mv led) []:=by
 refine⟨.inl rfl,rfl,iH,fun i j e=>?_,rfl,fun i j h e=>?_⟩
 ·have e:(#[]:Array Nat)[i]?=some j:=e
  simp at e
 ·have e:(#[]:Array Nat)[i]?=some j:=e
  simp at e
end
end StT
namespace StT
local macro_rules | `(tactic| omega) => `(tactic| first | lia | omega)
open PySem PySem.SetTable
structure LC(m:Nat)(owner:Array (Option Nat))(hs:List Int):Prop where
 size:owner.size=m+1
 put:∀(r:Nat) (h:Int),hs[r]?=some h→∃j,j≤m∧owner[j]?=some (some r)∧∃n,(advN m n (start m h)).j=j∧∀k,k<n→∃r',owner[(advN m k (start m h)).j]?=some (some r')
 lt:∀j r:Nat,owner[j]?=some (some r)→r<hs.length
 inj:∀j j' r:Nat,owner[j]?=some (some r)→owner[j']?=some (some r)→j=j'
section
variable{m:Nat}{owner:Array (Option Nat)}{hs:List Int}
theorem IY(hz:owner.size=m+1){x:Nat}(hx:x≤m):owner.getD x (some 0)=owner[x]'(by omega)∧owner[x]?=some (owner[x]'(by omega)):=by
 have hx':x<owner.size:=by omega
 exact⟨by simp[kA,hx'],by simp[hx']⟩
theorem VA(hz:owner.size=m+1){x:Nat}(hx:x≤m)(h:(owner.getD x (some 0)).isNone=false):∃r,owner[x]?=some (some r):=by
 obtain⟨h1,h2⟩:=IY hz hx
 rw[h1] at h
 cases e:owner[x]'(by omega) with
 |none=>rw[e] at h;cases h
 |some r=>exact⟨r,by rw[h2,e]⟩
theorem Sx(hz:owner.size=m+1){x:Nat}(hx:x≤m)(h:(owner.getD x (some 0)).isNone=true):owner[x]?=some none:=by
 obtain⟨h1,h2⟩:=IY hz hx
 rw[h1] at h
 cases e:owner[x]'(by omega) with
 |none=>rw[h2,e]
 |some r=>rw[e] at h;cases h
theorem LS{i q k:Nat}(hk:k≤jd m i-i):(advN m k (st m (i,q) none)).j=i+k:=by
 rw[IV m k _ hk]
 rfl
theorem HZ(m i:Nat):i≤jd m i:=by
 unfold jd
 split<;>omega
theorem Ha(hz:owner.size=m+1){j:Nat}:∀(fuel i q:Nat),i≤m→layClean.free m owner fuel i q=some j→
  ∃n,(advN m n (st m (i,q) none)).j=j∧(∀k,k<n→∃r,owner[(advN m k (st m (i,q) none)).j]?=some (some r))∧owner[j]?=some none∧j≤m
 |0,i,q,_,e=>by simp[layClean.free] at e
 |fuel+1,i,q,hi,e=>by
  have hr:=Ei m i hi
  have hge:=HZ m i
  rw[layClean.free] at e
  cases hf:(dE (jd m i+1-i)).find? fun k=> (owner.getD (i+k) (some 0)).isNone with
  |some k=>
   rw[hf] at e
   cases e
   have hk1:(owner.getD (i+k) (some 0)).isNone=true:=by simpa using List.find?_some hf
   have hkm:k<jd m i+1-i:=dU.mp (List.mem_of_find?_eq_some hf)
   refine⟨k,LS (by omega),fun k' hk'=>?_,Sx hz (by omega) hk1,by omega⟩
   rw[LS (by omega)]
   refine VA hz (by omega) ?_
   have:=List.find?_range_eq_some.mp hf
   have h3:=this.2.2 k' hk'
   simpa using h3
  |none=>
   rw[hf] at e
   have hl:(leap m i q).1≤m:=GI m 1 (i,q) hi
   obtain⟨n,h1,h2,h3⟩:=Ha hz fuel _ _ hl e
   have all:∀k,k≤jd m i-i→∃r,owner[(advN m k (st m (i,q) none)).j]?=some (some r):=fun k hk=>by
    rw[LS hk]
    refine VA hz (by omega) ?_
    have:=List.find?_eq_none.mp hf k (dU.mpr (by omega))
    exact Bool.eq_false_iff.mpr this
   have hleap:advN m (jd m i-i+1) (st m (i,q) none)=st m (leap m i q) none:=GH m (st m (i,q) none)
   refine⟨(jd m i-i+1)+n,?_,fun k hk=>?_,h3⟩
   ·rw[Bn,hleap]
    exact h1
   ·by_cases hk':k≤jd m i-i
    ·exact all k hk'
    ·have e2:k=(jd m i-i+1)+(k- (jd m i-i+1)):=by omega
     rw[e2,Bn,hleap]
     exact h2 _ (by omega)
theorem Hb(hz:owner.size=m+1){e:Nat}(he:owner[e]?=some none)(hem:e≤m):∀(fuel L i q:Nat),i≤m→L<fuel→(LR m L (i,q)).1=e→layClean.free m owner fuel i q≠none
 |0,L,_,_,_,h,_=>absurd h (jq _)
 |fuel+1,L,i,q,hi,hL,eL=>by
  rw[layClean.free]
  have hge:=HZ m i
  cases hf:(dE (jd m i+1-i)).find? fun k=> (owner.getD (i+k) (some 0)).isNone with
  |some k=>simp
  |none=>
   cases L with
   |zero=>
    have eL:i=e:=eL
    subst eL
    have:=List.find?_eq_none.mp hf 0 (dU.mpr (by omega))
    obtain⟨h1,h2⟩:=IY hz hem
    rw[he] at h2
    have h2:=dW.inj h2
    rw[Nat.add_zero,h1,←h2] at this
    exact absurd rfl this
   |succ L=>
    exact Hb hz he hem fuel L _ _ (GI m 1 (i,q) hi) (by omega) eL
def Dy(m:Nat)(acc:Option (Array (Option Nat)×Nat))(h:Int):Option (Array (Option Nat)×Nat):=do
 let(owner,k)←acc
 let j←layClean.free m owner (turns m) (bits h%(m+1)) (bits h)
 pure (owner.setIfInBounds j (some k),k+1)
theorem Ju(m:Nat)(hs:Array Int):layClean m hs=(hs.toList.foldl (Dy m) (some (lG (m+1) none,0))).map (·.1):=by
 unfold layClean
 rw[Array.foldl_toList]
 rfl
theorem LC.room(c:LC m owner hs)(h:hs.length≤m):∃e,e≤m∧owner[e]?=some none:=by
 apply fZ
 intro hn
 have all:∀e,e≤m→∃r,owner[e]?=some (some r):=fun e he=>by
  have hz:=c.size
  cases q:owner[e]'(by omega) with
  |none=>exact absurd ⟨e,he,by rw[←q];simp[show e<owner.size by omega]⟩ hn
  |some r=>exact⟨r,by rw[←q];simp[show e<owner.size by omega]⟩
 have hf:∀e,∃r,e≤m→owner[e]?=some (some r):=fun e=>by
  by_cases he:e≤m
  ·obtain⟨r,hr⟩:=all e he;exact⟨r,fun _=>hr⟩
  ·exact⟨0,fun z=>absurd z he⟩
 obtain⟨f,hf⟩:=Classical.axiomOfChoice hf
 have hl:=Bj hs.length ((dE (m+1)).map f) (by
  refine kL f (R:=fun a b=>a≠b∧a≤m∧b≤m) (fun a b hab e=>?_) ?_
  ·have h1:=hf a hab.2.1
   have h2:=hf b hab.2.2
   rw[e] at h1
   exact hab.1 (c.inj a b _ h1 h2)
  ·refine gQ (fun{a b} ha hb h=> ⟨dN h,?_,?_⟩) (jE (n:=m+1))
   ·have:=dU.mp ha;omega
   ·have:=dU.mp hb;omega) (fun x hx=>by
  obtain⟨e,he,rfl⟩:=dy.mp hx
  exact c.lt e _ (hf e (by have:=dU.mp he;omega)))
 rw[c9,eP] at hl
 omega
theorem LC.step(hm:Bo m)(c:LC m owner hs)(hl:hs.length≤m)(h:Int):∃o',Dy m (some (owner,hs.length)) h=some (o',hs.length+1)∧LC m o' (hs++[h]):=by
 obtain⟨e,he,hne⟩:=c.room hl
 have hb:bits h%(m+1)≤m:=by have:=mn (bits h) (show 0<m+1 by omega);omega
 obtain⟨L,hL,eL⟩:=Uy hm (x:=(bits h%(m+1),bits h)) hb (NA h) he
 have hs':=Hb c.size hne he (turns m) L _ _ hb (by unfold turns;omega) eL
 cases hf:layClean.free m owner (turns m) (bits h%(m+1)) (bits h) with
 |none=>exact absurd hf hs'
 |some j=>
  obtain⟨n,h1,h2,h3,h4⟩:=Ha c.size _ _ _ hb hf
  have hj:j<owner.size:=by rw[c.size];omega
  refine⟨owner.setIfInBounds j (some hs.length),?_,?_⟩
  ·unfold Dy
   show(layClean.free m owner (turns m) (bits h%(m+1)) (bits h)>>=_)=_
   rw[hf]
   rfl
  ·have at_:∀x:Nat,(owner.setIfInBounds j (some hs.length))[x]?=if x=j then some (some hs.length) else owner[x]?:=fun x=>by
    rw[Array.getElem?_setIfInBounds]
    by_cases hx:x=j
    ·subst hx;simp[hj]
    ·rw[if_neg (Ne.symm hx),if_neg hx]
   have occ:∀x r:Nat,owner[x]?=some (some r)→∃r',(owner.setIfInBounds j (some hs.length))[x]?=some (some r'):=fun x r hr=>by
    rw[at_]
    by_cases hx:x=j
    ·exact⟨_,if_pos hx⟩
    ·exact⟨r,by rw[if_neg hx];exact hr⟩
   refine⟨by simpa using c.size,fun r h' e'=>?_,fun x r hr=>?_,fun x y r hx hy=>?_⟩
   ·by_cases hr:r<hs.length
    ·rw[eF hr] at e'
     obtain⟨x,q1,q2,n',q3,q4⟩:=c.put r h' e'
     refine⟨x,q1,?_,n',q3,fun k hk=>?_⟩
     ·rw[at_,if_neg];exact q2
      rintro rfl
      rw[h3] at q2;cases q2
     ·obtain⟨r',hr'⟩:=q4 k hk
      exact occ _ r' hr'
    ·rw[dQ (by omega)] at e'
     have hr0:r-hs.length=0:=by
      have:=(dt.mp e').1
      simp at this;omega
     rw[hr0] at e'
     cases e'
     have:r=hs.length:=by omega
     subst this
     refine⟨j,h4,by rw[at_,if_pos rfl],n,h1,fun k hk=>?_⟩
     obtain⟨r',hr'⟩:=h2 k hk
     exact occ _ r' hr'
   ·rw[at_] at hr
    rw[dz]
    by_cases hx:x=j
    ·rw[if_pos hx] at hr;cases hr;simp
    ·rw[if_neg hx] at hr
     have:=c.lt x r hr
     omega
   ·rw[at_] at hx hy
    by_cases h1:x=j
    ·rw[if_pos h1] at hx
     cases hx
     by_cases h2:y=j
     ·rw[h1,h2]
     ·rw[if_neg h2] at hy
      exact absurd (c.lt y _ hy) (e6 _)
    ·rw[if_neg h1] at hx
     by_cases h2:y=j
     ·rw[if_pos h2] at hy
      cases hy
      exact absurd (c.lt x _ hx) (e6 _)
     ·rw[if_neg h2] at hy
      exact c.inj x y r hx hy
theorem LC.steps(hm:Bo m):∀(rest hs:List Int) (owner:Array (Option Nat)),LC m owner hs→hs.length+rest.length≤m+1→∃o',rest.foldl (Dy m) (some (owner,hs.length))=some (o',hs.length+rest.length)∧LC m o' (hs++rest)
 | [],hs,owner,c,_=> ⟨owner,rfl,by rw[i8];exact c⟩
 |h::rest,hs,owner,c,hl=>by
  simp only[dA] at hl
  obtain⟨o1,e1,c1⟩:=c.step hm (by omega) h
  obtain⟨o2,e2,c2⟩:=LC.steps hm rest (hs++[h]) o1 c1 (by rw[dz];simp;omega)
  refine⟨o2,?_,by rw[gi] at c2;exact c2⟩
  rw[List.foldl_cons,e1]
  have:(hs++[h]).length=hs.length+1:=by simp
  rw[this] at e2
  rw[e2]
  simp only[dA]
  congr 2
  omega
theorem Jv(hm:Bo m)(hs:Array Int)(hl:hs.size≤m+1):∃owner,layClean m hs=some owner∧LC m owner hs.toList:=by
 have c0:LC m (lG (m+1) none) []:=⟨by simp,fun r h e=>by simp at e,fun j r e=>by
  rw[Array.getElem?_replicate] at e;split at e<;>simp at e,fun j j' r e=>by
  rw[Array.getElem?_replicate] at e;split at e<;>simp at e⟩
 obtain⟨o,e,c⟩:=LC.steps hm hs.toList [] _ c0 (by simpa using hl)
 refine⟨o,?_,by simpa using c⟩
 rw[Ju]
 have e':hs.toList.foldl (Dy m) (some (lG (m+1) none,0))=_:=e
 rw[e']
 rfl
end
end StT
namespace StT
open PySem PySem.SetTable
section
variable{m:Nat}
theorem Sy(hm:Bo m)(hs:Array Int)(hl:hs.size≤m+1)(f mv:Nat)(led plain:Bool):∃t' order,laid m f mv led plain hs=some (t',order)∧t'.mask=m∧t'.led=led∧t'.plain=plain∧t'.moves=mv∧order.size=hs.size∧
  (∀i r:Nat,order[i]?=some r→r<hs.size)∧(∀i i' r:Nat,order[i]?=some r→order[i']?=some r→i=i')∧(∀r,r<hs.size→∃i:Nat,order[i]?=some r)∧Tb t' (order.toList.map fun r=>hs.getD r 0):=by
 obtain⟨owner,e,c⟩:=Jv hm hs hl
 generalize hlive:(dE (m+1)).filterMap (fun j=> (owner.getD j none).map (j,·))=live
 have mem:∀j r,(j,r)∈live↔j≤m∧owner[j]?=some (some r):=fun j r=>by
  rw[←hlive,gM]
  constructor
  ·rintro⟨x,hx,ex⟩
   have hx:=dU.mp hx
   have hxo:x<owner.size:=by rw[c.size];exact hx
   have eg:owner.getD x none=owner[x]:=by simp[kA,hxo]
   rw[eg] at ex
   cases q:owner[x] with
   |none=>rw[q] at ex;cases ex
   |some r'=>
    rw[q] at ex
    cases ex
    exact⟨by omega,by rw[←q];simp[hxo]⟩
  ·rintro⟨h1,h2⟩
   obtain⟨hxo,q⟩:=eX.mp h2
   refine⟨j,dU.mpr (by omega),?_⟩
   have eg:owner.getD j none=owner[j]:=by simp[kA,hxo]
   rw[eg,q]
   rfl
 have pw:live.Pairwise fun a b=>a.1<b.1:=by
  rw[←hlive,List.pairwise_filterMap]
  refine eU.imp (fun{a b} h x hx y hy=>?_) (jE (n:=m+1))
  cases q1:owner.getD a none with
  |none=>rw[q1] at hx;cases hx
  |some r1=>
   cases q2:owner.getD b none with
   |none=>rw[q2] at hy;cases hy
   |some r2=>
    rw[q1] at hx;rw[q2] at hy
    cases hx;cases hy
    exact h
 have lt:∀j r,(j,r)∈live→r<hs.size:=fun j r h=>by have:=c.lt j r ((mem j r).mp h).2;simpa using this
 have pwr:live.Pairwise fun a b=>a.2≠b.2:=by
  refine gQ (fun{a b} ha hb h e=>?_) pw
  obtain⟨a1,a2⟩:=a
  obtain⟨b1,b2⟩:=b
  have h1:=(mem _ _).mp ha
  have h2:=(mem _ _).mp hb
  have e:a2=b2:=e
  subst e
  have:=c.inj _ _ _ h1.2 h2.2
  have h:a1<b1:=h
  omega
 have nd:(live.map (·.2)).Nodup:=kL _ (fun _ _ h=>h) pwr
 have all:∀r,r<hs.size→∃j,(j,r)∈live:=fun r hr=>by
  obtain⟨j,h1,h2,_⟩:=c.put r (hs[r]) (by simp[hr])
  exact⟨j,(mem j r).mpr ⟨h1,h2⟩⟩
 have len:live.length=hs.size:=by
  apply Nat.le_antisymm
  ·have:=Bj hs.size (live.map (·.2)) nd fun x hx=>by
    obtain⟨⟨j,r⟩,h1,rfl⟩:=dy.mp hx
    exact lt j r h1
   simpa using this
  ·have:=LP hs.size (live.map (·.2)) fun r hr=>by
    obtain⟨j,hj⟩:=all r hr
    exact dy.mpr ⟨_,hj,rfl⟩
   simpa using this
 refine⟨{mask:=m,place:=(live.map (·.1)).toArray,dummies:=#[],finger:=f,led:=led,moves:=mv,plain:=plain},(live.map (·.2)).toArray,?_,rfl,rfl,rfl,rfl,by simpa using len,fun i r h=>?_,fun i i' r h h'=>?_,fun r hr=>?_,?_⟩
 ·unfold laid
  rw[e]
  show some _=some _
  rw[hlive]
 ·have h:(live.map (·.2))[i]?=some r:=by simpa using h
  rw[b9] at h
  cases q:live[i]? with
  |none=>rw[q] at h;cases h
  |some x=>rw[q] at h;cases h;exact lt x.1 x.2 (dj q)
 ·have h:(live.map (·.2))[i]?=some r:=by simpa using h
  have h':(live.map (·.2))[i']?=some r:=by simpa using h'
  obtain⟨l1,e1⟩:=dt.mp h
  obtain⟨l2,e2⟩:=dt.mp h'
  rcases gT i i' with hlt|heq|hgt
  ·exact absurd (e1.trans e2.symm) (fk.mp nd i i' l1 l2 hlt)
  ·exact heq
  ·exact absurd (e2.trans e1.symm) (fk.mp nd i' i l2 l1 hgt)
 ·obtain⟨j,hj⟩:=all r hr
  obtain⟨i,hi⟩:=eJ hj
  exact⟨i,by simp[hi]⟩
 ·have at_:∀i j:Nat,(live.map (·.1)).toArray[i]?=some j→∃r,live[i]?=some (j,r):=fun i j h=>by
   have h:(live.map (·.1))[i]?=some j:=by simpa using h
   rw[b9] at h
   cases q:live[i]? with
   |none=>rw[q] at h;cases h
   |some x=>
    rw[q] at h
    cases h
    exact⟨x.2,rfl⟩
  refine⟨hm,rfl,?_,fun i j h=>?_,by simp,fun i j h e1 e2=>?_⟩
  ·show(live.map (·.1)).toArray.toList.Pairwise (· < ·)
   exact kL _ (fun _ _ h=>h) pw
  ·obtain⟨r,hr⟩:=at_ i j h
   exact((mem j r).mp (dj hr)).1
  ·obtain⟨r,hr⟩:=at_ i j e1
   have hrlt:=lt j r (dj hr)
   have e2:((live.map (·.2)).map fun r=>hs.getD r 0)[i]?=some h:=by simpa using e2
   rw[b9,b9,hr] at e2
   have e2:hs.getD r 0=h:=dW.inj e2
   have eh:hs.toList[r]?=some h:=by
    rw[←e2]
    simp[kA,hrlt]
   obtain⟨j2,q1,q2,n,q3,q4⟩:=c.put r h eh
   have ej:=c.inj j2 j r q2 ((mem j r).mp (dj hr)).2
   subst ej
   refine⟨n,q3,fun k hk=>?_⟩
   obtain⟨r',hr'⟩:=q4 k hk
   have hk':(advN m k (start m h)).j≤m:=(Pr.start m h).advN.j
   obtain⟨i',hi'⟩:=eJ ((mem _ r').mpr ⟨hk',hr'⟩)
   refine⟨i',?_⟩
   show(live.map (·.1)).toArray[i']?=_
   simp[hi']
theorem OH{n:Nat}(h:Bo m)(h1:n*5<m*3)(h2:m*3≤(n+1)*5)(h3:n<300):Bo (lV (grown (n+1))-1)∧n+1≤lV (grown (n+1))-1∧(n+1)*5< (lV (grown (n+1))-1)*3∧lV (grown (n+1))≤512:=by
 rcases h with rfl|rfl|rfl|rfl
 ·have:n=4:=by omega
  subst this
  refine⟨.inr (.inl (by decide)),by decide,by decide,by decide⟩
 ·have:n=18:=by omega
  subst this
  refine⟨.inr (.inr (.inl (by decide))),by decide,by decide,by decide⟩
 ·have:n=76:=by omega
  subst this
  refine⟨.inr (.inr (.inr (by decide))),by decide,by decide,by decide⟩
 ·omega
theorem CQ{α:Type}(es:Array α):∀(l:List Nat),(∀r∈l,r<es.size)→∀i:Nat,(l.filterMap fun r=>es[r]?)[i]?=(l[i]?).bind fun r=>es[r]?
 | [],_,i=>by simp
 |r::l,h,i=>by
  have hr:=h r dP
  have e:es[r]?=some es[r]:=by simp[hr]
  rw[eT,e]
  cases i with
  |zero=>simp
  |succ i=>
   simp only[iU]
   exact CQ es l (fun x hx=>h x (dw _ hx)) i
theorem Bw{α:Type}(es:Array α):∀(l:List Nat),(∀r∈l,r<es.size)→(l.filterMap fun r=>es[r]?).length=l.length
 | [],_=>rfl
 |r::l,h=>by
  have hr:=h r dP
  have e:es[r]?=some es[r]:=by simp[hr]
  rw[eT,e]
  simp[Bw es l (fun x hx=>h x (dw _ hx))]
end
open PyProof.Rows
section
variable{prog:Program}{w:World}{A:dH}{E:Value→b6→Prop}{s:b6}
abbrev IK(prog:Program)(w:World)(h:Heap)(k:List Int)(a:Addr):Prop:=IsTupleKey (intKind prog w) h k a
abbrev tk(prog:Program)(w:World):HeapKind prog w (List Int):=tupleKind (intKind prog w)
theorem Ej{n:Int}{v:Value}(h:(intKind prog w).is n v=true):∃t,v=.int n t:=by
 cases v with
 |int m t=>
  have h2:(intKind prog w).is m (.int m t)=true:=intKind_is _ _ _ _
  have e:=(intKind prog w).inj _ _ _ h h2
  subst e
  exact⟨t,rfl⟩
 |_=>exact absurd h (by simp[intKind,Value.isInt])
theorem GJ{ks:List Int}{vs:List Value}(h:ItemsAre (intKind prog w) ks vs):∀v∈vs,∃n t,v=.int n t:=by
 induction h with
 |nil=>intro v hv;simp at hv
 |cons h1 _ ih=>
  intro v hv
  rcases dh.mp hv with rfl|hv
  ·obtain⟨t,e⟩:=Ej h1
   exact⟨_,t,e⟩
  ·exact ih v hv
theorem Yx{k:List Int}{a:Addr}{Q:Bool→b6→Prop}(hk:IK prog w s.heap k a)(h:Q true s):wpAny (model prog w) A (hashByValue 8 (.ref a)) Q E s:=by
 have hT:=hk.typeIs
 obtain⟨o,items,n,ho,_,hd,hi⟩:=hk
 have hints:=GJ hi
 unfold hashByValue
 refine b4 (wpAny_specialOf hT PySem.F.slot_tuple_hash.lookup ?_)
 dsimp only
 refine b4 (ip ho hd ?_)
 show wpAny _ _ ((forIn items _ _)>>=_) _ _ s
 rw[←Array.forIn_toList]
 refine b4 (kT _ (fun rest r s'=>r.1=none∧s'=s∧∀v∈rest,∃n t,v=l0 n t) _ ?_ ?_ _ _ ⟨rfl,rfl,hints⟩)
 ·rintro v rest r s' ⟨hr,rfl,hall⟩
  obtain⟨n,t,rfl⟩:=hall v dP
  refine b4 (b7 ?_)
  simp only[jn,dC,if_false]
  exact b7 ⟨rfl,rfl,fun u hu'=>hall u (dw _ hu')⟩
 ·rintro⟨r1,r2⟩ s' ⟨hr,rfl,_⟩
  simp only at hr
  subst hr
  exact b7 h
theorem NB{k:List Int}{a:Addr}{Q:Bool→b6→Prop}(hk:IK prog w s.heap k a)(h:Q false s):wpAny (model prog w) A (kG 8 (.ref a)) Q E s:=by
 have hT:=hk.typeIs
 obtain⟨o,items,n,ho,hc,hd,hi⟩:=hk
 have hints:=GJ hi
 unfold kG
 refine b4 (j5 hT ?_)
 dsimp only
 rw[if_pos (by decide)]
 refine b4 (b7 ?_)
 simp only[jn,dC,if_false]
 refine b4 (ip ho hd ?_)
 show wpAny _ _ ((forIn items _ _)>>=_) _ _ s
 rw[←Array.forIn_toList]
 refine b4 (kT _ (fun rest r s'=>r.1=none∧s'=s∧∀v∈rest,∃n t,v=l0 n t) _ ?_ ?_ _ _ ⟨rfl,rfl,hints⟩)
 ·rintro v rest r s' ⟨hr,rfl,hall⟩
  obtain⟨n,t,rfl⟩:=hall v dP
  unfold kG
  refine b4 (b7 ?_)
  simp only[dC,if_false]
  exact b7 ⟨rfl,rfl,fun u hu'=>hall u (dw _ hu')⟩
 ·rintro⟨r1,r2⟩ s' ⟨hr,rfl,_⟩
  simp only at hr
  subst hr
  exact b7 h
theorem Sz{k:List Int}{a:Addr}{Q:Bool→b6→Prop}{l:List Value}(hk:IK prog w s.heap k a)(hl:∀v∈l,∃k' b,v=.ref b∧IK prog w s.heap k' b)(h:Q false s):wpAny (model prog w) A (searchCouldBeSeen (.ref a) l) Q E s:=by
 unfold searchCouldBeSeen
 refine b4 (kT _ (fun rest r s'=>r.1=none∧s'=s∧∀v∈rest,∃k' b,v=Value.ref b∧IK prog w s.heap k' b) _ ?_ ?_ _ _ ⟨rfl,rfl,hl⟩)
 ·rintro v rest r s' ⟨hr,rfl,hall⟩
  obtain⟨k',b,rfl,hb⟩:=hall v dP
  have go:∀u∈rest,∃k' b,u=Value.ref b∧IK prog w s'.heap k' b:=fun u hu'=>hall u (dw _ hu')
  dsimp only
  split
  ·exact b7 ⟨rfl,rfl,go⟩
  ·refine b4 (wpAny_eqIsQuiet_tuple hk ?_)
   simp only[jn,dC,if_false]
   refine b4 (wpAny_eqIsQuiet_tuple hb ?_)
   simp only[jn,dC,if_false]
   refine b4 (NB hk ?_)
   simp only[dC,if_false]
   refine b4 (NB hb ?_)
   simp only[dC,if_false]
   exact b7 ⟨rfl,rfl,go⟩
 ·rintro⟨r1,r2⟩ s' ⟨hr,rfl,_⟩
  simp only at hr
  subst hr
  exact b7 h
end
local macro_rules | `(tactic| omega) => `(tactic| first | lia | omega)
open PySem PySem.SetTable PyProof.Rows
section
variable{prog:Program}{w:World}{A:dH}{E:Value→b6→Prop}{s:b6}
def OI(xs:List (List Int×Addr))(prog:Program)(w:World):List (Int×Value):=xs.map fun p=> ((tk prog w).hash p.1,Value.ref p.2)
structure SetD(prog:Program)(w:World)(h:Heap)(a:Addr)(xs:List (List Int×Addr))(o:Obj)(es:Array (Int×Value))(ep:Nat)(t:fm):Prop where
 get:h.get? a=some o
 ex:o.ExactSet
 dat:o.data=.set es ep t
 es:es.toList=OI xs prog w
 key:∀(i:Nat) (k:List Int) (x:Addr),xs[i]?=some (k,x)→IK prog w h k x
 nd:(xs.map (·.1)).Nodup
 tb:Tb t (xs.map fun p=> (tk prog w).hash p.1)
 pl:t.plain=true
 room:xs.length*5<t.mask*3
 led:t.led=!w.params.followText "set-order"
variable{a:Addr}{xs:List (List Int×Addr)}{o:Obj}{es:Array (Int×Value)}{ep:Nat}{t:fm}
theorem SetD.size(S:SetD prog w s.heap a xs o es ep t):es.size=xs.length:=by
 rw[←dr,S.es];simp[OI]
theorem SetD.fits(S:SetD prog w s.heap a xs o es ep t):t.fits es.size=true:=by
 have h1:=S.tb.size
 have h2:=S.room
 have h3:t.fill=t.place.size:=by unfold l7;rw[S.tb.dum];rfl
 rw[c9] at h1
 unfold fm.fits
 rw[h3,S.size,h1]
 simp only[beq_self_eq_true,mh,decide_eq_true_eq]
 omega
theorem SetD.len(S:SetD prog w s.heap a xs o es ep t):(xs.map fun p=> (tk prog w).hash p.1).length≤t.mask:=by
 have:=S.room
 rw[c9];omega
theorem SetD.at(S:SetD prog w s.heap a xs o es ep t){i:Nat}{k:List Int}{x:Addr}(h:xs[i]?=some (k,x)):es[i]?=some ((tk prog w).hash k,.ref x):=by
 have:es[i]?=es.toList[i]?:=by simp
 rw[this,S.es,OI,b9,h]
 rfl
theorem SetD.of_at(S:SetD prog w s.heap a xs o es ep t){i:Nat}(h:i<xs.length):∃k x,xs[i]?=some (k,x):=⟨_,_,by simp[h];rfl⟩
abbrev FY:Array (Int×Value)→Nat→Int:=PySem.W.hashAt
theorem SetD.hash(S:SetD prog w s.heap a xs o es ep t){i:Nat}{k:List Int}{x:Addr}(h:xs[i]?=some (k,x)):FY es i=(tk prog w).hash k:=by
 show((es[i]?).map gB).getD 0=_
 rw[S.at h]
 rfl
theorem Jw(S:SetD prog w s.heap a xs o es ep t)(hu:A.units<cLine){k:List Int}{x:Addr}(hk:IK prog w s.heap k x){Q:SetFound→b6→Prop}
  (hT:∀(i:Nat) (y:Addr),xs[i]?=some (k,y)→Q (.there none) s)
  (hF:(∀(i:Nat) (y:Addr),xs[i]?≠some (k,y))→∀n,¬Jr t (advN t.mask n (start t.mask ((tk prog w).hash k))).j→(∀c,c<n→Jr t (advN t.mask c (start t.mask ((tk prog w).hash k))).j)→Q (.free (advN t.mask n (start t.mask ((tk prog w).hash k))).j false) s):
  ∀(fuel c:Nat) (stand:Option Probe),stand.getD (t.probeStart ((tk prog w).hash k))=advN t.mask c (start t.mask ((tk prog w).hash k))→
   (∀c',c'<c→Jr t (advN t.mask c' (start t.mask ((tk prog w).hash k))).j∧∀(i:Nat) (y:Addr),t.place[i]?=some (advN t.mask c' (start t.mask ((tk prog w).hash k))).j→xs[i]?≠some (k,y))→
   (∃N,c≤N∧¬Jr t (advN t.mask N (start t.mask ((tk prog w).hash k))).j∧N-c<fuel)→
   wpAny (model prog w) A (setSearchFrom a (.ref x) ((tk prog w).hash k) true fuel stand) Q E s:=by
 intro fuel
 induction fuel with
 |zero=>rintro c stand _ _ ⟨N,_,_,h⟩;exact absurd h (jq _)
 |succ fuel ih=>
  rintro c stand hst hpre ⟨N,hcN,hN,hfu⟩
  have hsz:t.place.size=xs.length:=by have:=S.tb.size;rwa[c9] at this
  unfold setSearchFrom
  refine b4 (fR S.get S.dat S.fits ?_)
  dsimp only
  have hgw:t.gaveWay=false:=by unfold fm.gaveWay;rw[S.tb.odd];rfl
  rw[hgw]
  simp only[dC,if_false]
  obtain⟨n,hn,hstop⟩:=Jt S.tb S.len (p:=advN t.mask c (start t.mask ((tk prog w).hash k))) (Pr.start _ _).advN (FY es) ((tk prog w).hash k)
  rw[hst]
  have hadd:∀m,advN t.mask m (advN t.mask c (start t.mask ((tk prog w).hash k)))=advN t.mask (c+m) (start t.mask ((tk prog w).hash k)):=fun m=> (Bn _ _ _ _).symm
  have pre2:∀c',c'<c+n→Jr t (advN t.mask c' (start t.mask ((tk prog w).hash k))).j∧∀(i:Nat) (y:Addr),t.place[i]?=some (advN t.mask c' (start t.mask ((tk prog w).hash k))).j→xs[i]?≠some (k,y):=fun c' hc'=>by
   by_cases hlt:c'<c
   ·exact hpre c' hlt
   ·obtain⟨i,h1,h2⟩:=hn (c'-c) (by omega)
    rw[hadd,show c+(c'-c)=c' by omega] at h1
    refine⟨⟨i,h1⟩,fun i' y h1' e=>?_⟩
    have:i'=i:=by
     rw[←Bm S.tb.ris h1',←Bm S.tb.ris h1]
    subst this
    exact h2 (S.hash e)
  obtain⟨met,hmet⟩:∃met,t.probe (FY es) ((tk prog w).hash k) (advN t.mask c (start t.mask ((tk prog w).hash k)))=some met:=by
   rcases hstop with⟨_,hp⟩| ⟨_,_,_,hp⟩<;>exact⟨_,hp⟩
  split
  case h_2 heq=>exact absurd hmet (heq met)
  rename_i met' heq
  have heq:t.probe (FY es) ((tk prog w).hash k) (advN t.mask c (start t.mask ((tk prog w).hash k)))=some met':=heq
  rcases hstop with⟨hf,hp⟩| ⟨i,h1,h2,hp⟩
  ·rw[hp] at heq
   cases heq
   dsimp only
   rw[Di]
   show wpAny _ _ (pure _) _ _ s
   rw[hadd] at hf ⊢
   refine b7 (hF (fun i y e=>?_) (c+n) hf fun c' hc'=> (pre2 c' hc').1)
   have hi:i<xs.length:=(dt.mp e).1
   have hpl:t.place[i]?=some (t.place[i]'(by omega)):=by simp[show i<t.place.size by omega]
   obtain⟨n',e1,w1⟩:=S.tb.fnd i _ ((tk prog w).hash k) hpl (by rw[b9,e];rfl)
   by_cases hlt:n'<c+n
   ·exact(pre2 n' hlt).2 i y (by rw[e1];exact hpl) e
   ·by_cases heq:n'=c+n
    ·subst heq
     exact hf ⟨i,by rw[e1];exact hpl⟩
    ·exact hf (w1 (c+n) (by omega))
  ·rw[hp] at heq
   cases heq
   dsimp only
   rw[hadd] at h1
   have hi:i<xs.length:=by rw[←hsz];exact(eX.mp h1).1
   obtain⟨k',y,ek⟩:=S.of_at hi
   have hky:=S.key i k' y ek
   have seen:∀v,v∈(es.filter fun e=>e.1==(tk prog w).hash k).toList.map (·.2)→∃k' b,v=Value.ref b∧IK prog w s.heap k' b:=fun v hv=>by
    obtain⟨⟨h',v'⟩,hm,rfl⟩:=dy.mp hv
    have hm:(h',v')∈es.toList:=by
     have:=hm
     simp only[Array.toList_filter] at this
     exact(dR.mp this).1
    rw[S.es,OI] at hm
    obtain⟨⟨k2,b⟩,hb,eb⟩:=dy.mp hm
    cases eb
    obtain⟨j,hj⟩:=eJ hb
    exact⟨k2,b,rfl,S.key j k2 b hj⟩
   cases hled:t.led with
   |true=>
    simp only[jn,dC,if_false]
    rw[S.at ek]
    dsimp only
    refine b4 (ef (wpAny_eqBool_tuple hu hky hk ?_))
    refine b4 (fR S.get S.dat S.fits ?_)
    dsimp only
    by_cases hkk:k'=k
    ·subst hkk
     rw[decide_eq_true rfl]
     exact b7 (hT i y ek)
    ·rw[decide_eq_false hkk]
     have hsm:t.sameMemory t.moves t.mask=some true:=by unfold fm.sameMemory;rw[if_pos (by simp)]
     rw[hsm]
     simp only[kz,dC,if_false,if_true]
     rw[hadd,S.tb.live h1]
     dsimp only
     rw[S.at ek]
     dsimp only
     have hss:isSame (Value.ref y) (Value.ref y)=pure true:=by
      show(if(y==y)=true then _ else _)=_
      rw[if_pos (beq_self_eq_true y)]
     rw[hss]
     refine b4 (b7 ?_)
     simp only[if_true]
     refine b4 (b7 ?_)
     dsimp only
     rw[hadd]
     refine ih (c+n+1) _ rfl (fun c' hc'=>?_) ?_
     ·by_cases hlt:c'<c+n
      ·exact pre2 c' hlt
      ·have:c'=c+n:=by omega
       subst this
       refine⟨⟨i,h1⟩,fun i' y' h1' e=>?_⟩
       have:i'=i:=by
        rw[←Bm S.tb.ris h1',←Bm S.tb.ris h1]
       subst this
       rw[ek] at e
       exact hkk (congrArg gB (dW.inj e))
     ·have hle:c+n<N:=by
       rcases gT (c+n) N with hlt|heq|hgt
       ·exact hlt
       ·exact absurd ⟨i,by rw[←heq];exact h1⟩ hN
       ·exact absurd (pre2 N hgt).1 hN
      exact⟨N,by omega,hN,by omega⟩
   |false=>
    simp only[lU,if_true]
    refine b4 (Sz hk seen ?_)
    simp only[dC,if_false]
    rw[S.at ek]
    dsimp only
    refine b4 (ef (wpAny_eqBool_tuple hu hky hk ?_))
    refine b4 (fR S.get S.dat S.fits ?_)
    dsimp only
    by_cases hkk:k'=k
    ·subst hkk
     rw[decide_eq_true rfl]
     exact b7 (hT i y ek)
    ·rw[decide_eq_false hkk]
     have hsm:t.sameMemory t.moves t.mask=some true:=by unfold fm.sameMemory;rw[if_pos (by simp)]
     rw[hsm]
     simp only[kz,dC,if_false,if_true]
     rw[hadd,S.tb.live h1]
     dsimp only
     rw[S.at ek]
     dsimp only
     have hss:isSame (Value.ref y) (Value.ref y)=pure true:=by
      show(if(y==y)=true then _ else _)=_
      rw[if_pos (beq_self_eq_true y)]
     rw[hss]
     refine b4 (b7 ?_)
     simp only[if_true]
     refine b4 (b7 ?_)
     dsimp only
     rw[hadd]
     refine ih (c+n+1) _ rfl (fun c' hc'=>?_) ?_
     ·by_cases hlt:c'<c+n
      ·exact pre2 c' hlt
      ·have:c'=c+n:=by omega
       subst this
       refine⟨⟨i,h1⟩,fun i' y' h1' e=>?_⟩
       have:i'=i:=by
        rw[←Bm S.tb.ris h1',←Bm S.tb.ris h1]
       subst this
       rw[ek] at e
       exact hkk (congrArg gB (dW.inj e))
     ·have hle:c+n<N:=by
       rcases gT (c+n) N with hlt|heq|hgt
       ·exact hlt
       ·exact absurd ⟨i,by rw[←heq];exact h1⟩ hN
       ·exact absurd (pre2 N hgt).1 hN
      exact⟨N,by omega,hN,by omega⟩
end
end StT
namespace StT
local macro_rules | `(tactic| omega) => `(tactic| first | lia | omega)
open PySem PySem.SetTable PyProof.Rows
section
variable{prog:Program}{w:World}{A:dH}{E:Value→b6→Prop}{s:b6}
variable{a:Addr}{xs:List (List Int×Addr)}{o:Obj}{es:Array (Int×Value)}{ep:Nat}{t:fm}
def SetX(prog:Program)(w:World)(h:Heap)(a:Addr)(xs:List (List Int×Addr)):Prop:=∃o es ep t,SetD prog w h a xs o es ep t
theorem Pp{h:Heap}{k:List Int}{x:Addr}(hk:IK prog w h k x)(hg:h.get? a=some o)(he:o.ExactSet):x≠a:=by
 rintro rfl
 obtain⟨o',items,n,ho,hc,_⟩:=hk
 rw[hg] at ho
 cases ho
 rw[he.1] at hc
 exact absurd hc (by decide)
theorem CS{h h':Heap}{k:List Int}{x:Addr}(hk:IK prog w h k x)(hs:∀u,h.get? x=some u→h'.get? x=some u):IK prog w h' k x:=by
 obtain⟨o',items,n,ho,hc,hd,hi⟩:=hk
 exact⟨o',items,n,hs _ ho,hc,hd,hi⟩
theorem Hc(hg:s.heap.get? a=some o)(hd:o.data=.set es ep t)(es':Array (Int×Value))(t':fm):(s.heap.update a (ko es' t')).get? a=some {o with data:=.set es' (ep+1) t'}:=by
 have:=gK (ko es' t') hg (by rw[putSet_of es' t' hd];rfl)
 rw[putSet_of es' t' hd] at this;exact this
theorem LU:(OI xs prog w).length=xs.length:=by simp[OI]
theorem Pq{n:Nat}(hg:s.heap.get? a=some o)(he:o.ExactSet)(hd:o.data=.set es ep t)(hes:es.toList=OI xs prog w)(hkey:∀(i:Nat) (k:List Int) (x:Addr),xs[i]?=some (k,x)→IK prog w s.heap k x)
  (hnd:(xs.map (·.1)).Nodup) (htb:Tb t (xs.map fun p=> (tk prog w).hash p.1)) (hpl:t.plain=true) (hled:t.led=!w.params.followText "set-order") (hn:xs.length=n+1) (h1:n*5<t.mask*3) (h2:t.mask*3≤(n+1)*5) (h3:n<300) {Q:Unit→b6→Prop}
  (h:∀h' xs',i5 a s.heap h'→SetX prog w h' a xs'→(∀p,p∈xs'↔p∈xs)→xs'.length=xs.length→Q () {s with heap:=h'}):wpAny (model prog w) A (setRelay a (grown (n+1))) Q E s:=by
 obtain⟨m1,m2,m3,m4⟩:=OH htb.mask h1 h2 h3
 have hsz:es.size=n+1:=by rw[←dr,hes,LU,hn]
 have hfill:t.fill=t.place.size:=by unfold l7;rw[htb.dum];rfl
 have hps:t.place.size=n+1:=by have:=htb.size;rw[c9,hn] at this;exact this
 have hlow:=htb.low
 have hfit:t.fits es.size=true:=by
  unfold fm.fits
  rw[hfill,hsz,hps]
  simp only[beq_self_eq_true,mh,decide_eq_true_eq]
  omega
 unfold setRelay
 refine b4 (fR hg hd hfit ?_)
 dsimp only
 rw[if_neg (by rw[fh];omega)]
 refine b4 ?_
 obtain⟨t',order,el,q1,q2,q3,q4,q5,q6,q7,q8,q9⟩:=Sy m1 (es.map (·.1)) (by rw[Array.size_map,hsz];omega) t.finger (t.movedTo (lV (grown (n+1))-1)) t.led t.plain
 rw[Array.size_map] at q5 q6 q8
 have el':t.relaid (es.map (·.1)) (grown (n+1))=some (t',order):=el
 rw[el']
 have hfm:(order.filterMap (es[·]?)).toList=order.toList.filterMap fun r=>es[r]?:=by simp
 have hmem:∀r∈order.toList,r<es.size:=fun r hr=>by
  obtain⟨i,hi⟩:=eJ hr
  exact q6 i r (by simpa using hi)
 have hes':(order.filterMap (es[·]?)).size=es.size:=by
  rw[←dr,hfm,Bw es _ hmem,dr,q5]
 show wpAny _ _ (if((order.filterMap fun r=>es[r]?).size !=es.size)=true then _ else pure (order.filterMap fun r=>es[r]?,t')) _ _ s
 rw[if_neg (by rw[hes'];simp)]
 refine b7 ?_
 dsimp only
 refine wpAny_storeSet_of hg hd ?_ (by rw[hes',hsz,fh];omega)
 generalize hE:order.filterMap (es[·]?)=es' at*
 have hxs:∀r,r<es.size→∃p,xs[r]?=some p:=fun r hr=> ⟨_,by simp[show r<xs.length by rw[hn];omega];rfl⟩
 have hfx:(order.toList.filterMap fun r=>xs[r]?).length=es.size:=by
  have:=Bw xs.toArray order.toList (fun r hr=>by rw[dv,hn];have:=hmem r hr;omega)
  simp only[List.getElem?_toArray] at this
  rw[this,dr,q5]
 have at_:∀i:Nat,(order.toList.filterMap fun r=>xs[r]?)[i]?=(order.toList[i]?).bind fun r=>xs[r]?:=fun i=>by
  have:=CQ xs.toArray order.toList (fun r hr=>by rw[dv,hn];have:=hmem r hr;omega) i
  simpa only[List.getElem?_toArray] using this
 have mem:∀p,p∈(order.toList.filterMap fun r=>xs[r]?)↔p∈xs:=fun p=>by
  rw[gM]
  constructor
  ·rintro⟨r,_,e⟩;exact dj e
  ·intro hp
   obtain⟨r,hr⟩:=eJ hp
   have hrl:r<es.size:=by rw[hsz,←hn];exact(dt.mp hr).1
   obtain⟨i,hi⟩:=q8 r hrl
   exact⟨r,dj (i:=i) (by simpa using hi),hr⟩
 have hesx:∀i:Nat,es[i]?=(xs[i]?).map fun p=> ((tk prog w).hash p.1,Value.ref p.2):=fun i=>by
  have:es[i]?=es.toList[i]?:=by simp
  rw[this,hes,OI,b9]
 refine h _ (order.toList.filterMap fun r=>xs[r]?) (j3 ..) ⟨_,es',ep+1,t',⟨Hc hg hd es' t',he,rfl,?_,fun i k x e=>?_,?_,?_,?_,?_,?_⟩⟩ mem (by rw[hfx,hsz,hn])
 ·apply fo
  intro i
  rw[hfm,CQ es _ hmem,OI,b9,at_]
  cases order.toList[i]? with
  |none=>rfl
  |some r=>exact hesx r
 ·have hp:(k,x)∈xs:=(mem _).mp (dj e)
  obtain⟨r,hr⟩:=eJ hp
  have ik:=hkey r k x hr
  exact CS ik fun u hu=> ((j3 s.heap a (ko es' t')).2 x (Pp ik hg he)).trans hu
 ·rw[iw]
  refine fk.mpr fun i j hi hj hij e=>?_
  rw[c9] at hi hj
  have e1:=at_ i
  have e2:=at_ j
  rw[di hi] at e1
  rw[di hj] at e2
  rw[jK,jK] at e
  cases r1:order.toList[i]? with
  |none=>rw[r1] at e1;cases e1
  |some r=>
   cases r2:order.toList[j]? with
   |none=>rw[r2] at e2;cases e2
   |some r'=>
    rw[r1] at e1
    rw[r2] at e2
    have e1:xs[r]?=some _:=e1.symm
    have e2:xs[r']?=some _:=e2.symm
    obtain⟨l1,g1⟩:=dt.mp e1
    obtain⟨l2,g2⟩:=dt.mp e2
    have ee:(xs.map (·.1))[r]'(by simpa using l1)=(xs.map (·.1))[r']'(by simpa using l2):=by rw[jK,jK,g1,g2];exact e
    have nd:=iw.mp hnd
    have:r=r':=by
     rcases gT r r' with hlt|heq|hgt
     ·exact absurd ee (fk.mp nd r r' _ _ hlt)
     ·exact heq
     ·exact absurd ee.symm (fk.mp nd r' r _ _ hgt)
    subst this
    have:=q7 i j r (by simpa using r1) (by simpa using r2)
    omega
 ·have:(order.toList.filterMap fun r=>xs[r]?).map (fun p=> (tk prog w).hash p.1)=order.toList.map fun r=> (es.map (·.1)).getD r 0:=by
   apply fo
   intro i
   rw[b9,at_,b9]
   cases hr:order.toList[i]? with
   |none=>rfl
   |some r=>
    have hrl:=hmem r (dj hr)
    obtain⟨p,hp⟩:=hxs r hrl
    show(xs[r]?).map _=some ((es.map (·.1)).getD r 0)
    rw[hp]
    have e3:=hesx r
    rw[hp] at e3
    obtain⟨l,g⟩:=eX.mp e3
    simp[kA,hrl,g]
  rw[this]
  exact q9
 ·rw[q3];exact hpl
 ·rw[hfx,hsz,q1];exact m3
 ·rw[q2];exact hled
end
end StT
namespace StT
local macro_rules | `(tactic| omega) => `(tactic| first | lia | omega)
open PySem PySem.SetTable PyProof.Rows
section
variable{prog:Program}{w:World}{A:dH}{E:Value→b6→Prop}{s:b6}
variable{a:Addr}{xs:List (List Int×Addr)}{o:Obj}{es:Array (Int×Value)}{ep:Nat}{t:fm}
theorem Wf(S:SetX prog w s.heap a xs)(hu:A.units<cLine){k:List Int}{x:Addr}(hk:IK prog w s.heap k x)(hl:xs.length<300){Q:Bool→b6→Prop}
  (hT:∀y,(k,y)∈xs→Q false s)
  (hF:(∀y,(k,y)∉xs)→∀h' xs',i5 a s.heap h'→SetX prog w h' a xs'→(∀p,p∈xs'↔p∈xs∨p=(k,x))→xs'.length=xs.length+1→Q true {s with heap:=h'}):
  wpAny (model prog w) A (setAddHashed a (.ref x) ((tk prog w).hash k)) Q E s:=by
 obtain⟨o,es,ep,t,S⟩:=S
 unfold setAddHashed setAddHashedIn
 refine ef (b4 (fR S.get S.dat S.fits ?_))
 dsimp only
 have hbs:byScan (.ref x) es=false:=rfl
 rw[hbs]
 simp only[dC,if_false]
 obtain⟨e,he,hne⟩:=S.tb.room S.len
 obtain⟨N,hN,eN⟩:=Uz S.tb.mask (Pr.start t.mask ((tk prog w).hash k)) he
 have hm511:t.mask≤511:=by rcases S.tb.mask with h|h|h|h<;>omega
 refine b4 (Jw S hu hk (fun i y e=>?_) (fun hno n hf hw=>?_) 100000 0 none (Pm t _) (fun c hc=>absurd hc (jq _)) ⟨N,fb _,by rw[eN];exact hne,by omega⟩)
 ·dsimp only
  exact b7 (hT y (dj e))
 ·dsimp only
  refine b4 (fR S.get S.dat S.fits ?_)
  dsimp only
  obtain⟨p1,p2,p3,p4,p5,p6⟩:=S.tb.put hf hw
  generalize hJ:(advN t.mask n (start t.mask ((tk prog w).hash k))).j=J at*
  generalize hput:t.put J=tp at*
  obtain⟨t1,q⟩:=tp
  dsimp only at p1 p2 p3 p4 p5 p6 ⊢
  rw[c9] at p2
  rw[p4,S.pl]
  simp only[if_true]
  refine b4 (Yx hk ?_)
  simp only[if_true]
  refine b4 (wpAny_storeSet_of S.get S.dat ?_ (by
   rw[Df _ _ _ (by rw[S.size];exact p2),S.size,fh];omega))
  have hes1:(gH es q ((tk prog w).hash k,.ref x)).toList=OI (xs.take q++(k,x)::xs.drop q) prog w:=by
   rw[BF,S.es]
   simp[OI]
  have hmem:∀p,p∈xs.take q++(k,x)::xs.drop q↔p∈xs∨p=(k,x):=fun p=>by
   rw[dJ,dh]
   constructor
   ·rintro(h|h|h)
    ·exact .inl (jg h)
    ·exact .inr h
    ·exact .inl (List.mem_of_mem_drop h)
   ·rintro(h|h)
    ·rw[←gI q xs] at h
     rcases dJ.mp h with h|h
     ·exact .inl h
     ·exact .inr (.inr h)
    ·exact .inr (.inl h)
  have hlen:(xs.take q++(k,x)::xs.drop q).length=xs.length+1:=by
   rw[dz,dA,eH,ie];omega
  have hnod:((xs.take q++(k,x)::xs.drop q).map (·.1)).Nodup:=by
   have hxs:(xs.take q).map (·.1)++(xs.drop q).map (·.1)=xs.map (·.1):=by rw[←e8,gI]
   have nd:=S.nd
   rw[←hxs] at nd
   rw[e8,dM]
   have hkn:k∉(xs.take q).map (·.1)++(xs.drop q).map (·.1):=by
    rw[hxs]
    intro hm
    obtain⟨⟨k',y⟩,hp,rfl⟩:=dy.mp hm
    obtain⟨i,hi⟩:=eJ hp
    exact hno i y hi
   rw[dJ,not_or] at hkn
   obtain⟨n1,n2,n3⟩:=eY.mp nd
   refine eY.mpr ⟨n1,dO.mpr ⟨hkn.2,n2⟩,fun b hb c hc=>?_⟩
   rcases dh.mp hc with rfl|hc
   ·rintro rfl;exact hkn.1 hb
   ·exact n3 b hb c hc
  have hsb:=j3 s.heap a (ko (gH es q ((tk prog w).hash k,.ref x)) t1)
  have hg1:=Hc (s:=s) S.get S.dat (gH es q ((tk prog w).hash k,.ref x)) t1
  have hkey1:∀(i:Nat) (k':List Int) (x':Addr),(xs.take q++(k,x)::xs.drop q)[i]?=some (k',x')→IK prog w (s.heap.update a (ko (gH es q ((tk prog w).hash k,.ref x)) t1)) k' x':=fun i k' x' e=>by
   have ik:IK prog w s.heap k' x':=by
    rcases(hmem _).mp (dj e) with h|h
    ·obtain⟨j,hj⟩:=eJ h
     exact S.key j k' x' hj
    ·cases h;exact hk
   exact CS ik fun u hu=> (hsb.2 x' (Pp ik S.get S.ex)).trans hu
  have htb1:Tb t1 ((xs.take q++(k,x)::xs.drop q).map fun p=> (tk prog w).hash p.1):=by
   simpa using p1
  have hno':∀y,(k,y)∉xs:=fun y hy=>by
   obtain⟨i,hi⟩:=eJ hy
   exact hno i y hi
  have hfill:t1.fill=xs.length+1:=by
   unfold l7
   rw[htb1.dum]
   have:=htb1.size
   rw[c9,hlen] at this
   rw[this];rfl
  have hroom:=S.room
  simp only[lU,mh]
  cases htf:t1.tooFull with
  |true=>
   simp only[if_true]
   have htf':t1.mask*3≤(xs.length+1)*5:=by
    unfold fm.tooFull at htf
    rw[hfill] at htf
    simpa using htf
   rw[S.size]
   refine b4 (Pq (s:={s with heap:=s.heap.update a (ko (gH es q ((tk prog w).hash k,.ref x)) t1)}) hg1 S.ex rfl hes1 hkey1 hnod htb1 (by rw[p4];exact S.pl) (by rw[p5];exact S.led) hlen (by rw[p3];exact hroom) htf' hl fun h' xs' sb sx mm ll=>?_)
   refine b7 (hF hno' h' xs' (hsb.trans sb) sx (fun p=> (mm p).trans (hmem p)) (ll.trans hlen))
  |false=>
   simp only[dC,if_false]
   refine b7 (hF hno' _ _ hsb ⟨_,_,_,t1,hg1,S.ex,rfl,hes1,hkey1,hnod,htb1,by rw[p4];exact S.pl,?_,by rw[p5];exact S.led⟩ hmem hlen)
   unfold fm.tooFull at htf
   rw[hfill] at htf
   rw[hlen]
   simpa using htf
def IZ(ks:List (List Int×Addr))(xs:List (List Int×Addr)):Prop:=(∀p,p∈xs→p∈ks)∧(∀k y,(k,y)∈ks→∃y',(k,y')∈xs)∧xs.length≤ks.length
theorem SetX.keep'{h h':Heap}(S:SetX prog w h a xs)(ha:∀u,h.get? a=some u→h'.get? a=some u)(hk:∀k x,(k,x)∈xs→∀u,h.get? x=some u→h'.get? x=some u):SetX prog w h' a xs:=by
 obtain⟨o,es,ep,t,S⟩:=S
 exact⟨o,es,ep,t,ha _ S.get,S.ex,S.dat,S.es,fun i k x e=>CS (S.key i k x e) (hk k x (dj e)),S.nd,S.tb,S.pl,S.room,S.led⟩
theorem TB{I l:Addr}{items:Array Value}{ps:List (List Int×Addr)}(hh:A.in1.handled=none)(hne:l≠I)(hI:a≠I)(hla:a≠l)(hps:items.toList=ps.map fun p=>Value.ref p.2)(hz:ps.length≤300)(hu:A.units+1<cLine)
  {R:mV→b6→Prop}:∀(n i:Nat) (s:b6) (xs:List (List Int×Addr)),n=ps.length-i→i≤ps.length→s.heap.IsListIter I l i→s.heap.IsList l items→(∀k x,(k,x)∈ps→IK prog w s.heap k x∧x≠I)→SetX prog w s.heap a xs→IZ (ps.take i) xs→
   (∀h' tk' xs',(∀b u,b≠a→b≠I→s.heap.get? b=some u→h'.get? b=some u)→SetX prog w h' a xs'→IZ ps xs'→R (.ok (.ret .none)) {s with heap:=h',toks:=tk'})→
   iY (model prog w) A (.builtin "set.update.loop" ⟨[.ref a,.ref I],[]⟩) R s:=by
 have W:=Walks.list (A:=A.in1) (prog:=prog) (w:=w) hh I l hne items
 have hsz:items.size=ps.length:=by rw[←dr,hps,c9]
 intro n
 induction n with
 |zero=>
  intro i s xs hn hi hit hl hp hX hS hR
  have:i=ps.length:=by omega
  subst this
  rw[fM] at hS
  refine fW PyProof.Rows.F.entry_set_update_loop ?_
  rw[fD gc _]
  show wpAny _ A.in1 (jz (.ref I)>>=_) _ _ s
  refine b4 (wpAny_pyNext_list_end hh hit hl (by simp[hsz]) fun h' hk=>?_)
  show wpAny _ A.in1 (ret js) _ _ _
  refine b7 (hR h' s.toks xs (fun b u _ hb e=>hk b u hb e) (hX.keep' (fun u e=>hk a u hI e) fun k x hx u e=>hk x u (hp k x (hS.1 _ hx)).2 e) hS)
 |succ n ih=>
  intro i s xs hn hi hit hl hp hX hS hR
  have hlt:i<ps.length:=by omega
  obtain⟨⟨k,x⟩,hkx⟩:∃p,ps[i]?=some p:=⟨_,by simp[hlt];rfl⟩
  have hitem:items[i]?=some (.ref x):=by
   have:items[i]?=items.toList[i]?:=by simp
   rw[this,hps,b9,hkx];rfl
  refine fW PyProof.Rows.F.entry_set_update_loop ?_
  rw[fD gc _]
  show wpAny _ A.in1 (jz (.ref I)>>=_) _ _ s
  refine b4 (wpAny_pyNext_list_item hit hl hitem fun h1 hit1 sb1=>?_)
  have hk1:∀b u,b≠I→s.heap.get? b=some u→h1.get? b=some u:=fun b u hb e=> (sb1.2 b hb).trans e
  have kx:=hp k x (dj hkx)
  have hX1:SetX prog w h1 a xs:=hX.keep' (fun u e=>hk1 a u hI e) fun k x hx u e=>hk1 x u (hp k x (jg (hS.1 _ hx))).2 e
  have ik1:∀k x,(k,x)∈ps→IK prog w h1 k x∧x≠I:=fun k x hx=> ⟨CS (hp k x hx).1 fun u e=>hk1 x u (hp k x hx).2 e,(hp k x hx).2⟩
  have hl1:h1.IsList l items:=hl.at fun o e=>hk1 l o hne e
  show wpAny _ A.in1 (holding [Value.ref x] (setAdd a (.ref x))>>=_) _ _ _
  refine b4 (ef ?_)
  unfold setAdd
  refine ef ?_
  refine b4 ((tk prog w).pyHash (s:={s with heap:=h1}) hu (ik1 k x (dj hkx)).1 ?_)
  have htake:ps.take (i+1)=ps.take i++[(k,x)]:=by rw[gh,hkx];rfl
  have hlen:xs.length≤i:=by have:=hS.2.2;rw[eH] at this;omega
  refine Wf (s:={s with heap:=h1,toks:=s.toks+(tk prog w).draws k}) hX1 hu (ik1 k x (dj hkx)).1 (by omega) (fun y hy=>?_) (fun hno h2 xs' sb sx mm ll=>?_)
  ·refine b7 ⟨gy gc _,ih (i+1) _ xs (by omega) (by omega) hit1 hl1 ik1 hX1 ⟨fun p hp'=>by rw[htake];exact gu _ (hS.1 p hp'),fun k' y' hm=>?_,by rw[htake,dz];have:=hS.2.2;omega⟩ fun h' tk' xs' kp sx so=>hR h' tk' xs' (fun b u h1' h2' e=>kp b u h1' h2' (hk1 b u h2' e)) sx so⟩
   rw[htake] at hm
   rcases dJ.mp hm with hm|hm
   ·exact hS.2.1 k' y' hm
   ·cases b8.mp hm
    exact⟨y,hy⟩
  ·have keep2:∀b u,b≠a→h1.get? b=some u→h2.get? b=some u:=fun b u hb e=> (sb.2 b hb).trans e
   have nea:∀k x,(k,x)∈ps→x≠a:=fun k x hx=>by
    obtain⟨o,es,ep,t,S⟩:=hX1
    exact Pp (ik1 k x hx).1 S.get S.ex
   refine b7 ⟨gy gc _,ih (i+1) {s with heap:=h2,toks:=s.toks+(tk prog w).draws k} xs' (by omega) (by omega) (hit1.at fun o e=>keep2 I o (Ne.symm hI) e) (hl1.at fun o e=>keep2 l o (Ne.symm hla) e)
    (fun k x hx=> ⟨CS (ik1 k x hx).1 fun u e=>keep2 x u (nea k x hx) e,(hp k x hx).2⟩) sx ⟨fun p hp'=>?_,fun k' y' hm=>?_,by rw[htake,dz,ll];have:=hS.2.2;simp;omega⟩ fun h' tk' xs2 kp sx so=>hR h' tk' xs2 (fun b u h1' h2' e=>kp b u h1' h2' (keep2 b u h1' (hk1 b u h2' e))) sx so⟩
   ·rw[htake]
    rcases(mm p).mp hp' with h|h
    ·exact gu _ (hS.1 p h)
    ·exact eV _ (b8.mpr h)
   ·rw[htake] at hm
    rcases dJ.mp hm with hm|hm
    ·obtain⟨y2,hy2⟩:=hS.2.1 k' y' hm
     exact⟨y2,(mm _).mpr (.inl hy2)⟩
    ·cases b8.mp hm
     exact⟨x,(mm _).mpr (.inr rfl)⟩
end
end StT
namespace StT
open PySem PySem.SetTable PyProof.Rows
theorem Ai:Slot "set_iterator" "__next__" "set_iterator.__next__" :=
 .of (owner:="set_iterator") (n:="__next__") (by rw[typeLookup_type,builtinLookup_eq_fast];kernel_rfl) (by decide+kernel) (by decide+kernel) (by decide+kernel)
  (by first|exact .inl (by decide+kernel)|exact .inr (by decide+kernel)) (by rw[lM];kernel_rfl)
theorem Ck:Slot "set_iterator" "__iter__" "set_iterator.__iter__" :=
 .of (owner:="set_iterator") (n:="__iter__") (by rw[typeLookup_type,builtinLookup_eq_fast];kernel_rfl) (by decide+kernel) (by decide+kernel) (by decide+kernel)
  (by first|exact .inl (by decide+kernel)|exact .inr (by decide+kernel)) (by rw[lM];kernel_rfl)
theorem CC:entryFor table "set_iterator.__next__" =some Builtin.«set_iterator.__next__»:=entryFor_of_tree (by kernel_rfl)
theorem Ek:entryFor table "set_iterator.__iter__" =some Builtin.«dict_keyiterator.__iter__»:=
 entryFor_alias (id':="dict_keyiterator.__iter__") (by kernel_rfl) (by first|rfl|decide+kernel| (unfold String.splitOn;simp+decide [String.splitOnAux])) (by decide+kernel) (by kernel_rfl)
theorem GK:entryFor table "set.__iter__" =some Builtin.«frozenset.__iter__»:=
 entryFor_alias (id':="frozenset.__iter__") (by kernel_rfl) (by first|rfl|decide+kernel| (unfold String.splitOn;simp+decide [String.splitOnAux])) (by decide+kernel) (by kernel_rfl)
theorem FK:Manifest.owners.lookup (String.ofList ['r','o','t','a','r','e','t','i','_','t','e','s'].reverse)=some Manifest.sig_set_iterator:=by kernel_rfl
theorem Cm(a:Value):argsOk "set_iterator.__next__" ⟨[a],[]⟩:=by
 unfold argsOk;rw[signature?_of (id:="set_iterator.__next__") (n:=['_','_','t','x','e','n','_','_']) (o:=['r','o','t','a','r','e','t','i','_','t','e','s']) (by kernel_rfl) FK];kernel_rfl
theorem FT(a:Value):argsOk "set_iterator.__iter__" ⟨[a],[]⟩:=by
 unfold argsOk;rw[signature?_of (id:="set_iterator.__iter__") (n:=['_','_','r','e','t','i','_','_']) (o:=['r','o','t','a','r','e','t','i','_','t','e','s']) (by kernel_rfl) FK];kernel_rfl
theorem NC{α:Type}:∀(l:List α) (i:Nat) (h:i<l.length),(l[i]::l.eraseIdx i).Perm l
 |x::l,0,_=>jb.refl _
 |x::l,i+1,h=>by
  have ih:=NC l i (by simpa using h)
  simp only[List.getElem_cons_succ,List.eraseIdx_cons_succ]
  exact(jb.swap _ _ _).trans (ih.cons x)
theorem ND{α:Type}(next:Nat→Nat):∀(n k:Nat) (left:List α) (out:Array α),left.length=n→(mw next n k left out).toList.Perm (out.toList++left)
 |0,k,left,out,h=>by
  have:left=[]:=List.length_eq_zero_iff.mp h
  subst this
  simp[mw]
 |n+1,k,left,out,h=>by
  have hlt:next k%left.length<left.length:=mn _ (by omega)
  have e:left[next k%left.length]?=some left[next k%left.length]:=by simp[hlt]
  rw[mw,e]
  have ih:=ND next n (k+1) (left.eraseIdx (next k%left.length)) (out.push left[next k%left.length]) (by rw[List.length_eraseIdx_of_lt hlt];omega)
  refine ih.trans ?_
  rw[iJ,gi]
  exact jb.append_left _ (NC left _ hlt)
theorem OJ{α:Type}(next:Nat→Nat)(xs:Array α):(ke next xs).toList.Perm xs.toList:=by
 have:=ND next xs.size 0 xs.toList #[] (by simp)
 simp only[List.nil_append] at this
 exact this
def Dj(w:World)(a:Addr)(ep:Nat)(es:Array (Int×Value)):Array (Int×Value):=if w.params.followText "set-order" =true then ke (w.params.setOrder a ep) es else es
theorem Hf(w:World)(a:Addr)(ep:Nat)(es:Array (Int×Value)):(Dj w a ep es).toList.Perm es.toList:=by
 unfold Dj
 split
 ·exact OJ _ _
 ·exact jb.refl _
theorem El(w:World)(a:Addr)(ep:Nat)(es:Array (Int×Value)):(Dj w a ep es).size=es.size:=by
 rw[←dr,←dr];exact(Hf w a ep es).length_eq
theorem LW{xs:Array Nat}(r:Pl xs){i:Nat}(hi:i≤xs.size){slot:Nat}(hs:(i=0∧slot=0)∨(0<i∧∃j,xs[i-1]?=some j∧slot=j+1)):below xs slot=i:=by
 obtain⟨b1,b2,b3⟩:=CO (j:=slot) r
 rcases hs with⟨rfl,rfl⟩| ⟨h0,j,hj,rfl⟩
 ·apply fZ
  intro hne
  have h0:0<xs.size:=by omega
  have:=b2 0 xs[0] (by omega) (by simp[h0])
  omega
 ·have hlt:i-1<xs.size:=(eX.mp hj).1
  rcases gT (below xs (j+1)) i with hl|he|hg
  ·have hx:xs[below xs (j+1)]?=some xs[below xs (j+1)]:=by simp[show below xs (j+1)<xs.size by omega]
   have h1:=b3 _ _ (dm _) hx
   by_cases hq:below xs (j+1)=i-1
   ·have hx2:xs[below xs (j+1)]?=some j:=by rw[hq];exact hj
    have:=dW.inj (hx.symm.trans hx2)
    omega
   ·have:=GD r hx hj (by omega)
    omega
  ·exact he
  ·have hx:xs[i]?=some xs[i]:=by simp[show i<xs.size by omega]
   have h1:=b2 i _ hg hx
   have:=GD r hj hx (by omega)
   omega
section
variable{prog:Program}{w:World}{A:dH}{E:Value→b6→Prop}{s:b6}
variable{a:Addr}{xs:List (List Int×Addr)}{o:Obj}{es:Array (Int×Value)}{ep:Nat}{t:fm}
def CD(w:World)(h:Heap)(I a:Addr)(t:fm)(ep n i:Nat):Prop:=∃slot:Nat,h.get? I=some {cls:=.type "set_iterator",dict:=none,data:=.fields #[k6 slot,k6 i,.ref a,k6 n,k6 ep],slots:=#[]}∧
 (w.params.followText "set-order" =false→(i=0∧slot=0)∨(0<i∧∃j,t.place[i-1]?=some j∧slot=j+1))
theorem GL(hg:s.heap.get? a=some o)(hd:o.data=.set es ep t)(hf:t.fits es.size=true)(hr:Pl t.place)(hpl:t.plain=true)(hled:t.led=!w.params.followText "set-order"){i slot:Nat}(hi:i≤es.size)
  (hs:w.params.followText "set-order" =false→(i=0∧slot=0)∨(0<i∧∃j,t.place[i-1]?=some j∧slot=j+1)) {Q:Option (Value×Nat)→b6→Prop}
  (hsome:∀e slot',(Dj w a ep es)[i]?=some e→(w.params.followText "set-order" =false→∃j,t.place[i]?=some j∧slot'=j+1)→Q (some (e.2,slot')) s) (hnone:i=es.size→Q none s):wpAny (model prog w) A (setNext a slot i ep) Q E s:=by
 have hps:t.place.size=es.size:=by
  simp only[fm.fits,gO,beq_iff_eq] at hf
  exact hf.1
 have ask:∀{R:Bool→b6→Prop},R (w.params.followText "set-order") s→wpAny (model prog w) A setsByText R E s:=fun h=>b4 (jH (b7 h))
 unfold setNext
 refine b4 (fR hg hd hf ?_)
 dsimp only
 refine b4 (ask ?_)
 cases hb:w.params.followText "set-order" with
 |true=>
  simp only[if_true]
  rw[if_neg (by simp)]
  refine b4 ?_
  unfold setWalk
  refine b4 (fR hg hd hf ?_)
  dsimp only
  refine b4 (ask ?_)
  rw[hb]
  simp only[if_true]
  refine b4 (jH (b7 ?_))
  refine b7 ?_
  have ho:Dj w a ep es=ke (w.params.setOrder a ep) es:=by unfold Dj;rw[if_pos hb]
  show Q (((ke (w.params.setOrder a ep) es)[i]?).map fun e=> (e.2,slot)) s
  rw[←ho]
  cases he:(Dj w a ep es)[i]? with
  |some e=>exact hsome e slot he fun z=>by rw[hb] at z;cases z
  |none=>
   refine hnone ?_
   have:=Array.getElem?_eq_none_iff.mp he
   rw[El] at this
   omega
 |false=>
  rw[hb] at hled
  simp only[dC,if_false]
  have hdr:(!t.plain&&decide (es.size>1))=false:=by rw[hpl];rfl
  show wpAny _ _ (if(!t.plain&&decide (es.size>1))=true then _ else _) _ _ s
  rw[hdr]
  simp only[dC,if_false]
  refine b4 ?_
  show wpAny _ _ (if(!t.led&&!es.isEmpty)=true then _ else pure ()) _ _ s
  rw[hled]
  simp only[lU,jn,Bool.false_and,dC,if_false]
  refine b7 ?_
  rw[LW hr (by omega) (hs hb)]
  have ho:Dj w a ep es=es:=by unfold Dj;rw[if_neg (by rw[hb];decide)]
  by_cases hlt:i<es.size
  ·have e1:es[i]?=some es[i]:=by simp[hlt]
   have e2:t.place[i]?=some (t.place[i]'(by omega)):=by simp[show i<t.place.size by omega]
   rw[e1,e2]
   exact b7 (hsome es[i] _ (by rw[ho];exact e1) fun _=> ⟨_,e2,rfl⟩)
  ·have e1:es[i]?=none:=by simp;omega
   rw[e1]
   exact b7 (hnone (by omega))
end
section
variable{prog:Program}{w:World}{A:dH}{E:Value→b6→Prop}{s:b6}
variable{a I:Addr}{xs:List (List Int×Addr)}{o:Obj}{es:Array (Int×Value)}{ep:Nat}{t:fm}
structure Wk(w:World)(o:Obj)(es:Array (Int×Value))(ep:Nat)(t:fm):Prop where
 cls:o.cls=.type "set"
 dat:o.data=.set es ep t
 fits:t.fits es.size=true
 ris:Pl t.place
 pl:t.plain=true
 led:t.led=!w.params.followText "set-order"
theorem SetD.wk(S:SetD prog w s.heap a xs o es ep t):Wk w o es ep t:=⟨S.ex.1,S.dat,S.fits,S.tb.ris,S.pl,S.led⟩
theorem Bx(K:Wk w o es ep t)(hg:s.heap.get? a=some o){Q:Array (Int×Value)→b6→Prop}(h:Q es s):wpAny (model prog w) A (mi a) Q E s:=by
 unfold mi
 exact b4 (fR hg K.dat K.fits (b7 h))
theorem OK(K:Wk w o es ep t)(hg:s.heap.get? a=some o)(hne:a≠I){i:Nat}(hi:i<es.size)(it:CD w s.heap I a t ep es.size i){Q:Option Value→b6→Prop}
  (hQ:∀e h',(Dj w a ep es)[i]?=some e→CD w h' I a t ep es.size (i+1)→i5 I s.heap h'→Q (some e.2) {s with heap:=h'}):wpAny (model prog w) A (jz (.ref I)) Q E s:=by
 obtain⟨slot,ho,hsl⟩:=it
 have hT:s.TypeIs (.ref I) "set_iterator":=⟨_,ho,rfl⟩
 unfold jz
 refine b4 (jM (iS (name:=lg "__next__") hT Ai (gq Ai hT CC ?_ (Cm _))))
 refine b4 (b7 ?_)
 refine b4 (wpAny_fieldsOf ho rfl ?_)
 show wpAny _ _ (mi a>>=_) _ _ s
 refine b4 (Bx K hg ?_)
 rw[if_neg (by simp)]
 show wpAny _ _ (setNext a ((slot:Int).toNat) ((i:Int).toNat) ((ep:Int).toNat)>>=_) _ _ s
 simp only[eE]
 refine b4 (GL hg K.dat K.fits K.ris K.pl K.led (jB hi) hsl (fun e slot' he hs'=>?_) fun z=>by omega)
 dsimp only
 refine b4 (ki ho (by simp) fun h1 ho1 hs1=>?_)
 refine b4 (ki (s:={s with heap:=h1}) ho1 (by simp) fun h2 ho2 hs2=>?_)
 refine b7 ⟨_,rfl,b7 (hQ e h2 he ⟨slot',?_,fun hb=> .inr ⟨mG _,?_⟩⟩ (hs1.trans hs2))⟩
 ·simpa using ho2
 ·simpa using hs' hb
theorem Pt(K:Wk w o es ep t)(hh:A.handled=none)(hg:s.heap.get? a=some o)(hne:a≠I)(it:CD w s.heap I a t ep es.size es.size){Q:Option Value→b6→Prop}
  (hQ:∀h',Heap.ExtBut I s.heap h'→Q none {s with heap:=h'}):wpAny (model prog w) A (jz (.ref I)) Q E s:=by
 obtain⟨slot,ho,hsl⟩:=it
 have hT:s.TypeIs (.ref I) "set_iterator":=⟨_,ho,rfl⟩
 unfold jz
 refine b4 (jM (iS (name:=lg "__next__") hT Ai (gq Ai hT CC ?_ (Cm _))))
 refine b4 (b7 ?_)
 refine b4 (wpAny_fieldsOf ho rfl ?_)
 show wpAny _ _ (mi a>>=_) _ _ s
 refine b4 (Bx K hg ?_)
 rw[if_neg (by simp)]
 show wpAny _ _ (setNext a ((slot:Int).toNat) ((es.size:Int).toNat) ((ep:Int).toNat)>>=_) _ _ s
 simp only[eE]
 refine b4 (GL hg K.dat K.fits K.ris K.pl K.led (dm _) hsl (fun e slot' he hs'=>?_) fun z=>?_)
 ·have:=(eX.mp he).1
  rw[El] at this
  omega
 dsimp only
 refine b4 (ki ho (by simp) fun h1 ho1 hs1=>?_)
 show wpAny _ _ (newExc (.type "StopIteration") []>>=_) _ _ _
 refine b4 ?_
 simp only[newExc,newTuple]
 refine b4 (fS ?_ (by size_fits))
 refine b4 (m:=firstArgMember _ _) (jv (a:=js) (by first|rfl| (simp only[firstArgMember];rfl)) ?_)
 refine fS ?_ (by size_fits)
 simp only[raiseNew]
 refine b4 (wpAny_handled ?_)
 rw[show A.in1.handled=none from hh]
 refine b4 (b7 (wpAny_throw ?_))
 refine b4 (wpAny_isInstance (T:="StopIteration") (b:=true) ⟨_,dF _ rfl,rfl⟩ isSubtype_stop ?_)
 exact b7 (hQ _ ((hs1.extBut.push _).push _))
theorem OL{n i:Nat}(it:CD w s.heap I a t ep n i){Q:Value→b6→Prop}(h:Q (.ref I) s):wpAny (model prog w) A (lJ (.ref I)) Q E s:=by
 obtain⟨slot,ho,_⟩:=it
 have hT:s.TypeIs (.ref I) "set_iterator":=⟨_,ho,rfl⟩
 refine wpAny_pyIter_slot hT Ck (gq Ck hT Ek ?_ (FT _))
 show wpAny _ _ (ret (.ref I)) _ _ s
 exact b7 ⟨_,rfl,"set_iterator",_,hT,Ai.lookup,h⟩
theorem Pu(K:Wk w o es ep t)(hg:s.heap.get? a=some o){Q:Value→b6→Prop}
  (h:Q (.ref s.heap.objs.size) {s with heap:=s.heap.push {cls:=.type "set_iterator",data:=.fields #[k6 0,k6 0,.ref a,k6 es.size,k6 ep]}}):wpAny (model prog w) A (lJ (.ref a)) Q E s:=by
 have hT:s.TypeIs (.ref a) "set":=⟨_,hg,K.cls⟩
 have ask:∀{A:dH} {E:Value→b6→Prop} {R:Bool→b6→Prop},R (w.params.followText "set-order") s→wpAny (model prog w) A setsByText R E s:=fun h=>b4 (jH (b7 h))
 refine wpAny_pyIter_slot hT PySem.F.slot_set_iter (gq PySem.F.slot_set_iter hT GK ?_ (PySem.F.args_set_iter_1 _))
 unfold Builtin.«frozenset.__iter__»
 refine b4 (b4 (b7 (b7 ?_)))
 refine b4 (b4 (Bx K hg (b7 ?_)))
 refine b4 ?_
 unfold setDrawn
 refine b4 (fR hg K.dat K.fits ?_)
 dsimp only
 refine b4 (ask (b7 ?_))
 have hdr:(!w.params.followText "set-order" &&(!t.plain&&decide (es.size>1)))=false:=by rw[K.pl];simp
 show wpAny _ _ (if(!w.params.followText "set-order" &&(!t.plain&&decide (es.size>1)))=true then _ else _) _ _ s
 rw[hdr]
 simp only[dC,if_false]
 refine b4 (b7 ?_)
 refine b4 (wpAny_setEpoch_of hg K.dat K.fits ?_)
 refine b4 ?_
 unfold newFields
 refine fS ?_
 refine b7 ⟨_,rfl,"set_iterator",_,⟨_,dF _ rfl,rfl⟩,Ai.lookup,h⟩
theorem OM(K:Wk w o es ep t)(hh:A.handled=none)(hne:a≠I):Walks prog w A I [I,a] [I] es.size (fun i v=>∃h,(Dj w a ep es)[i]?=some (h,v)) (fun i h=>CD w h I a t ep es.size i∧h.get? a=some o) where
 sub:=fun b hb=>by simp at hb;simp[hb]
 frame:=fun i h h' st hk=>by
  obtain⟨⟨slot,h1,h2⟩,h3⟩:=st
  exact⟨⟨slot,hk I (by simp) _ h1,h2⟩,hk a (by simp) _ h3⟩
 item:=fun i s Q E hi st hQ=>OK K st.2 hne hi st.1 fun e h' he it' sb=>hQ e.2 h' s.toks ⟨e.1,he⟩ ⟨it',(sb.2 a hne).trans st.2⟩ fun b o hb e=> (sb.2 b (fun z=>hb (by simp[z]))).trans e
 done:=fun s Q E st hQ=>Pt K hh st.2 hne st.1 fun h' he=>hQ h' s.toks fun b o hb e=>he b o (fun z=>hb (by simp[z])) e
 self:=fun i s Q E st hQ=>OL st.1 hQ
theorem Pv{r:Addr}{Q:Bool→b6→Prop}(hT:s.TypeIs (.ref r) "set")(h:Q false s):wpAny (model prog w) A (Builtin.List.listLengthHint (.ref r)) Q E s:=by
 unfold Builtin.List.listLengthHint
 refine b4 (wpAny_specialOf hT PySem.F.slot_set_len.lookup ?_)
 generalize hid:("set.__len__" :String)=id0
 wp_delta
 rw[show splitId id0=some ("set","__len__") from by subst hid;decide+kernel]
 subst hid
 refine b4 (wpAny_isInstance (T:="set") (b:=true) hT (by rw[lM];kernel_rfl) ?_)
 refine wpAny_ite_split (fun hab=>absurd hab (by decide)) (fun _=>?_)
 refine wpAny_ite_split (fun _=>?_) (fun hab=>absurd (by decide+kernel) hab)
 refine b4 (j5 hT ?_)
 exact b7 h
theorem TC(K:Wk w o es ep t):PySem.W.KdlSrc prog w "set" a a es.size (fun i v=>∃h,(Dj w a ep es)[i]?=some (h,v)) (fun h=>h.get? a=some o) where
 type:=fun _ hm=> ⟨_,hm,K.cls⟩
 there:=fun _ hm=> ⟨du hm,du hm⟩
 keep:=fun _ _ hm hk=>hk a (.inl rfl) _ hm
 notList:=by decide
 notTuple:=by decide
 hint:=fun _ _ _ _ hm hq=>Pv ⟨_,hm,K.cls⟩ hq
 iter:=fun A s hh hm=> ⟨_,_,(fun _ _ hq=>Pu K hm hq),OM K hh (dN (du hm)),⟨⟨0,dF _ rfl,fun _=> .inl ⟨rfl,rfl⟩⟩,da _ hm⟩⟩
end
end StT
namespace SrtG
open PySem PyProof.Rows
def NF:Bool→Keyed→Array Keyed→Nat→Nat→Nat→StateT SortSt Sem (Option Nat):=sortPriv%PySem.Builtin.gallop
def BC(left:Bool)(key:Keyed)(arr:Array Keyed)(base i:Nat):StateT eO Sem (Option Bool):=do
 let x←elem' arr (base+i)
 if left then lt' x key else return(←lt' key x).map (!·)
section
variable{prog:Program}{w:World}{A:dH}{E:Value→b6→Prop}{s:b6}
def Oy(prog:Program)(w:World)(A:dH)(E:Value→b6→Prop)(s:b6)(kd:jf)(U:Keyed→Prop)(rk:Keyed→Int):Prop:=
 ∀(st:eO) (x y:Keyed) (Q:Option Bool→eO→Prop),kindOf st=kd→U x→U y→Q (some (decide (rk x<rk y))) st→wpS (model prog w) A E s (lt' x y) Q st
variable{kd:jf}{U:Keyed→Prop}{rk:Keyed→Int}
def RK(rk:Keyed→Int)(xs:Array Keyed)(i:Nat):Int:=match xs[i]? with
 |some p=>rk p
 |none=>0
def AllU(U:Keyed→Prop)(xs:Array Keyed):Prop:=∀(i:Nat) (p:Keyed),xs[i]?=some p→U p
def bt(left:Bool)(rk:Keyed→Int)(key:Keyed)(arr:Array Keyed)(base i:Nat):Bool:=if left then decide (RK rk arr (base+i)<rk key) else !decide (rk key<RK rk arr (base+i))
theorem TF{left:Bool}{key:Keyed}{arr:Array Keyed}{base i:Nat}{st:eO}{Q:Option Bool→eO→Prop}(C:Oy prog w A E s kd U rk)(hk:kindOf st=kd)(hK:U key)(hU:AllU U arr)(hi:base+i<arr.size)
  (h:Q (some (bt left rk key arr base i)) st):wpS (model prog w) A E s (BC left key arr base i) Q st:=by
 unfold BC
 have e:arr[base+i]?=some arr[base+i]:=getElem?_pos arr (base+i) hi
 rw[elem'_eq,e]
 refine de (dg ?_)
 have eR:RK rk arr (base+i)=rk arr[base+i]:=by unfold RK;rw[e]
 unfold bt at h
 rw[eR] at h
 cases left with
 |true=>
  rw[if_pos rfl] at h ⊢
  exact C st _ _ _ hk (hU _ _ e) hK h
 |false=>
  rw[if_neg dc] at h ⊢
  exact de (C st _ _ _ hk hK (hU _ _ e) (dg h))
def VB(P:Nat→Bool)(n r:Nat):Prop:=r≤n∧(∀i,i<r→P i=true)∧∀i,r≤i→i<n→P i=false
theorem Pw{α:Type}{P:Nat→Bool}{b:Nat→StateT eO Sem (Option Bool)}{n l h:Nat}{st:eO}(hb:∀i (Q:Option Bool→eO→Prop),i<n→Q (some (P i)) st→wpS (model prog w) A E s (b i) Q st)
  (mono:∀i j,i≤j→j<n→P j=true→P i=true) (hl:l≤h) (hn:h≤n) (h1:∀i,i<l→P i=true) (h2:∀i,h≤i→i<n→P i=false):
  wpS (model prog w) A E s (forIn [:n] ((none:Option (Option Nat)),l,h) fun x __s=>
   if __s.snd.fst≥__s.snd.snd then pure (ForInStep.done (none,__s.snd.fst,__s.snd.snd))
   else do
    let __x←b (__s.snd.fst+(__s.snd.snd-__s.snd.fst)/2)
    match __x with
     |some mr=>
      if mr=true then pure (gF (none,__s.snd.fst+(__s.snd.snd-__s.snd.fst)/2+1,__s.snd.snd))
      else pure (gF (none,__s.snd.fst,__s.snd.fst+(__s.snd.snd-__s.snd.fst)/2))
     |x=>pure (ForInStep.done (some none,__s.snd.fst,__s.snd.snd))) (fun c st'=>st'=st∧c.1=none∧VB P n c.2.2) st:=by
 refine eW (I:=fun x c st'=>st'=st∧∃l h,c=(none,l,h)∧l≤h∧h≤n∧(∀i,i<l→P i=true)∧(∀i,h≤i→i<n→P i=false)∧h-l≤n-x) ?_ ?_ ⟨rfl,l,h,rfl,hl,hn,h1,h2,by omega⟩
 ·rintro x c st' _ hx ⟨rfl,l,h,rfl,hl,hn,h1,h2,hm⟩
  dsimp only
  by_cases hlh:l≥h
  ·rw[if_pos hlh]
   have e:l=h:=by omega
   subst e
   exact dg ⟨rfl,rfl,hn,h1,h2⟩
  ·rw[if_neg hlh]
   refine de (hb _ _ (by omega) ?_)
   dsimp only
   cases hP:P (l+(h-l)/2) with
   |true=>
    rw[if_pos rfl]
    exact dg ⟨rfl,_,_,rfl,by omega,hn,fun i hi=>mono i _ (by omega) (by omega) hP,h2,by omega⟩
   |false=>
    rw[if_neg dc]
    refine dg ⟨rfl,_,_,rfl,by omega,by omega,h1,fun i hi hin=>?_,by omega⟩
    cases q:P i with
    |false=>rfl
    |true=>rw[mono _ i hi hin q] at hP;cases hP
 ·rintro c st' ⟨rfl,l,h,rfl,hl,hn,h1,h2,hm⟩
  have e:l=h:=by
   have:max 0 n=n:=by omega
   rw[this] at hm
   omega
  subst e
  exact⟨rfl,rfl,hn,h1,h2⟩
theorem BB {left : Bool} {key : Keyed} {arr : Array Keyed} {base n hint : Nat} {st : eO} {Q : Option Nat → eO → Prop} (C : Oy prog w A E s kd U rk) (hk : kindOf st = kd) (hK : U key) (hU : AllU U arr) (hb : base + n ≤ arr.size) (hh : hint < n)
    (mono : ∀ i j, i ≤ j → j < n → bt left rk key arr base j = true → bt left rk key arr base i = true)
    (h : ∀ r, VB (bt left rk key arr base) n r → Q (some r) st) : wpS (model prog w) A E s (NF left key arr base n hint) Q st := by
  delta NF
  have hbey : ∀ i (Q : Option Bool → eO → Prop), i < n → Q (some (bt left rk key arr base i)) st → wpS (model prog w) A E s (BC left key arr base i) Q st := fun i Q hi q => TF C hk hK hU (by omega) q
  have fals : ∀ i j, i ≤ j → j < n → bt left rk key arr base i = false → bt left rk key arr base j = false := fun i j hij hj e => by
    cases q : bt left rk key arr base j with
    | false => rfl
    | true => rw [mono i j hij hj q] at e; cases e
  refine de (hbey _ _ hh ?_)
  dsimp only
  cases hP : bt left rk key arr base hint with
  | true =>
    rw [if_pos rfl]
    refine de (fX (eW (I := fun x c st' => st' = st ∧ ∃ la o, c = (none, la, o) ∧ la < o ∧ x + 1 ≤ o ∧ hint + la < n ∧ bt left rk key arr base (hint + la) = true)
      (Q := fun c st' => st' = st ∧ ∃ la o, c = (none, la, o) ∧ la < o ∧ hint + la < n ∧ bt left rk key arr base (hint + la) = true ∧ (n - hint ≤ o ∨ bt left rk key arr base (hint + o) = false)) ?_ ?_ ⟨rfl, 0, 1, rfl, by omega, by omega, hh, hP⟩) ?_)
    · rintro x c st' _ hx ⟨rfl, la, o, rfl, h1, h2, h3, h4⟩
      dsimp only
      by_cases ho : o ≥ n - hint
      · rw [if_pos ho]
        exact dg ⟨rfl, la, o, rfl, h1, h3, h4, .inl ho⟩
      · rw [if_neg ho]
        refine de (hbey _ _ (by omega) ?_)
        dsimp only
        cases hq : bt left rk key arr base (hint + o) with
        | false =>
          rw [if_pos (by decide)]
          exact dg ⟨rfl, la, o, rfl, h1, h3, h4, .inr hq⟩
        | true =>
          rw [if_neg (by decide)]
          exact dg ⟨rfl, o, _, rfl, by omega, by omega, by omega, hq⟩
    · rintro c st' ⟨rfl, la, o, rfl, h1, h2, h3, h4⟩
      exact ⟨rfl, la, o, rfl, h1, h3, h4, .inl (by have : max 0 n = n := by omega
                                                   omega)⟩
    · rintro c st' ⟨rfl, la, o, rfl, h1, h3, h4, h5⟩
      dsimp only
      refine de (fX (Pw (α := Unit) hbey mono (by omega) (by omega) (fun i hi => mono i (hint + la) (by omega) h3 h4) (fun i hi hin => ?_)) ?_)
      · rcases h5 with h5 | h5
        · omega
        · exact fals (hint + o) i (by omega) hin h5
      · rintro ⟨c1, c2, c3⟩ st'' ⟨rfl, e, pt⟩
        cases e
        exact dg (h _ pt)
  | false =>
    rw [if_neg dc]
    refine de (fX (eW (I := fun x c st' => st' = st ∧ ∃ la o, c = (none, la, o) ∧ la < o ∧ x + 1 ≤ o ∧ la ≤ hint ∧ bt left rk key arr base (hint - la) = false)
      (Q := fun c st' => st' = st ∧ ∃ la o, c = (none, la, o) ∧ la < o ∧ la ≤ hint ∧ bt left rk key arr base (hint - la) = false ∧ (hint + 1 ≤ o ∨ bt left rk key arr base (hint - o) = true)) ?_ ?_ ⟨rfl, 0, 1, rfl, by omega, by omega, by omega, hP⟩) ?_)
    · rintro x c st' _ hx ⟨rfl, la, o, rfl, h1, h2, h3, h4⟩
      dsimp only
      by_cases ho : o ≥ hint + 1
      · rw [if_pos ho]
        exact dg ⟨rfl, la, o, rfl, h1, h3, h4, .inl ho⟩
      · rw [if_neg ho]
        refine de (hbey _ _ (by omega) ?_)
        dsimp only
        cases hq : bt left rk key arr base (hint - o) with
        | true =>
          rw [if_pos rfl]
          exact dg ⟨rfl, la, o, rfl, h1, h3, h4, .inr hq⟩
        | false =>
          rw [if_neg dc]
          exact dg ⟨rfl, o, _, rfl, by omega, by omega, by omega, hq⟩
    · rintro c st' ⟨rfl, la, o, rfl, h1, h2, h3, h4⟩
      exact ⟨rfl, la, o, rfl, h1, h3, h4, .inl (by have : max 0 n = n := by omega
                                                   omega)⟩
    · rintro c st' ⟨rfl, la, o, rfl, h1, h3, h4, h5⟩
      dsimp only
      refine de (fX (Pw (α := Unit) hbey mono (by omega) (by omega) (fun i hi => ?_) (fun i hi hin => fals (hint - la) i hi hin h4)) ?_)
      · rcases h5 with h5 | h5
        · omega
        · exact mono i (hint - o) (by omega) (by omega) h5
      · rintro ⟨c1, c2, c3⟩ st'' ⟨rfl, e, pt⟩
        cases e
        exact dg (h _ pt)
end
local macro_rules | `(tactic| omega) => `(tactic| first | lia | omega)
open PySem PyProof.Rows
variable{rk:Keyed→Int}
def Em(rk:Keyed→Int)(a:Array Keyed):Prop:=∀i j,i≤j→j<a.size→RK rk a i≤RK rk a j
structure Mrg(rk:Keyed→Int)(a b out:Array Keyed)(i j:Nat):Prop where
 hi:i≤a.size
 hj:j≤b.size
 perm:out.toList.Perm (a.toList.take i++b.toList.take j)
 srt:out.toList.Pairwise fun x y=>rk x≤rk y
 ha:∀x,x∈out.toList→∀y,i≤y→y<a.size→rk x≤RK rk a y
 hb:∀x,x∈out.toList→∀y,j≤y→y<b.size→rk x≤RK rk b y
structure Fin2(rk:Keyed→Int)(a b r:Array Keyed):Prop where
 perm:r.toList.Perm (a.toList++b.toList)
 srt:r.toList.Pairwise fun x y=>rk x≤rk y
theorem Av{a:Array Keyed}{i:Nat}(h:i<a.size):RK rk a i=rk a[i]:=by
 unfold RK
 rw[getElem?_pos a i h]
theorem Mrg.sym{a b out:Array Keyed}{i j:Nat}(m:Mrg rk a b out i j):Mrg rk b a out j i:=
 ⟨m.hj,m.hi,m.perm.trans gJ,m.srt,m.hb,m.ha⟩
theorem Mrg.pushA{a b out:Array Keyed}{i j:Nat}(m:Mrg rk a b out i j)(sa:Em rk a)(h:i<a.size)(hb:∀y,j≤y→y<b.size→rk a[i]≤RK rk b y):Mrg rk a b (out.push a[i]) (i+1) j:=by
 have e:(out.push a[i]).toList=out.toList++[a[i]]:=iJ ..
 have t:a.toList.take (i+1)=a.toList.take i++[a[i]]:=by
  rw[List.take_succ]
  have:a.toList[i]?=some a[i]:=by rw[dY];exact getElem?_pos a i h
  rw[this];rfl
 refine⟨h,m.hj,?_,?_,?_,?_⟩
 ·rw[e,t]
  have p1:=m.perm.append_right [a[i]]
  refine p1.trans ?_
  rw[gi,gi]
  exact jb.append_left _ gJ
 ·rw[e,jR]
  refine⟨m.srt,jx _ _,fun x hx y hy=>?_⟩
  cases b8.mp hy
  have:=m.ha x hx i (dm _) h
  rwa[Av h] at this
 ·intro x hx y hy hys
  rw[e] at hx
  rcases dJ.mp hx with hx|hx
  ·exact m.ha x hx y (by omega) hys
  ·cases b8.mp hx
   have:=sa i y (by omega) hys
   rwa[Av h] at this
 ·intro x hx y hy hys
  rw[e] at hx
  rcases dJ.mp hx with hx|hx
  ·exact m.hb x hx y hy hys
  ·cases b8.mp hx
   exact hb y hy hys
theorem Mrg.pushB{a b out:Array Keyed}{i j:Nat}(m:Mrg rk a b out i j)(sb:Em rk b)(h:j<b.size)(ha:∀y,i≤y→y<a.size→rk b[j]≤RK rk a y):Mrg rk a b (out.push b[j]) i (j+1):=(m.sym.pushA sb h ha).sym
theorem Ia(a:Array Keyed)(i k:Nat)(h:i+k<a.size):a.extract i (i+(k+1))=(a.extract i (i+k)).push a[i+k]:=by
 apply ju
 rw[iJ,fc,fc,eG,eG]
 have e1:i+(k+1)-i=k+1:=by omega
 have e2:i+k-i=k:=by omega
 rw[e1,e2,List.take_succ,gm,dY,getElem?_pos a (i+k) h]
 rfl
theorem Mrg.appA{a b:Array Keyed}{i j:Nat}:∀(k:Nat) {out:Array Keyed},Mrg rk a b out i j→Em rk a→i+k≤a.size→(∀x,x<k→∀y,j≤y→y<b.size→RK rk a (i+x)≤RK rk b y)→Mrg rk a b (out++a.extract i (i+k)) (i+k) j
 |0,out,m,_,_,_=>by
  have:out++a.extract i (i+0)=out:=by
   apply ju
   rw[gZ,fc,eG]
   have:i+0-i=0:=by omega
   rw[this,ku,i8]
  rw[this];exact m
 |k+1,out,m,sa,h,hb=>by
  have m':=Mrg.appA k m sa (by omega) fun x hx=>hb x (by omega)
  have hk:i+k<a.size:=by omega
  rw[Ia a i k hk,Array.append_push]
  exact m'.pushA sa hk fun y h1 h2=>by
   have:=hb k (by omega) y h1 h2
   rwa[Av hk] at this
theorem Mrg.appB{a b:Array Keyed}{i j:Nat}(k:Nat){out:Array Keyed}(m:Mrg rk a b out i j)(sb:Em rk b)(h:j+k≤b.size)(ha:∀x,x<k→∀y,i≤y→y<a.size→RK rk b (j+x)≤RK rk a y):Mrg rk a b (out++b.extract j (j+k)) i (j+k):=(Mrg.appA k m.sym sb h ha).sym
theorem Mrg.fin{a b out:Array Keyed}(m:Mrg rk a b out a.size b.size):Fin2 rk a b out:=by
 have p:=m.perm
 rw[←dr,←dr,fM,fM] at p
 exact⟨p,m.srt⟩
theorem Mrg.restAB{a b out:Array Keyed}{i j:Nat}(m:Mrg rk a b out i j)(sa:Em rk a)(sb:Em rk b)(h:∀x y,i≤x→x<a.size→j≤y→y<b.size→RK rk a x≤RK rk b y):Fin2 rk a b (out++a.extract i a.size++b.extract j b.size):=by
 have hi:=m.hi
 have hj:=m.hj
 have m1:=m.appA (a.size-i) sa (by omega) fun x hx y h1 h2=>h _ _ (by omega) (by omega) h1 h2
 have e1:i+(a.size-i)=a.size:=by omega
 rw[e1] at m1
 have m2:=m1.appB (b.size-j) sb (by omega) fun x hx y h1 h2=>by omega
 have e2:j+(b.size-j)=b.size:=by omega
 rw[e2] at m2
 exact m2.fin
theorem Mrg.restBA{a b out:Array Keyed}{i j:Nat}(m:Mrg rk a b out i j)(sa:Em rk a)(sb:Em rk b)(h:∀x y,i≤x→x<a.size→j≤y→y<b.size→RK rk b y≤RK rk a x):Fin2 rk a b (out++b.extract j b.size++a.extract i a.size):=by
 have f:=m.sym.restAB sb sa fun x y h1 h2 h3 h4=>h y x h3 h4 h1 h2
 exact⟨f.perm.trans gJ,f.srt⟩
end SrtG
namespace SrtG
local macro_rules | `(tactic| omega) => `(tactic| first | lia | omega)
open PySem PyProof.Rows
def Jx:Array Keyed→Array Keyed→StateT SortSt Sem (Array Keyed):=sortPriv%PySem.Builtin.mergeLo
def NG:Nat→StateT SortSt Sem Unit:=sortPriv%PySem.Builtin.setMinGallop
theorem LX(g:Nat):NG g=modify fun s=>lh (kindOf s) (arrOf s) (pendingOf s) g (iT s):=rfl
abbrev dn(a b out:Array Keyed)(ia ib:Nat):Array Keyed:=out++a.extract ia a.size++b.extract ib b.size
abbrev la(a b out:Array Keyed)(ia ib:Nat):Array Keyed:=out++b.extract ib b.size++a.extract ia a.size
section
variable{prog:Program}{w:World}{A:dH}{E:Value→b6→Prop}{s:b6}{kd:jf}{U:Keyed→Prop}{rk:Keyed→Int}
structure Like(st st':eO):Prop where
 kd:kindOf st'=kindOf st
 arr:arrOf st'=arrOf st
 pd:pendingOf st'=pendingOf st
 fl:iT st'=iT st
theorem Like.refl(st:eO):Like st st:=⟨rfl,rfl,rfl,rfl⟩
theorem CU{g:Nat}{st0 st:eO}{Q:Unit→eO→Prop}(l:Like st0 st)(h:∀st',Like st0 st'→Q () st'):wpS (model prog w) A E s (NG g) Q st:=by
 rw[LX]
 exact iV (h _ ⟨l.kd,l.arr,l.pd,l.fl⟩)
theorem AI{arr:Array Keyed}{i:Nat}{st:eO}{Q:Keyed→eO→Prop}(hi:i<arr.size)(h:Q arr[i] st):wpS (model prog w) A E s (elem' arr i) Q st:=by
 rw[elem'_eq,getElem?_pos arr i hi]
 exact dg h
structure Hd(rk:Keyed→Int)(a b out:Array Keyed)(i j n:Nat):Prop where
 m:Mrg rk a b out i j
 hi:i+1<a.size
 hj:j<b.size
 hn:n≤i+j
theorem Jy{a b:Array Keyed}{st:eO}{Q:Array Keyed→eO→Prop}(C:Oy prog w A E s kd U rk)(hk:kindOf st=kd)(uA:AllU U a)(uB:AllU U b)(sa:Em rk a)(sb:Em rk b)(ha0:0<a.size)(hb0:0<b.size)
  (hfst:RK rk b 0≤RK rk a 0) (hlst:RK rk b (b.size-1)≤RK rk a (a.size-1))
  (h:∀r st',Like st st'→Fin2 rk a b r→Q r st'):wpS (model prog w) A E s (Jx a b) Q st:=by
 have Udn:∀{out i j},Mrg rk a b out i j→i=a.size∨j=b.size→Fin2 rk a b (dn a b out i j):=fun m hh=>m.restAB sa sb fun x y _ _ _ _=>by omega
 have Ula:∀{out i j},Mrg rk a b out i j→i+1=a.size→Fin2 rk a b (la a b out i j):=fun{out i j} m hh=>m.restBA sa sb fun x y h1 h2 h3 h4=>by
  have e1:=sb y (b.size-1) (by omega) (by omega)
  have e:x=a.size-1:=by omega
  subst e
  omega
 have uAt:∀{i} (hi:i<a.size),U a[i]:=fun hi=>uA _ _ (getElem?_pos a _ hi)
 have uBt:∀{i} (hi:i<b.size),U b[i]:=fun hi=>uB _ _ (getElem?_pos b _ hi)
 delta Jx
 refine de (kh (iW ⟨rfl,?_⟩))
 refine de (AI hb0 ?_)
 have m0:Mrg rk a b #[] 0 0:=⟨by omega,by omega,jb.nil,iH,(fun x hx=>by cases hx),(fun x hx=>by cases hx)⟩
 have m1:Mrg rk a b #[b[0]] 0 1:=m0.pushB sb hb0 fun y _ hy=>by
  have e1:=sa 0 y (by omega) hy
  rw[←Av (rk:=rk) hb0]
  omega
 dsimp only
 by_cases c1:1=b.size
 ·rw[if_pos (beq_iff_eq.mpr c1)]
  exact dg (h _ _ (Like.refl _) (Udn m1 (.inr c1)))
 rw[if_neg (fun q=>c1 (beq_iff_eq.mp q))]
 by_cases c2:0+1=a.size
 ·rw[if_pos (beq_iff_eq.mpr c2)]
  exact dg (h _ _ (Like.refl _) (Ula m1 c2))
 rw[if_neg (fun q=>c2 (beq_iff_eq.mp q))]
 refine de (jy ?_)
 refine de (fX (eW (I:=fun x c st'=>Like st st'∧∃out i j mg,c=(none,out,i,j,mg)∧Hd rk a b out i j (x+1))
  (Q:=fun c st'=>Like st st'∧∃r,c.1=some r∧Fin2 rk a b r) ?_ ?_ ⟨Like.refl _,_,_,_,_,rfl,m1,by omega,by omega,by omega⟩) ?_)
 ·rintro x c st1 _ hx ⟨lk,out,i,j,mg,rfl,hd⟩
  dsimp only
  refine de (fX (eW (I:=fun _ c st'=>Like st st'∧∃out i j ac bc,c=(none,out,i,j,ac,bc)∧Hd rk a b out i j (x+1))
   (Q:=fun c st'=>Like st st'∧((∃r,c.1=some r∧Fin2 rk a b r)∨∃out i j ac bc,c=(none,out,i,j,ac,bc)∧Hd rk a b out i j (x+1))) ?_ ?_ ⟨lk,_,_,_,_,_,rfl,hd⟩) ?_)
  ·rintro x1 c st2 _ hx1 ⟨lk,out,i,j,ac,bc,rfl,hd⟩
   have hia:i<a.size:=by have:=hd.hi;omega
   have hjb:=hd.hj
   have hin:=hd.hn
   dsimp only
   refine de (AI hd.hj ?_)
   refine de (AI hia ?_)
   refine de (C _ _ _ _ (lk.kd.trans hk) (uBt hd.hj) (uAt hia) ?_)
   dsimp only
   by_cases hlt:rk b[j]<rk a[i]
   ·rw[if_pos (by exact decide_eq_true hlt)]
    have m:=hd.m.pushB sb hd.hj fun y h1 h2=>by
     have:=sa i y h1 h2
     rw[Av hia] at this
     omega
    refine de (AI hd.hj ?_)
    by_cases c3:j+1=b.size
    ·rw[if_pos (beq_iff_eq.mpr c3)]
     exact dg ⟨lk,.inl ⟨_,rfl,Udn m (.inr c3)⟩⟩
    rw[if_neg (fun q=>c3 (beq_iff_eq.mp q))]
    have hd':Hd rk a b (out.push b[j]) i (j+1) (x+1):=⟨m,hd.hi,by have:=hd.hj;omega,by omega⟩
    split
    ·exact dg ⟨lk,.inr ⟨_,_,_,_,_,rfl,hd'⟩⟩
    ·exact dg ⟨lk,_,_,_,_,_,rfl,hd'⟩
   ·rw[if_neg (fun q=>hlt (of_decide_eq_true q))]
    have m:=hd.m.pushA sa hia fun y h1 h2=>by
     have:=sb j y h1 h2
     rw[Av hd.hj] at this
     omega
    refine de (AI hia ?_)
    by_cases c3:i+1+1=a.size
    ·rw[if_pos (beq_iff_eq.mpr c3)]
     exact dg ⟨lk,.inl ⟨_,rfl,Ula m c3⟩⟩
    rw[if_neg (fun q=>c3 (beq_iff_eq.mp q))]
    have hd':Hd rk a b (out.push a[i]) (i+1) j (x+1):=⟨m,by have:=hd.hi;omega,hd.hj,by omega⟩
    split
    ·exact dg ⟨lk,.inr ⟨_,_,_,_,_,rfl,hd'⟩⟩
    ·exact dg ⟨lk,_,_,_,_,_,rfl,hd'⟩
  ·rintro c st2 ⟨lk,hh⟩
   exact⟨lk,.inr hh⟩
  rintro c st2 ⟨lk,⟨r,e,f⟩| ⟨out,i,j,ac,bc,rfl,hd⟩⟩
  ·obtain⟨c1,c2⟩:=c
   cases e
   exact dg ⟨lk,_,rfl,f⟩
  dsimp only
  refine de (kh (iW ⟨rfl,?_⟩))
  refine de (fX (eW (I:=fun y c st'=>Like st st'∧∃out i j mg ac bc,c=(none,out,i,j,mg,ac,bc)∧Hd rk a b out i j (x+1+y))
   (Q:=fun c st'=>Like st st'∧((∃r,c.1=some r∧Fin2 rk a b r)∨∃out i j mg ac bc,c=(none,out,i,j,mg,ac,bc)∧Hd rk a b out i j (x+1+1))) ?_ ?_ ⟨lk,_,_,_,_,_,_,rfl,hd⟩) ?_)
  ·rintro x1 c st2 _ hx1 ⟨lk,out,i,j,mg,ac,bc,rfl,hd⟩
   have hia:i<a.size:=by have:=hd.hi;omega
   have hjb:=hd.hj
   have hin:=hd.hn
   dsimp only
   refine dite (mg>1) (fun hmg=>?_) (fun hmg=>?_)
   all_goals first|rw[if_pos hmg]|rw[if_neg hmg]
   all_goals
    refine de (CU lk fun st3 lk=>?_)
    refine de (AI hjb ?_)
    refine de (BB C (lk.kd.trans hk) (uBt hjb) uA (by omega) (by omega) ?_ ?_)
    ·intro p q hpq hq e
     unfold bt at e ⊢
     rw[if_neg dc] at e ⊢
     have e':=of_decide_eq_false (fT _|>.mp e)
     have:=sa (i+p) (i+q) (by omega) (by omega)
     exact(fT _).mpr (decide_eq_false (by omega))
    rintro k ⟨kn,kt,kf⟩
    have kt':∀x,x<k→RK rk a (i+x)≤RK rk b j:=fun x hx=>by
     have e:=kt x hx
     unfold bt at e
     rw[if_neg dc] at e
     have e':=of_decide_eq_false (fT _|>.mp e)
     rw[Av hjb]
     omega
    have kf':∀y,i+k≤y→y<a.size→rk b[j]≤RK rk a y:=fun y h1 h2=>by
     have e:=kf (y-i) (by omega) (by omega)
     unfold bt at e
     rw[if_neg dc] at e
     have e':=of_decide_eq_true (ky _|>.mp e)
     have ey:i+(y-i)=y:=by omega
     rw[ey] at e'
     omega
    have m:=hd.m.appA k sa (by omega) fun x hx y h1 h2=>by
     have:=sb j y h1 h2
     have:=kt' x hx
     omega
    dsimp only
    by_cases k0:k>0
    ·rw[if_pos k0]
     by_cases c3:i+k+1=a.size
     ·rw[if_pos (beq_iff_eq.mpr c3)]
      exact dg ⟨lk,.inl ⟨_,rfl,Ula m c3⟩⟩
     rw[if_neg (fun q=>c3 (beq_iff_eq.mp q))]
     by_cases c4:i+k=a.size
     ·rw[if_pos (beq_iff_eq.mpr c4)]
      exact dg ⟨lk,.inl ⟨_,rfl,Udn m (.inl c4)⟩⟩
     rw[if_neg (fun q=>c4 (beq_iff_eq.mp q))]
     have hi':i+k<a.size:=by omega
     have hi2:i+k+1<a.size:=by omega
     have hn':x+1+x1≤i+k+j:=by omega
     refine de (AI hjb ?_)
     have m2:=m.pushB sb hjb kf'
     by_cases c5:j+1=b.size
     ·rw[if_pos (beq_iff_eq.mpr c5)]
      exact dg ⟨lk,.inl ⟨_,rfl,Udn m2 (.inr c5)⟩⟩
     rw[if_neg (fun q=>c5 (beq_iff_eq.mp q))]
     refine de (AI hi' ?_)
     refine de (BB C (lk.kd.trans hk) (uAt hi') uB (by omega) (by omega) ?_ ?_)
     ·intro p q hpq hq e
      unfold bt at e ⊢
      rw[if_pos rfl] at e ⊢
      have e':=of_decide_eq_true e
      have:=sb (j+1+p) (j+1+q) (by omega) (by omega)
      exact decide_eq_true (by omega)
     rintro k2 ⟨k2n,k2t,k2f⟩
     have k2t':∀x,x<k2→∀y,_≤y→y<a.size→RK rk b (j+1+x)≤RK rk a y:=fun x hx y h1 h2=>by
      have e:=k2t x hx
      unfold bt at e
      rw[if_pos rfl] at e
      have e':=of_decide_eq_true e
      have:=sa _ y h1 h2
      rw[Av hi'] at this
      omega
     have k2f':∀y,j+1+k2≤y→y<b.size→rk (a[i+k]'hi')≤RK rk b y:=fun y h1 h2=>by
      have e:=k2f (y- (j+1)) (by omega) (by omega)
      unfold bt at e
      rw[if_pos rfl] at e
      have e':=of_decide_eq_false e
      have ey:j+1+(y- (j+1))=y:=by omega
      rw[ey] at e'
      omega
     dsimp only
     by_cases k20:k2>0
     ·rw[if_pos k20]
      have m3:=m2.appB k2 sb (by omega) k2t'
      by_cases c6:j+1+k2=b.size
      ·rw[if_pos (beq_iff_eq.mpr c6)]
       exact dg ⟨lk,.inl ⟨_,rfl,Udn m3 (.inr c6)⟩⟩
      rw[if_neg (fun q=>c6 (beq_iff_eq.mp q))]
      have m4:=m3.pushA sa hi' k2f'
      refine de (AI hi' ?_)
      split
      ·rename_i c7
       exact dg ⟨lk,.inl ⟨_,rfl,Ula m4 (beq_iff_eq.mp c7)⟩⟩
      ·rename_i c7
       have c7':¬_=_:=fun q=>c7 (beq_iff_eq.mpr q)
       split
       ·exact dg ⟨lk,.inr ⟨_,_,_,_,_,_,rfl,m4,by omega,by omega,by omega⟩⟩
       ·exact dg ⟨lk,_,_,_,_,_,_,rfl,m4,by omega,by omega,by omega⟩
     ·rw[if_neg k20]
      have e2:j+1+k2=j+1:=by omega
      rw[e2] at k2f'
      have m4:=m2.pushA sa hi' k2f'
      refine de (AI hi' ?_)
      split
      ·rename_i c7
       exact dg ⟨lk,.inl ⟨_,rfl,Ula m4 (beq_iff_eq.mp c7)⟩⟩
      ·rename_i c7
       have c7':¬_=_:=fun q=>c7 (beq_iff_eq.mpr q)
       split
       ·exact dg ⟨lk,.inr ⟨_,_,_,_,_,_,rfl,m4,by omega,by omega,by omega⟩⟩
       ·exact dg ⟨lk,_,_,_,_,_,_,rfl,m4,by omega,by omega,by omega⟩
    ·rw[if_neg k0]
     have e0:i+k=i:=by omega
     rw[e0] at kf'
     clear m
     have m:=hd.m
     have hi2:=hd.hi
     have hi':=hia
     have hn':=hin
     refine de (AI hjb ?_)
     have m2:=m.pushB sb hjb kf'
     by_cases c5:j+1=b.size
     ·rw[if_pos (beq_iff_eq.mpr c5)]
      exact dg ⟨lk,.inl ⟨_,rfl,Udn m2 (.inr c5)⟩⟩
     rw[if_neg (fun q=>c5 (beq_iff_eq.mp q))]
     refine de (AI hi' ?_)
     refine de (BB C (lk.kd.trans hk) (uAt hi') uB (by omega) (by omega) ?_ ?_)
     ·intro p q hpq hq e
      unfold bt at e ⊢
      rw[if_pos rfl] at e ⊢
      have e':=of_decide_eq_true e
      have:=sb (j+1+p) (j+1+q) (by omega) (by omega)
      exact decide_eq_true (by omega)
     rintro k2 ⟨k2n,k2t,k2f⟩
     have k2t':∀x,x<k2→∀y,_≤y→y<a.size→RK rk b (j+1+x)≤RK rk a y:=fun x hx y h1 h2=>by
      have e:=k2t x hx
      unfold bt at e
      rw[if_pos rfl] at e
      have e':=of_decide_eq_true e
      have:=sa _ y h1 h2
      rw[Av hi'] at this
      omega
     have k2f':∀y,j+1+k2≤y→y<b.size→rk (a[i]'hi')≤RK rk b y:=fun y h1 h2=>by
      have e:=k2f (y- (j+1)) (by omega) (by omega)
      unfold bt at e
      rw[if_pos rfl] at e
      have e':=of_decide_eq_false e
      have ey:j+1+(y- (j+1))=y:=by omega
      rw[ey] at e'
      omega
     dsimp only
     by_cases k20:k2>0
     ·rw[if_pos k20]
      have m3:=m2.appB k2 sb (by omega) k2t'
      by_cases c6:j+1+k2=b.size
      ·rw[if_pos (beq_iff_eq.mpr c6)]
       exact dg ⟨lk,.inl ⟨_,rfl,Udn m3 (.inr c6)⟩⟩
      rw[if_neg (fun q=>c6 (beq_iff_eq.mp q))]
      have m4:=m3.pushA sa hi' k2f'
      refine de (AI hi' ?_)
      split
      ·rename_i c7
       exact dg ⟨lk,.inl ⟨_,rfl,Ula m4 (beq_iff_eq.mp c7)⟩⟩
      ·rename_i c7
       have c7':¬_=_:=fun q=>c7 (beq_iff_eq.mpr q)
       split
       ·exact dg ⟨lk,.inr ⟨_,_,_,_,_,_,rfl,m4,by omega,by omega,by omega⟩⟩
       ·exact dg ⟨lk,_,_,_,_,_,_,rfl,m4,by omega,by omega,by omega⟩
     ·rw[if_neg k20]
      have e2:j+1+k2=j+1:=by omega
      rw[e2] at k2f'
      have m4:=m2.pushA sa hi' k2f'
      refine de (AI hi' ?_)
      split
      ·rename_i c7
       exact dg ⟨lk,.inl ⟨_,rfl,Ula m4 (beq_iff_eq.mp c7)⟩⟩
      ·rename_i c7
       have c7':¬_=_:=fun q=>c7 (beq_iff_eq.mpr q)
       split
       ·exact dg ⟨lk,.inr ⟨_,_,_,_,_,_,rfl,m4,by omega,by omega,by omega⟩⟩
       ·exact dg ⟨lk,_,_,_,_,_,_,rfl,m4,by omega,by omega,by omega⟩
  ·rintro c st2 ⟨lk,out,i,j,mg,ac,bc,rfl,hd⟩
   have e:max 0 (a.size+b.size)=a.size+b.size:=by omega
   rw[e] at hd
   exact⟨lk,.inr ⟨_,_,_,_,_,_,rfl,hd.m,hd.hi,hd.hj,by have:=hd.hn;omega⟩⟩
  rintro c st2 ⟨lk,⟨r,e,f⟩| ⟨out,i,j,mg,ac,bc,rfl,hd⟩⟩
  ·obtain⟨c1,c2⟩:=c
   cases e
   exact dg ⟨lk,_,rfl,f⟩
  dsimp only
  refine de (CU lk fun st3 lk=>?_)
  exact dg ⟨lk,_,_,_,_,rfl,hd⟩
 ·rintro c st1 ⟨lk,out,i,j,mg,rfl,hd⟩
  have e:max 0 (a.size+b.size)=a.size+b.size:=by omega
  rw[e] at hd
  have:=hd.hn
  have:=hd.hi
  have:=hd.hj
  omega
 ·rintro c st1 ⟨lk,r,e,f⟩
  obtain⟨c1,c2⟩:=c
  cases e
  exact dg (h _ _ lk f)
end
end SrtG
namespace SrtG
local macro_rules | `(tactic| omega) => `(tactic| first | lia | omega)
open PySem PyProof.Rows
variable{rk:Keyed→Int}
structure Mrh(rk:Keyed→Int)(a b out:Array Keyed)(i j:Nat):Prop where
 hi:i≤a.size
 hj:j≤b.size
 perm:out.toList.Perm (a.toList.drop i++b.toList.drop j)
 srt:out.toList.Pairwise fun x y=>rk y≤rk x
 ha:∀x,x∈out.toList→∀y,y<i→RK rk a y≤rk x
 hb:∀x,x∈out.toList→∀y,y<j→RK rk b y≤rk x
theorem Mrh.sym{a b out:Array Keyed}{i j:Nat}(m:Mrh rk a b out i j):Mrh rk b a out j i:=
 ⟨m.hj,m.hi,m.perm.trans gJ,m.srt,m.hb,m.ha⟩
theorem Mrh.pushA{a b out:Array Keyed}{i j:Nat}(m:Mrh rk a b out (i+1) j)(sa:Em rk a)(h:i<a.size)(hb:∀y,y<j→RK rk b y≤rk a[i]):Mrh rk a b (out.push a[i]) i j:=by
 have e:(out.push a[i]).toList=out.toList++[a[i]]:=iJ ..
 have t:a.toList.drop i=a[i]::a.toList.drop (i+1):=by
  have hl:i<a.toList.length:=by rw[dr];exact h
  rw[fY hl]
  rfl
 refine⟨by omega,m.hj,?_,?_,?_,?_⟩
 ·rw[e,t]
  exact gJ.trans (m.perm.cons a[i])
 ·rw[e,jR]
  refine⟨m.srt,jx _ _,fun x hx y hy=>?_⟩
  cases b8.mp hy
  have:=m.ha x hx i (gL _)
  rwa[Av h] at this
 ·intro x hx y hy
  rw[e] at hx
  rcases dJ.mp hx with hx|hx
  ·exact m.ha x hx y (by omega)
  ·cases b8.mp hx
   have:=sa y i (by omega) h
   rwa[Av h] at this
 ·intro x hx y hy
  rw[e] at hx
  rcases dJ.mp hx with hx|hx
  ·exact m.hb x hx y hy
  ·cases b8.mp hx
   exact hb y hy
theorem Mrh.pushB{a b out:Array Keyed}{i j:Nat}(m:Mrh rk a b out i (j+1))(sb:Em rk b)(h:j<b.size)(ha:∀y,y<i→RK rk a y≤rk b[j]):Mrh rk a b (out.push b[j]) i j:=(m.sym.pushA sb h ha).sym
theorem Ib(a:Array Keyed)(l h:Nat)(hl:l<h)(hh:h≤a.size):(a.extract l h).reverse=(a.extract (l+1) h).reverse.push (a[l]'(by omega)):=by
 apply ju
 rw[iJ,fB,fB,fc,fc,eG,eG]
 have hln:l<a.toList.length:=by rw[dr];omega
 have e1:h-l=(h- (l+1))+1:=by omega
 rw[fY hln,e1,List.take_succ_cons,jD]
 rfl
theorem Mrh.appA{a b:Array Keyed}{i j:Nat}:∀(k:Nat) {out:Array Keyed},Mrh rk a b out i j→Em rk a→k≤i→(∀x,i-k≤x→x<i→∀y,y<j→RK rk b y≤RK rk a x)→Mrh rk a b (out++(a.extract (i-k) i).reverse) (i-k) j
 |0,out,m,_,_,_=>by
  have:out++(a.extract (i-0) i).reverse=out:=by
   apply ju
   rw[gZ,fB,fc,eG]
   have:i- (i-0)=0:=by omega
   rw[this,ku,List.reverse_nil,i8]
  rw[this];exact m
 |k+1,out,m,sa,h,hb=>by
  have hi:=m.hi
  have m':=Mrh.appA k m sa (by omega) fun x hx=>hb x (by omega)
  have hk:i- (k+1)<a.size:=by omega
  have e:i- (k+1)+1=i-k:=by omega
  rw[Ib a (i- (k+1)) i (by omega) hi,Array.append_push,e]
  rw[←e] at m'
  have q:=m'.pushA sa hk fun y h1=>by
   have:=hb (i- (k+1)) (by omega) (by omega) y h1
   rwa[Av hk] at this
  rw[e] at q
  exact q
theorem Mrh.appA'{a b out:Array Keyed}{i j l:Nat}(m:Mrh rk a b out i j)(sa:Em rk a)(h:l≤i)(hb:∀x,l≤x→x<i→∀y,y<j→RK rk b y≤RK rk a x):Mrh rk a b (out++(a.extract l i).reverse) l j:=by
 have e:i- (i-l)=l:=by omega
 have q:=m.appA (i-l) sa (by omega) (by rw[e];exact hb)
 rwa[e] at q
theorem Mrh.appB'{a b out:Array Keyed}{i j l:Nat}(m:Mrh rk a b out i j)(sb:Em rk b)(h:l≤j)(ha:∀x,l≤x→x<j→∀y,y<i→RK rk a y≤RK rk b x):Mrh rk a b (out++(b.extract l j).reverse) i l:=(m.sym.appA' sb h ha).sym
theorem Mrh.fin{a b out:Array Keyed}(m:Mrh rk a b out 0 0):Fin2 rk a b out.reverse:=by
 have p:=m.perm
 rw[lS,lS] at p
 constructor
 ·rw[fB]
  exact(List.reverse_perm _).trans p
 ·rw[fB,List.pairwise_reverse]
  exact m.srt
theorem Mrh.restAB{a b out:Array Keyed}{i j:Nat}(m:Mrh rk a b out i j)(sa:Em rk a)(sb:Em rk b)(h:∀x y,x<i→y<j→RK rk a x≤RK rk b y):Fin2 rk a b (a.extract 0 i++b.extract 0 j++out.reverse):=by
 have m1:=m.appB' (l:=0) sb (by omega) fun x _ hx y hy=>h y x hy hx
 have m2:=m1.appA' (l:=0) sa (by omega) fun x _ _ y hy=>by omega
 have f:=m2.fin
 have e:(out++(b.extract 0 j).reverse++(a.extract 0 i).reverse).reverse=a.extract 0 i++b.extract 0 j++out.reverse:=by
  apply ju
  rw[fB,gZ,gZ,gZ,gZ,fB,fB,fB,jY,jY,List.reverse_reverse,List.reverse_reverse,gi]
 rwa[e] at f
theorem Mrh.restBA{a b out:Array Keyed}{i j:Nat}(m:Mrh rk a b out i j)(sa:Em rk a)(sb:Em rk b)(h:∀x y,x<i→y<j→RK rk b y≤RK rk a x):Fin2 rk a b (b.extract 0 j++a.extract 0 i++out.reverse):=by
 have f:=m.sym.restAB sb sa fun x y h1 h2=>h y x h2 h1
 exact⟨f.perm.trans gJ,f.srt⟩
def Jz:Array Keyed→Array Keyed→StateT SortSt Sem (Array Keyed):=sortPriv%PySem.Builtin.mergeHi
abbrev cQ(a b out:Array Keyed)(i j:Nat):Array Keyed:=a.extract 0 i++b.extract 0 j++out.reverse
abbrev cR(a b out:Array Keyed)(i j:Nat):Array Keyed:=b.extract 0 j++a.extract 0 i++out.reverse
end SrtG
namespace SrtG
local macro_rules | `(tactic| omega) => `(tactic| first | lia | omega)
open PySem PyProof.Rows
variable{prog:Program}{w:World}{A:dH}{E:Value→b6→Prop}{s:b6}{kd:jf}{U:Keyed→Prop}{rk:Keyed→Int}
theorem Mrh.pushA1{a b out:Array Keyed}{i j:Nat}(m:Mrh rk a b out i j)(sa:Em rk a)(h0:0<i)(h:i-1<a.size)(hb:∀y,y<j→RK rk b y≤rk a[i-1]):Mrh rk a b (out.push a[i-1]) (i-1) j:=by
 cases i with
 |zero=>omega
 |succ i=>exact m.pushA sa h hb
structure Hh(rk:Keyed→Int)(a b out:Array Keyed)(i j n:Nat):Prop where
 m:Mrh rk a b out i j
 hi:0<i
 hj:1<j
 hn:i+j+n≤a.size+b.size
theorem KA{a b:Array Keyed}{st:eO}{Q:Array Keyed→eO→Prop}(C:Oy prog w A E s kd U rk)(hk:kindOf st=kd)(uA:AllU U a)(uB:AllU U b)(sa:Em rk a)(sb:Em rk b)(ha0:0<a.size)(hb0:0<b.size)
  (hfst:RK rk b 0≤RK rk a 0) (hlst:RK rk b (b.size-1)≤RK rk a (a.size-1))
  (h:∀r st',Like st st'→Fin2 rk a b r→Q r st'):wpS (model prog w) A E s (Jz a b) Q st:=by
 have Udn:∀{out i j},Mrh rk a b out i j→i=0∨j=0→Fin2 rk a b (cQ a b out i j):=fun m hh=>m.restAB sa sb fun x y _ _=>by omega
 have Ula:∀{out i j},Mrh rk a b out i j→j=1→Fin2 rk a b (cR a b out i j):=fun{out i j} m hh=>m.restBA sa sb fun x y h1 h2=>by
  have hi:=m.hi
  have e1:=sa 0 x (by omega) (by omega)
  have e:y=0:=by omega
  subst e
  omega
 have uAt:∀{i} (hi:i<a.size),U a[i]:=fun hi=>uA _ _ (getElem?_pos a _ hi)
 have uBt:∀{i} (hi:i<b.size),U b[i]:=fun hi=>uB _ _ (getElem?_pos b _ hi)
 have hal:a.size-1<a.size:=by omega
 delta Jz
 refine de (kh (iW ⟨rfl,?_⟩))
 refine de (AI hal ?_)
 have m0:Mrh rk a b #[] (a.size-1+1) b.size:=by
  have e:a.size-1+1=a.size:=by omega
  rw[e]
  refine⟨by omega,by omega,?_,iH,(fun x hx=>by cases hx),(fun x hx=>by cases hx)⟩
  rw[←dr,←dr,kX,kX]
  exact jb.nil
 have m1:Mrh rk a b #[a[a.size-1]] (a.size-1) b.size:=m0.pushA sa hal fun y hy=>by
  have e1:=sb y (b.size-1) (by omega) (by omega)
  rw[←Av (rk:=rk) hal]
  omega
 dsimp only
 by_cases c1:a.size-1=0
 ·rw[if_pos (beq_iff_eq.mpr c1)]
  exact dg (h _ _ (Like.refl _) (Udn m1 (.inl c1)))
 rw[if_neg (fun q=>c1 (beq_iff_eq.mp q))]
 by_cases c2:b.size=1
 ·rw[if_pos (beq_iff_eq.mpr c2)]
  exact dg (h _ _ (Like.refl _) (Ula m1 c2))
 rw[if_neg (fun q=>c2 (beq_iff_eq.mp q))]
 refine de (jy ?_)
 refine de (fX (eW (I:=fun x c st'=>Like st st'∧∃out i j mg,c=(none,i,j,out,mg)∧Hh rk a b out i j (x+1))
  (Q:=fun c st'=>Like st st'∧∃r,c.1=some r∧Fin2 rk a b r) ?_ ?_ ⟨Like.refl _,_,_,_,_,rfl,m1,by omega,by omega,by omega⟩) ?_)
 ·rintro x c st1 _ hx ⟨lk,out,i,j,mg,rfl,hd⟩
  dsimp only
  refine de (fX (eW (I:=fun _ c st'=>Like st st'∧∃out i j ac bc,c=(none,i,j,out,ac,bc)∧Hh rk a b out i j (x+1))
   (Q:=fun c st'=>Like st st'∧((∃r,c.1=some r∧Fin2 rk a b r)∨∃out i j ac bc,c=(none,i,j,out,ac,bc)∧Hh rk a b out i j (x+1))) ?_ ?_ ⟨lk,_,_,_,_,_,rfl,hd⟩) ?_)
  ·rintro x1 c st2 _ hx1 ⟨lk,out,i,j,ac,bc,rfl,hd⟩
   have hi0:=hd.hi
   have hj0:=hd.hj
   have hin:=hd.hn
   have hia:i-1<a.size:=by have:=hd.m.hi;omega
   have hjb:j-1<b.size:=by have:=hd.m.hj;omega
   have ei:i-1+1=i:=by omega
   have ej:j-1+1=j:=by omega
   have m:=hd.m
   dsimp only
   refine de (AI hjb ?_)
   refine de (AI hia ?_)
   refine de (C _ _ _ _ (lk.kd.trans hk) (uBt hjb) (uAt hia) ?_)
   dsimp only
   by_cases hlt:rk b[j-1]<rk a[i-1]
   ·rw[if_pos (by exact decide_eq_true hlt)]
    rw[←ei] at m
    have m:=m.pushA sa hia fun y h1=>by
     have:=sb y (j-1) (by omega) hjb
     rw[Av hjb] at this
     omega
    refine de (AI hia ?_)
    by_cases c3:i-1=0
    ·rw[if_pos (beq_iff_eq.mpr c3)]
     exact dg ⟨lk,.inl ⟨_,rfl,Udn m (.inl c3)⟩⟩
    rw[if_neg (fun q=>c3 (beq_iff_eq.mp q))]
    have hd':Hh rk a b (out.push a[i-1]) (i-1) j (x+1):=⟨m,by omega,by omega,by omega⟩
    split
    ·exact dg ⟨lk,.inr ⟨_,_,_,_,_,rfl,hd'⟩⟩
    ·exact dg ⟨lk,_,_,_,_,_,rfl,hd'⟩
   ·rw[if_neg (fun q=>hlt (of_decide_eq_true q))]
    rw[←ej] at m
    have m:=m.pushB sb hjb fun y h1=>by
     have:=sa y (i-1) (by omega) hia
     rw[Av hia] at this
     omega
    refine de (AI hjb ?_)
    by_cases c3:j-1=1
    ·rw[if_pos (beq_iff_eq.mpr c3)]
     exact dg ⟨lk,.inl ⟨_,rfl,Ula m c3⟩⟩
    rw[if_neg (fun q=>c3 (beq_iff_eq.mp q))]
    have hd':Hh rk a b (out.push b[j-1]) i (j-1) (x+1):=⟨m,by omega,by omega,by omega⟩
    split
    ·exact dg ⟨lk,.inr ⟨_,_,_,_,_,rfl,hd'⟩⟩
    ·exact dg ⟨lk,_,_,_,_,_,rfl,hd'⟩
  ·rintro c st2 ⟨lk,hh⟩
   exact⟨lk,.inr hh⟩
  rintro c st2 ⟨lk,⟨r,e,f⟩| ⟨out,i,j,ac,bc,rfl,hd⟩⟩
  ·obtain⟨c1,c2⟩:=c
   cases e
   exact dg ⟨lk,_,rfl,f⟩
  dsimp only
  refine de (kh (iW ⟨rfl,?_⟩))
  refine de (fX (eW (I:=fun y c st'=>Like st st'∧∃out i j mg ac bc,c=(none,i,j,out,mg,ac,bc)∧Hh rk a b out i j (x+1+y))
   (Q:=fun c st'=>Like st st'∧((∃r,c.1=some r∧Fin2 rk a b r)∨∃out i j mg ac bc,c=(none,i,j,out,mg,ac,bc)∧Hh rk a b out i j (x+1+1))) ?_ ?_ ⟨lk,_,_,_,_,_,_,rfl,hd⟩) ?_)
  ·rintro x1 c st2 _ hx1 ⟨lk,out,i,j,mg,ac,bc,rfl,hd⟩
   have hi0:=hd.hi
   have hj0:=hd.hj
   have hin:=hd.hn
   have hia:=hd.m.hi
   have hjl:=hd.m.hj
   have hjb:j-1<b.size:=by omega
   dsimp only
   refine dite (mg>1) (fun hmg=>?_) (fun hmg=>?_)
   all_goals first|rw[if_pos hmg]|rw[if_neg hmg]
   all_goals
    refine de (CU lk fun st3 lk=>?_)
    refine de (AI hjb ?_)
    refine de (BB C (lk.kd.trans hk) (uBt hjb) uA (by omega) (by omega) ?_ ?_)
    ·intro p q hpq hq e
     unfold bt at e ⊢
     rw[if_neg dc] at e ⊢
     have e':=of_decide_eq_false (fT _|>.mp e)
     have:=sa (0+p) (0+q) (by omega) (by omega)
     exact(fT _).mpr (decide_eq_false (by omega))
    rintro p ⟨kn,kt,kf⟩
    have kf':∀y,y<p→RK rk a y≤rk b[j-1]:=fun y hy=>by
     have e:=kt y hy
     unfold bt at e
     rw[if_neg dc] at e
     have e':=of_decide_eq_false (fT _|>.mp e)
     rw[hV] at e'
     omega
    have kt':∀x,p≤x→x<i→∀y,y<j→RK rk b y≤RK rk a x:=fun x h1 h2 y h3=>by
     have e:=kf x h1 h2
     unfold bt at e
     rw[if_neg dc] at e
     have e':=of_decide_eq_true (ky _|>.mp e)
     rw[hV] at e'
     have:=sb y (j-1) (by omega) hjb
     rw[Av hjb] at this
     omega
    have m:=hd.m.appA' sa kn kt'
    dsimp only
    by_cases k0:i-p>0
    ·rw[if_pos k0]
     by_cases c3:p=0
     ·rw[if_pos (beq_iff_eq.mpr c3)]
      exact dg ⟨lk,.inl ⟨_,rfl,Udn m (.inl c3)⟩⟩
     rw[if_neg (fun q=>c3 (beq_iff_eq.mp q))]
     have hI:0<p:=by omega
     have ej:j-1+1=j:=by omega
     rw[←ej] at m
     have m2:=m.pushB sb hjb kf'
     refine de (AI hjb ?_)
     by_cases c5:j-1=1
     ·rw[if_pos (beq_iff_eq.mpr c5)]
      exact dg ⟨lk,.inl ⟨_,rfl,Ula m2 (by omega)⟩⟩
     rw[if_neg (fun q=>c5 (beq_iff_eq.mp q))]
     have hI1:p-1<a.size:=by omega
     refine de (AI hI1 ?_)
     refine de (BB C (lk.kd.trans hk) (uAt hI1) uB (by omega) (by omega) ?_ ?_)
     ·intro p q hpq hq e
      unfold bt at e ⊢
      rw[if_pos rfl] at e ⊢
      have e':=of_decide_eq_true e
      have:=sb (0+p) (0+q) (by omega) (by omega)
      exact decide_eq_true (by omega)
     rintro q ⟨k2n,k2t,k2f⟩
     have k2t':∀y,y<q→RK rk b y≤rk (a[p-1]'hI1):=fun y hx=>by
      have e:=k2t y hx
      unfold bt at e
      rw[if_pos rfl] at e
      have e':=of_decide_eq_true e
      rw[hV] at e'
      omega
     have k2f':∀x,q≤x→x<j-1→∀y,y<p→RK rk a y≤RK rk b x:=fun x h1 h2 y h3=>by
      have e:=k2f x h1 h2
      unfold bt at e
      rw[if_pos rfl] at e
      have e':=of_decide_eq_false e
      rw[hV] at e'
      have:=sa y (p-1) (by omega) hI1
      rw[Av hI1] at this
      omega
     have eI:p-1+1=p:=by omega
     dsimp only
     by_cases k20:j-1-q>0
     ·rw[if_pos k20]
      have m3:=m2.appB' sb k2n k2f'
      by_cases c6:q=1
      ·rw[if_pos (beq_iff_eq.mpr c6)]
       exact dg ⟨lk,.inl ⟨_,rfl,Ula m3 (by omega)⟩⟩
      rw[if_neg (fun q=>c6 (beq_iff_eq.mp q))]
      by_cases c8:q=0
      ·rw[if_pos (beq_iff_eq.mpr c8)]
       exact dg ⟨lk,.inl ⟨_,rfl,Udn m3 (.inr c8)⟩⟩
      rw[if_neg (fun q=>c8 (beq_iff_eq.mp q))]
      have m4:=m3.pushA1 sa hI hI1 k2t'
      refine de (AI hI1 ?_)
      by_cases c7:p-1=0
      ·rw[if_pos (beq_iff_eq.mpr c7)]
       exact dg ⟨lk,.inl ⟨_,rfl,Udn m4 (.inl c7)⟩⟩
      rw[if_neg (fun q=>c7 (beq_iff_eq.mp q))]
      split
      ·exact dg ⟨lk,.inr ⟨_,_,_,_,_,_,rfl,m4,by omega,by omega,by omega⟩⟩
      ·exact dg ⟨lk,_,_,_,_,_,_,rfl,m4,by omega,by omega,by omega⟩
     ·rw[if_neg k20]
      have e2:q=j-1:=by omega
      rw[e2] at k2t'
      have m4:=m2.pushA1 sa hI hI1 k2t'
      refine de (AI hI1 ?_)
      by_cases c7:p-1=0
      ·rw[if_pos (beq_iff_eq.mpr c7)]
       exact dg ⟨lk,.inl ⟨_,rfl,Udn m4 (.inl c7)⟩⟩
      rw[if_neg (fun q=>c7 (beq_iff_eq.mp q))]
      split
      ·exact dg ⟨lk,.inr ⟨_,_,_,_,_,_,rfl,m4,by omega,by omega,by omega⟩⟩
      ·exact dg ⟨lk,_,_,_,_,_,_,rfl,m4,by omega,by omega,by omega⟩
    ·rw[if_neg k0]
     have e0:p=i:=by omega
     rw[e0] at kf'
     clear m
     have m:=hd.m
     have hI:=hi0
     have ej:j-1+1=j:=by omega
     rw[←ej] at m
     have m2:=m.pushB sb hjb kf'
     refine de (AI hjb ?_)
     by_cases c5:j-1=1
     ·rw[if_pos (beq_iff_eq.mpr c5)]
      exact dg ⟨lk,.inl ⟨_,rfl,Ula m2 (by omega)⟩⟩
     rw[if_neg (fun q=>c5 (beq_iff_eq.mp q))]
     have hI1:i-1<a.size:=by omega
     refine de (AI hI1 ?_)
     refine de (BB C (lk.kd.trans hk) (uAt hI1) uB (by omega) (by omega) ?_ ?_)
     ·intro p q hpq hq e
      unfold bt at e ⊢
      rw[if_pos rfl] at e ⊢
      have e':=of_decide_eq_true e
      have:=sb (0+p) (0+q) (by omega) (by omega)
      exact decide_eq_true (by omega)
     rintro q ⟨k2n,k2t,k2f⟩
     have k2t':∀y,y<q→RK rk b y≤rk (a[i-1]'hI1):=fun y hx=>by
      have e:=k2t y hx
      unfold bt at e
      rw[if_pos rfl] at e
      have e':=of_decide_eq_true e
      rw[hV] at e'
      omega
     have k2f':∀x,q≤x→x<j-1→∀y,y<i→RK rk a y≤RK rk b x:=fun x h1 h2 y h3=>by
      have e:=k2f x h1 h2
      unfold bt at e
      rw[if_pos rfl] at e
      have e':=of_decide_eq_false e
      rw[hV] at e'
      have:=sa y (i-1) (by omega) hI1
      rw[Av hI1] at this
      omega
     have eI:i-1+1=i:=by omega
     dsimp only
     by_cases k20:j-1-q>0
     ·rw[if_pos k20]
      have m3:=m2.appB' sb k2n k2f'
      by_cases c6:q=1
      ·rw[if_pos (beq_iff_eq.mpr c6)]
       exact dg ⟨lk,.inl ⟨_,rfl,Ula m3 (by omega)⟩⟩
      rw[if_neg (fun q=>c6 (beq_iff_eq.mp q))]
      by_cases c8:q=0
      ·rw[if_pos (beq_iff_eq.mpr c8)]
       exact dg ⟨lk,.inl ⟨_,rfl,Udn m3 (.inr c8)⟩⟩
      rw[if_neg (fun q=>c8 (beq_iff_eq.mp q))]
      have m4:=m3.pushA1 sa hI hI1 k2t'
      refine de (AI hI1 ?_)
      by_cases c7:i-1=0
      ·rw[if_pos (beq_iff_eq.mpr c7)]
       exact dg ⟨lk,.inl ⟨_,rfl,Udn m4 (.inl c7)⟩⟩
      rw[if_neg (fun q=>c7 (beq_iff_eq.mp q))]
      split
      ·exact dg ⟨lk,.inr ⟨_,_,_,_,_,_,rfl,m4,by omega,by omega,by omega⟩⟩
      ·exact dg ⟨lk,_,_,_,_,_,_,rfl,m4,by omega,by omega,by omega⟩
     ·rw[if_neg k20]
      have e2:q=j-1:=by omega
      rw[e2] at k2t'
      have m4:=m2.pushA1 sa hI hI1 k2t'
      refine de (AI hI1 ?_)
      by_cases c7:i-1=0
      ·rw[if_pos (beq_iff_eq.mpr c7)]
       exact dg ⟨lk,.inl ⟨_,rfl,Udn m4 (.inl c7)⟩⟩
      rw[if_neg (fun q=>c7 (beq_iff_eq.mp q))]
      split
      ·exact dg ⟨lk,.inr ⟨_,_,_,_,_,_,rfl,m4,by omega,by omega,by omega⟩⟩
      ·exact dg ⟨lk,_,_,_,_,_,_,rfl,m4,by omega,by omega,by omega⟩
  ·rintro c st2 ⟨lk,out,i,j,mg,ac,bc,rfl,hd⟩
   have e:max 0 (a.size+b.size)=a.size+b.size:=by omega
   rw[e] at hd
   exact⟨lk,.inr ⟨_,_,_,_,_,_,rfl,hd.m,hd.hi,hd.hj,by have:=hd.hn;omega⟩⟩
  rintro c st2 ⟨lk,⟨r,e,f⟩| ⟨out,i,j,mg,ac,bc,rfl,hd⟩⟩
  ·obtain⟨c1,c2⟩:=c
   cases e
   exact dg ⟨lk,_,rfl,f⟩
  dsimp only
  refine de (CU lk fun st3 lk=>?_)
  exact dg ⟨lk,_,_,_,_,rfl,hd⟩
 ·rintro c st1 ⟨lk,out,i,j,mg,rfl,hd⟩
  have e:max 0 (a.size+b.size)=a.size+b.size:=by omega
  rw[e] at hd
  have:=hd.hn
  have:=hd.hi
  have:=hd.hj
  omega
 ·rintro c st1 ⟨lk,r,e,f⟩
  obtain⟨c1,c2⟩:=c
  cases e
  exact dg (h _ _ lk f)
end SrtG
namespace SrtG
local macro_rules | `(tactic| omega) => `(tactic| first | lia | omega)
open PySem PyProof.Rows
variable{rk:Keyed→Int}
def Seg(rk:Keyed→Int)(arr:Array Keyed)(lo hi:Nat):Prop:=∀x y,lo≤x→x≤y→y<hi→RK rk arr x≤RK rk arr y
structure Upd(rk:Keyed→Int)(arr arr':Array Keyed)(lo hi:Nat):Prop where
 perm:arr'.toList.Perm arr.toList
 out:∀x,x<lo∨hi≤x→arr'[x]?=arr[x]?
 seg:Seg rk arr' lo hi
theorem By{arr arr':Array Keyed}{x:Nat}(h:arr'[x]?=arr[x]?):RK rk arr' x=RK rk arr x:=by unfold RK;rw[h]
abbrev back(l:List (Keyed×Nat))(lo:Nat)(arr:Array Keyed):Array Keyed:=l.foldl (fun a (p,j)=>a.setIfInBounds (lo+j) p) arr
theorem GM(lo:Nat):∀(l:List Keyed) (n:Nat) (arr:Array Keyed),lo+n+l.length≤arr.size→∀x,(back (l.zipIdx n) lo arr)[x]?=if lo+n≤x∧x<lo+n+l.length then l[x- (lo+n)]? else arr[x]?
 | [],n,arr,_,x=>by
  rw[if_neg (by rintro⟨h1,h2⟩;simp only[gY] at h2;omega)]
  rfl
 |p::l,n,arr,h,x=>by
  rw[dA] at h
  have e:back ((p::l).zipIdx n) lo arr=back (l.zipIdx (n+1)) lo (arr.setIfInBounds (lo+n) p):=by rw[List.zipIdx_cons];rfl
  rw[e,GM lo l (n+1) _ (by rw[Array.size_setIfInBounds];omega) x,dA]
  by_cases c:lo+(n+1)≤x∧x<lo+(n+1)+l.length
  ·rw[if_pos c,if_pos (by omega)]
   have e2:x- (lo+n)=(x- (lo+(n+1)))+1:=by omega
   rw[e2,iU]
  ·rw[if_neg c,Array.getElem?_setIfInBounds]
   by_cases c2:lo+n=x
   ·rw[if_pos c2,if_pos (by omega),if_pos (by omega)]
    have e2:x- (lo+n)=0:=by omega
    rw[e2];rfl
   ·rw[if_neg c2,if_neg (by omega)]
theorem ON{arr:Array Keyed}{l:List Keyed}{lo:Nat}(h:lo+l.length≤arr.size):(back l.zipIdx lo arr).toList=arr.toList.take lo++l++arr.toList.drop (lo+l.length):=by
 apply fo
 intro x
 rw[dY,GM lo l 0 arr (by omega) x]
 have hlen:arr.toList.length=arr.size:=dr
 by_cases c1:x<lo
 ·rw[if_neg (by omega),gi,eF (by rw[eH];omega),kv,if_pos c1,dY]
 ·by_cases c2:x<lo+l.length
  ·rw[if_pos (by omega),eF (by rw[dz,eH];omega),dQ (by rw[eH];omega),eH]
   have e:min lo arr.toList.length=lo:=by omega
   rw[e]
   rfl
  ·rw[if_neg (by omega),dQ (by rw[dz,eH];omega),gm,dz,eH]
   have e:lo+l.length+(x- (min lo arr.toList.length+l.length))=x:=by omega
   rw[e,dY]
theorem Px{arr merged:Array Keyed}{lo hi s0 e0:Nat}(hhi:lo≤hi)(hs:s0≤lo)(he:hi≤e0)(hz:e0≤arr.size)(perm:merged.toList.Perm (arr.extract lo hi).toList)(srt:merged.toList.Pairwise fun x y=>rk x≤rk y)
  (hL:∀x z,s0≤x→x<lo→x≤z→z<e0→RK rk arr x≤RK rk arr z) (hR:∀z y,s0≤z→z≤y→hi≤y→y<e0→RK rk arr z≤RK rk arr y):Upd rk arr (back merged.toList.zipIdx lo arr) s0 e0:=by
 have hx:(arr.extract lo hi).toList=(arr.toList.drop lo).take (hi-lo):=by rw[fc,eG]
 have hlenA:arr.toList.length=arr.size:=dr
 have hlen:merged.toList.length=hi-lo:=by
  rw[perm.length_eq,hx,eH,ie]
  omega
 have hfit:lo+merged.toList.length≤arr.size:=by omega
 have hget:=GM lo merged.toList 0 arr (by omega)
 have hmid:∀m,m∈merged.toList→∃z,lo≤z∧z<hi∧rk m=RK rk arr z:=fun m hm=>by
  have hm':=perm.mem_iff.mp hm
  rw[hx] at hm'
  obtain⟨i,hi'⟩:=List.mem_iff_getElem?.mp hm'
  rw[kv] at hi'
  split at hi'
  ·rename_i hlt
   rw[gm,dY] at hi'
   exact⟨lo+i,by omega,by omega,by unfold RK;rw[hi']⟩
  ·cases hi'
 have hRK:∀x,lo≤x→x<hi→∃m,m∈merged.toList∧merged.toList[x-lo]?=some m∧RK rk (back merged.toList.zipIdx lo arr) x=rk m:=fun x h1 h2=>by
  have hl:x-lo<merged.toList.length:=by omega
  refine⟨_,fu hl,di hl,?_⟩
  unfold RK
  rw[hget x,if_pos (by omega)]
  have e:x- (lo+0)=x-lo:=by omega
  rw[e,di hl]
 have hout:∀x,x<lo∨hi≤x→(back merged.toList.zipIdx lo arr)[x]?=arr[x]?:=fun x h=>by
  rw[hget x,if_neg (by omega)]
 refine⟨?_,fun x h=>hout x (by omega),?_⟩
 ·rw[ON hfit]
  have e:arr.toList=arr.toList.take lo++((arr.toList.drop lo).take (hi-lo))++arr.toList.drop (lo+merged.toList.length):=by
   rw[gi]
   have e2:lo+merged.toList.length=lo+(hi-lo):=by omega
   rw[e2,←List.drop_drop,gI,gI]
  rw[hx] at perm
  have:=(perm.append_left (arr.toList.take lo)).append_right (arr.toList.drop (lo+merged.toList.length))
  rw[←e] at this
  exact this
 ·intro x y h1 h2 h3
  by_cases cx:x<lo
  ·rw[By (hout x (.inl cx))]
   by_cases cy:lo≤y∧y<hi
   ·obtain⟨m,hm,_,e⟩:=hRK y cy.1 cy.2
    obtain⟨z,z1,z2,ez⟩:=hmid m hm
    rw[e,ez]
    exact hL x z h1 cx (by omega) (by omega)
   ·rw[By (hout y (by omega))]
    exact hL x y h1 cx h2 h3
  ·by_cases cx2:x<hi
   ·obtain⟨m,hm,hm2,e⟩:=hRK x (by omega) cx2
    rw[e]
    by_cases cy:y<hi
    ·obtain⟨m',hm',hm2',e'⟩:=hRK y (by omega) cy
     rw[e']
     by_cases exy:x=y
     ·subst exy
      rw[hm2] at hm2'
      cases hm2'
      exact gE _
     ·have hl:y-lo<merged.toList.length:=by omega
      have hl':x-lo<merged.toList.length:=by omega
      have:=fk.mp srt (x-lo) (y-lo) hl' hl (by omega)
      rw[di hl'] at hm2
      rw[di hl] at hm2'
      cases hm2
      cases hm2'
      exact this
    ·rw[By (hout y (by omega))]
     obtain⟨z,z1,z2,ez⟩:=hmid m hm
     rw[ez]
     exact hR z y (by omega) (by omega) (by omega) h3
   ·rw[By (hout x (by omega)),By (hout y (by omega))]
    exact hR x y h1 h2 (by omega) h3
end SrtG
namespace SrtG
local macro_rules | `(tactic| omega) => `(tactic| first | lia | omega)
open PySem PyProof.Rows
variable{rk:Keyed→Int}
theorem FZ{arr:Array Keyed}{l h:Nat}(hh:h≤arr.size):(arr.extract l h).size=h-l:=by rw[Array.size_extract];omega
theorem Py{arr:Array Keyed}{l h x:Nat}(hx:x<h-l)(hh:h≤arr.size):(arr.extract l h)[x]?=arr[l+x]?:=by
 rw[←dY,fc,eG,kv,if_pos hx,gm,dY]
theorem Hg{arr:Array Keyed}{l h x:Nat}(hx:x<h-l)(hh:h≤arr.size):RK rk (arr.extract l h) x=RK rk arr (l+x):=by unfold RK;rw[Py hx hh]
theorem AllU.ex{U:Keyed→Prop}{arr:Array Keyed}{l h:Nat}(u:AllU U arr)(hh:h≤arr.size):AllU U (arr.extract l h):=fun i p e=>by
 have hi:i< (arr.extract l h).size:=by
  apply fZ
  intro hn
  rw[Array.getElem?_eq_none (jJ hn)] at e
  cases e
 rw[FZ hh] at hi
 rw[Py hi hh] at e
 exact u _ _ e
theorem Seg.ex{arr:Array Keyed}{l h:Nat}(sg:Seg rk arr l h)(hh:h≤arr.size):Em rk (arr.extract l h):=fun i j hij hj=>by
 rw[FZ hh] at hj
 rw[Hg (by omega) hh,Hg hj hh]
 exact sg _ _ (by omega) (by omega) (by omega)
section
variable{prog:Program}{w:World}{A:dH}{E:Value→b6→Prop}{s:b6}{kd:jf}{U:Keyed→Prop}
theorem TH{st st':eO}{Q:PUnit→eO→Prop}(h:Q ⟨⟩ st'):wpS (model prog w) A E s (set st':StateT eO Sem PUnit) Q st:=by
 unfold wpS;rw[StateT.run_set];exact b7 ⟨rfl,h⟩
theorem KB{i sa na pa sb nb pb:Nat}{st:eO}{Q:Bool→eO→Prop}(C:Oy prog w A E s kd U rk)(hk:kindOf st=kd)(hU:AllU U (arrOf st))(hf:iT st=none)
  (h1:(pendingOf st)[i]?=some (sa,na,pa)) (h2:(pendingOf st)[i+1]?=some (sb,nb,pb)) (hsb:sb=sa+na) (hna:0<na) (hnb:0<nb) (hsz:sb+nb≤(arrOf st).size) (S1:Seg rk (arrOf st) sa sb) (S2:Seg rk (arrOf st) sb (sb+nb))
  (h:∀st',kindOf st'=kd→iT st'=none→pendingOf st'=((pendingOf st).setIfInBounds i (sa,na+nb,pa)).eraseIdxIfInBounds (i+1)→Upd rk (arrOf st) (arrOf st') sa (sb+nb)→Q true st'):
  wpS (model prog w) A E s (mergeAt' i) Q st:=by
 delta mergeAt'
 refine de (jy ?_)
 rw[h1,h2]
 dsimp only
 refine de (TH ?_)
 have hsbz:sb< (arrOf st).size:=by omega
 have uAt:∀{i} (hi:i< (arrOf st).size),U (arrOf st)[i]:=fun hi=>hU _ _ (getElem?_pos (arrOf st) _ hi)
 refine de (AI (arr:=arrOf st) hsbz ?_)
 refine de (BB (arr:=arrOf st) C hk (uAt hsbz) hU (by omega) hna ?_ ?_)
 ·intro p q hpq hq e
  unfold bt at e ⊢
  rw[if_neg dc] at e ⊢
  have e':=of_decide_eq_false (fT _|>.mp e)
  have:=S1 (sa+p) (sa+q) (by omega) (by omega) (by omega)
  exact(fT _).mpr (decide_eq_false (by omega))
 rintro k ⟨kn,kt,kf⟩
 have kt':∀x,sa≤x→x<sa+k→RK rk (arrOf st) x≤RK rk (arrOf st) sb:=fun x hx1 hx=>by
  have e:=kt (x-sa) (by omega)
  unfold bt at e
  rw[if_neg dc] at e
  have e':=of_decide_eq_false (fT _|>.mp e)
  have ex:sa+(x-sa)=x:=by omega
  rw[ex] at e'
  rw[Av hsbz]
  omega
 have kf':∀x,sa+k≤x→x<sb→RK rk (arrOf st) sb<RK rk (arrOf st) x:=fun x hx1 hx=>by
  have e:=kf (x-sa) (by omega) (by omega)
  unfold bt at e
  rw[if_neg dc] at e
  have e':=of_decide_eq_true (ky _|>.mp e)
  have ex:sa+(x-sa)=x:=by omega
  rw[ex] at e'
  rw[Av hsbz]
  omega
 dsimp only
 by_cases c1:na-k=0
 ·rw[if_pos (beq_iff_eq.mpr c1)]
  refine dg (h _ hk hf rfl ⟨jb.refl _,fun _ _=>rfl,fun x y hx1 hx2 hx3=>?_⟩)
  by_cases cy:y<sb
  ·exact S1 x y hx1 hx2 cy
  ·by_cases cx:x<sb
   ·have e1:=kt' x hx1 (by omega)
    have e2:=S2 sb y (by omega) (by omega) hx3
    exact hZ e1 e2
   ·exact S2 x y (by omega) hx2 hx3
 rw[if_neg (fun q=>c1 (beq_iff_eq.mp q))]
 have el:sa+k+(na-k)-1=sb-1:=by omega
 rw[el]
 have hlz:sb-1< (arrOf st).size:=by omega
 refine de (AI (arr:=arrOf st) hlz ?_)
 refine de (BB (arr:=arrOf st) C hk (uAt hlz) hU (by omega) (by omega) ?_ ?_)
 ·intro p q hpq hq e
  unfold bt at e ⊢
  rw[if_pos rfl] at e ⊢
  have e':=of_decide_eq_true e
  have:=S2 (sb+p) (sb+q) (by omega) (by omega) (by omega)
  exact decide_eq_true (by omega)
 rintro n2 ⟨nn,nt,nf⟩
 have nt':∀x,sb≤x→x<sb+n2→RK rk (arrOf st) x<RK rk (arrOf st) (sb-1):=fun x hx1 hx=>by
  have e:=nt (x-sb) (by omega)
  unfold bt at e
  rw[if_pos rfl] at e
  have e':=of_decide_eq_true e
  have ex:sb+(x-sb)=x:=by omega
  rw[ex] at e'
  rw[Av hlz]
  omega
 have nf':∀x,sb+n2≤x→x<sb+nb→RK rk (arrOf st) (sb-1)≤RK rk (arrOf st) x:=fun x hx1 hx=>by
  have e:=nf (x-sb) (by omega) (by omega)
  unfold bt at e
  rw[if_pos rfl] at e
  have e':=of_decide_eq_false e
  have ex:sb+(x-sb)=x:=by omega
  rw[ex] at e'
  rw[Av hlz]
  omega
 dsimp only
 have hlast:=kf' (sb-1) (by omega) (by omega)
 by_cases c2:n2=0
 ·have:=nf' sb (by omega) (by omega)
  omega
 rw[if_neg (fun q=>c2 (beq_iff_eq.mp q))]
 have hy:sb+n2≤(arrOf st).size:=by omega
 have hx':sb≤(arrOf st).size:=by omega
 have sA:Em rk ((arrOf st).extract (sa+k) sb):=Seg.ex (fun x y q1 q2 q3=>S1 x y (by omega) q2 q3) hx'
 have sB:Em rk ((arrOf st).extract sb (sb+n2)):=Seg.ex (fun x y q1 q2 q3=>S2 x y q1 q2 (by omega)) hy
 have zA:((arrOf st).extract (sa+k) sb).size=sb- (sa+k):=FZ hx'
 have zB:((arrOf st).extract sb (sb+n2)).size=sb+n2-sb:=FZ hy
 have q0:RK rk ((arrOf st).extract sb (sb+n2)) 0≤RK rk ((arrOf st).extract (sa+k) sb) 0:=by
  rw[Hg (by omega) hy,Hg (by omega) hx']
  have:=kf' (sa+k+0) (by omega) (by omega)
  exact iI this
 have q1:RK rk ((arrOf st).extract sb (sb+n2)) (((arrOf st).extract sb (sb+n2)).size-1)≤RK rk ((arrOf st).extract (sa+k) sb) (((arrOf st).extract (sa+k) sb).size-1):=by
  rw[zA,zB,Hg (by omega) hy,Hg (by omega) hx']
  have:=nt' (sb+(sb+n2-sb-1)) (by omega) (by omega)
  have e:sa+k+(sb- (sa+k)-1)=sb-1:=by omega
  rw[e]
  exact iI this
 have fin:∀r (st':eO),Like (kl st (((pendingOf st).setIfInBounds i (sa,na+nb,pa)).eraseIdxIfInBounds (i+1))) st'→Fin2 rk ((arrOf st).extract (sa+k) sb) ((arrOf st).extract sb (sb+n2)) r→
   wpS (model prog w) A E s (do
    modify fun z=>setArr z (back r.toList.zipIdx (sa+k) (arrOf z))
    return(iT (←get)).isNone) Q st':=fun r st' lk f=>by
  refine de (iV ?_)
  refine de (jy ?_)
  have e:(iT st').isNone=true:=by rw[lk.fl];show(iT st).isNone=true;rw[hf];rfl
  show wpS _ _ _ _ (pure ((iT st').isNone)) _ _
  rw[e]
  refine dg (h _ (lk.kd.trans hk) (lk.fl.trans hf) lk.pd ?_)
  have ea:arrOf st'=arrOf st:=lk.arr
  show Upd rk (arrOf st) (back r.toList.zipIdx (sa+k) (arrOf st')) sa (sb+nb)
  rw[ea]
  refine Px (hi:=sb+n2) (by omega) (by omega) (by omega) hsz ?_ f.srt ?_ ?_
  ·have e2:((arrOf st).extract (sa+k) (sb+n2)).toList=((arrOf st).extract (sa+k) sb).toList++((arrOf st).extract sb (sb+n2)).toList:=by
    rw[fc,fc,fc,eG,eG,eG]
    have e3:sb+n2- (sa+k)=(sb- (sa+k))+(sb+n2-sb):=by omega
    rw[e3,List.take_add,List.drop_drop]
    have e4:sa+k+(sb- (sa+k))=sb:=by omega
    rw[e4]
   rw[e2]
   exact f.perm
  ·intro x z hx1 hx2 hx3 hx4
   by_cases cz:z<sb
   ·exact S1 x z hx1 hx3 cz
   ·have e1:=kt' x hx1 hx2
    have e2:=S2 sb z (by omega) (by omega) hx4
    exact hZ e1 e2
  ·intro z y hx1 hx2 hx3 hx4
   by_cases cz:z<sb
   ·have e1:=S1 z (sb-1) hx1 (by omega) (by omega)
    exact hZ e1 (nf' y hx3 hx4)
   ·exact S2 z y (by omega) hx2 hx4
 by_cases c3:na-k≤n2
 ·rw[if_pos c3]
  exact de (Jy (a:=(arrOf st).extract (sa+k) sb) (b:=(arrOf st).extract sb (sb+n2)) C hk (hU.ex hx') (hU.ex hy) sA sB (by omega) (by omega) q0 q1 fin)
 ·rw[if_neg c3]
  exact de (KA (a:=(arrOf st).extract (sa+k) sb) (b:=(arrOf st).extract sb (sb+n2)) C hk (hU.ex hx') (hU.ex hy) sA sB (by omega) (by omega) q0 q1 fin)
end
end SrtG
namespace SrtG
open PySem PyProof.Rows
variable{rk:Keyed→Int}
structure Kp(st0 st:eO)(lo hi:Nat):Prop where
 kd:kindOf st=kindOf st0
 pd:pendingOf st=pendingOf st0
 fl:iT st=iT st0
 perm:(arrOf st).toList.Perm (arrOf st0).toList
 out:∀x,x<lo∨hi≤x→(arrOf st)[x]?=(arrOf st0)[x]?
theorem Kp.refl(st:eO)(lo hi:Nat):Kp st st lo hi:=⟨rfl,rfl,rfl,jb.refl _,fun _ _=>rfl⟩
theorem Kp.size{st0 st:eO}{lo hi:Nat}(k:Kp st0 st lo hi):(arrOf st).size=(arrOf st0).size:=by
 rw[←dr,←dr];exact k.perm.length_eq
theorem AllU.of_perm{U:Keyed→Prop}{a b:Array Keyed}(u:AllU U a)(p:b.toList.Perm a.toList):AllU U b:=fun i q e=>by
 have hm:q∈b.toList:=by rw[←dY] at e;exact dj e
 have hm':=p.mem_iff.mp hm
 obtain⟨j,hj⟩:=List.mem_iff_getElem?.mp hm'
 rw[dY] at hj
 exact u j q hj
theorem Kp.setA{st0 st:eO}{lo hi:Nat}(k:Kp st0 st lo hi){xs:Array Keyed}(hp:xs.toList.Perm (arrOf st).toList)(ho:∀x,x<lo∨hi≤x→xs[x]?=(arrOf st)[x]?):Kp st0 (setArr st xs) lo hi:=
 ⟨k.kd,k.pd,k.fl,hp.trans k.perm,fun x hx=> (ho x hx).trans (k.out x hx)⟩
theorem DA{xs ys:Array Keyed}{i j:Nat}(h:xs[i]?=ys[j]?):RK rk xs i=RK rk ys j:=by unfold RK;rw[h]
theorem Hi{xs:Array Keyed}{src d:Nat}(hs:src<xs.size)(hd:d≤src)(k:Nat):RK rk (bubble xs src d) k=if k=src-d then RK rk xs src else if src-d<k∧k≤src then RK rk xs (k-1) else RK rk xs k:=by
 have e:=getElem?_bubble hs d hd k
 by_cases c1:k=src-d
 ·rw[if_pos c1] at e ⊢;exact DA e
 ·rw[if_neg c1] at e ⊢
  by_cases c2:src-d<k∧k≤src
  ·rw[if_pos c2] at e ⊢;exact DA e
  ·rw[if_neg c2] at e ⊢;exact DA e
section
variable{prog:Program}{w:World}{A:dH}{E:Value→b6→Prop}{s:b6}{kd:jf}{U:Keyed→Prop}
theorem BK{st:eO}{i j:Nat}{Q:Option Bool→eO→Prop}(C:Oy prog w A E s kd U rk)(hk:kindOf st=kd)(hU:AllU U (arrOf st))(hi:i< (arrOf st).size)(hj:j< (arrOf st).size)
  (h:Q (some (decide (RK rk (arrOf st) i<RK rk (arrOf st) j))) st):wpS (model prog w) A E s (ltAt' i j) Q st:=by
 rw[ltAt'_eq]
 refine de (jy ?_)
 refine de (AI hi ?_)
 refine de (AI hj ?_)
 rw[Av hi,Av hj] at h
 exact C _ _ _ _ hk (hU _ _ (getElem?_pos (arrOf st) _ hi)) (hU _ _ (getElem?_pos (arrOf st) _ hj)) h
theorem LY{st:eO}{lo n ok:Nat}{Q:Bool→eO→Prop}(C:Oy prog w A E s kd U rk)(hk:kindOf st=kd)(hU:AllU U (arrOf st))(hn:lo+n≤(arrOf st).size)(hok:ok≤n)(hs:Seg rk (arrOf st) lo (lo+ok))
  (h:∀st',Kp st st' lo (lo+n)→Seg rk (arrOf st') lo (lo+n)→Q true st'):wpS (model prog w) A E s (binarySort' lo n ok) Q st:=by
 rw[binarySort'_eq]
 refine de (fX (eW (I:=fun k c st'=>c=(none,())∧Kp st st' lo (lo+n)∧Seg rk (arrOf st') lo (lo+min k n))
  (Q:=fun c st'=>c=(none,())∧Kp st st' lo (lo+n)∧Seg rk (arrOf st') lo (lo+n)) ?step ?fin ?init) ?post)
 case post=>
  rintro c st' ⟨rfl,hB',hs'⟩
  exact dg (h st' hB' hs')
 case init=>
  refine⟨rfl,Kp.refl _ _ _,fun i j hi hij hj=>?_⟩
  by_cases c1:ok=0
  ·have:i=j:=by omega
   subst this;exact gE _
  ·exact hs i j hi hij (by omega)
 case fin=>
  rintro c st' ⟨hc,hB',hs'⟩
  refine⟨hc,hB',?_⟩
  have e:min (max (max ok 1) n) n=n:=by omega
  rwa[e] at hs'
 case step=>
  rintro k c st' hak hkn ⟨rfl,hB',hs'⟩
  have e:min k n=k:=by omega
  rw[e] at hs'
  have hz:=hB'.size
  have hks:lo+k< (arrOf st').size:=by omega
  have hU':=hU.of_perm hB'.perm
  refine de (fX (eW (I:=fun x c st''=>st''=st'∧∃l r,c=(none,l,r)∧l≤r∧r≤k∧r-l≤k-x∧
    (∀i,i<l→RK rk (arrOf st') (lo+i)≤RK rk (arrOf st') (lo+k))∧(∀i,r≤i→i<k→RK rk (arrOf st') (lo+k)<RK rk (arrOf st') (lo+i)))
   (Q:=fun c st''=>st''=st'∧∃l r,c=(none,l,r)∧l≤k∧
    (∀i,i<l→RK rk (arrOf st') (lo+i)≤RK rk (arrOf st') (lo+k))∧(∀i,l≤i→i<k→RK rk (arrOf st') (lo+k)<RK rk (arrOf st') (lo+i))) ?istep ?ifin ?iinit) ?ipost)
  case iinit=>exact⟨rfl,0,k,rfl,by omega,by omega,by omega,fun i hi=>by omega,fun i h1 h2=>by omega⟩
  case ifin=>
   rintro c st'' ⟨rfl,l,r,rfl,hlr,hrk,hm,hlo,hhi⟩
   have:l=r:=by omega
   subst this
   exact⟨rfl,l,l,rfl,hrk,hlo,hhi⟩
  case istep=>
   rintro x c st'' _ hxk ⟨rfl,l,r,rfl,hlr,hrk,hm,hlo,hhi⟩
   dsimp only
   by_cases hge:l≥r
   ·rw[if_pos hge]
    have:l=r:=by omega
    subst this
    exact dg ⟨rfl,l,l,rfl,hrk,hlo,hhi⟩
   ·rw[if_neg hge]
    refine de (BK C (hB'.kd.trans hk) hU' hks (by omega) ?_)
    dsimp only
    by_cases hless:RK rk (arrOf st'') (lo+k)<RK rk (arrOf st'') (lo+(l+r)/2)
    ·rw[if_pos (decide_eq_true hless)]
     refine dg ⟨rfl,l,(l+r)/2,rfl,by omega,by omega,by omega,hlo,fun i q1 q2=>?_⟩
     exact Int.lt_of_lt_of_le hless (hs' _ _ (by omega) (by omega) (by omega))
    ·rw[if_neg (fun q=>hless (of_decide_eq_true q))]
     refine dg ⟨rfl,(l+r)/2+1,r,rfl,by omega,by omega,by omega,fun i q1=>?_,hhi⟩
     exact hZ (hs' (lo+i) (lo+(l+r)/2) (by omega) (by omega) (by omega)) (Int.not_lt.mp hless)
  case ipost=>
   rintro c st'' ⟨rfl,l,r,rfl,hlk,hlo,hhi⟩
   show wpS _ _ _ _ (do moveDown' (lo+k) (lo+l);pure (gF (none,()))) _ _
   rw[moveDown'_eq]
   have ed:lo+k- (lo+l)=k-l:=by omega
   refine de (iV (dg ⟨rfl,hB'.setA (Array.perm_iff_toList_perm.mp (bubble_perm _ _ _)) ?_,?_⟩))
   ·intro x hx
    rw[ed,getElem?_bubble hks _ (by omega),if_neg (by omega),if_neg (by omega)]
   have e2:lo+min (k+1) n=lo+k+1:=by omega
   rw[e2]
   intro i j hi hij hj
   show RK rk (bubble (arrOf st'') (lo+k) (lo+k- (lo+l))) i≤RK rk (bubble (arrOf st'') (lo+k) (lo+k- (lo+l))) j
   rw[ed,Hi hks (by omega),Hi hks (by omega)]
   have e3:lo+k- (k-l)=lo+l:=by omega
   rw[e3]
   have hlo':∀i,lo≤i→i<lo+l→RK rk (arrOf st'') i≤RK rk (arrOf st'') (lo+k):=fun i q1 q2=>by
    have:=hlo (i-lo) (by omega)
    have e4:lo+(i-lo)=i:=by omega
    rwa[e4] at this
   have hhi':∀i,lo+l≤i→i<lo+k→RK rk (arrOf st'') (lo+k)≤RK rk (arrOf st'') i:=fun i q1 q2=>by
    have:=hhi (i-lo) (by omega) (by omega)
    have e4:lo+(i-lo)=i:=by omega
    rw[e4] at this
    exact iI this
   repeat' split
   all_goals first
    | (exfalso;omega)
    |exact gE _
    |exact hlo' _ (by omega) (by omega)
    |exact hhi' _ (by omega) (by omega)
    |exact hs' _ _ (by omega) (by omega) (by omega)
end
local macro_rules | `(tactic| omega) => `(tactic| first | lia | omega)
open PySem PyProof.Rows
variable{rk:Keyed→Int}
def Dsc(rk:Keyed→Int)(arr:Array Keyed)(lo hi:Nat):Prop:=∀x y,lo≤x→x≤y→y<hi→RK rk arr y≤RK rk arr x
theorem OO{xs:Array Keyed}{i j:Nat}(hj:j≤xs.size)(k:Nat):RK rk (mirror xs i j ((j-i)/2)) k=if i≤k∧k<j then RK rk xs (i+j-1-k) else RK rk xs k:=by
 have e:=getElem?_mirror_all (i:=i) hj k
 by_cases c1:i≤k∧k<j
 ·rw[if_pos c1] at e ⊢;exact DA e
 ·rw[if_neg c1] at e ⊢;exact DA e
section
variable{prog:Program}{w:World}{A:dH}{E:Value→b6→Prop}{s:b6}{kd:jf}{U:Keyed→Prop}
theorem Dz{st0 st:eO}{lo hi i j:Nat}{Q:Unit→eO→Prop}(k:Kp st0 st lo hi)(h1:lo≤i)(h2:j≤hi)(hj:j≤(arrOf st).size)
  (h:∀st',Kp st0 st' lo hi→(∀k,RK rk (arrOf st') k=if i≤k∧k<j then RK rk (arrOf st) (i+j-1-k) else RK rk (arrOf st) k)→Q () st'):wpS (model prog w) A E s (reverseSlice' i j) Q st:=by
 rw[reverseSlice'_eq]
 refine iV (h _ (k.setA (Array.perm_iff_toList_perm.mp (mirror_perm _ _ _ _)) fun x hx=>?_) fun k=>OO hj k)
 rw[getElem?_mirror_all hj,if_neg (by omega)]
theorem DB{st0 st:eO}{lo hi i j:Nat}{Q:Unit→eO→Prop}(k:Kp st0 st lo hi)(h1:lo≤i)(h2:j≤hi)(hj:j≤(arrOf st).size)(heq:∀k,i≤k→k<j→RK rk (arrOf st) k=RK rk (arrOf st) (j-1))
  (h:∀st',Kp st0 st' lo hi→(∀k,RK rk (arrOf st') k=RK rk (arrOf st) k)→Q () st'):wpS (model prog w) A E s (reverseSlice' i j) Q st:=by
 refine Dz (rk:=rk) k h1 h2 hj fun st' k' e=>h st' k' fun x=>?_
 rw[e x]
 split
 ·rw[heq _ (by omega) (by omega),heq x (by omega) (by omega)]
 ·rfl
theorem Seg.up{arr:Array Keyed}{lo n:Nat}(sg:Seg rk arr lo (lo+n))(h1:1≤n)(hx:¬RK rk arr (lo+n)<RK rk arr (lo+n-1)):Seg rk arr lo (lo+(n+1)):=fun i j hi hij hj=>by
 by_cases c:j<lo+n
 ·exact sg i j hi hij c
 ·have e:j=lo+n:=by omega
  subst e
  by_cases c2:i=lo+n
  ·subst c2;exact gE _
  ·exact hZ (sg i (lo+n-1) hi (by omega) (by omega)) (Int.not_lt.mp hx)
theorem Dsc.up{arr arr':Array Keyed}{lo n:Nat}(sg:Dsc rk arr lo (lo+n))(h1:1≤n)(hx:RK rk arr (lo+n)≤RK rk arr (lo+n-1))(he:∀k,RK rk arr' k=RK rk arr k):Dsc rk arr' lo (lo+(n+1)):=fun i j hi hij hj=>by
 rw[he,he]
 by_cases c:j<lo+n
 ·exact sg i j hi hij c
 ·have e:j=lo+n:=by omega
  subst e
  by_cases c2:i=lo+n
  ·subst c2;exact gE _
  ·exact hZ hx (sg i (lo+n-1) hi (by omega) (by omega))
theorem LZ{st:eO}{lo nrem:Nat}{Q:Option Nat→eO→Prop}(C:Oy prog w A E s kd U rk)(hk:kindOf st=kd)(hU:AllU U (arrOf st))(hn:lo+nrem≤(arrOf st).size)(h1:1≤nrem)
  (h:∀m st',Kp st st' lo (lo+nrem)→1≤m→m≤nrem→Seg rk (arrOf st') lo (lo+m)→Q (some m) st'):
  wpS (model prog w) A E s (countRun' lo nrem) Q st:=by
 rw[countRun'_eq]
 refine de (fX (eW (I:=fun x c st'=>st'=st∧c=(none,x)∧Seg rk (arrOf st) lo (lo+x))
  (Q:=fun c st'=>st'=st∧∃n,c=(none,n)∧1≤n∧n≤nrem∧Seg rk (arrOf st) lo (lo+n)∧(n=nrem∨RK rk (arrOf st) (lo+n)<RK rk (arrOf st) (lo+n-1))) ?step ?fin ⟨rfl,rfl,fun i j hi hij hj=>by have:i=j:=(by omega);subst this;exact gE _⟩) ?post)
 case fin=>
  rintro c st' ⟨rfl,rfl,hs'⟩
  have e:max 1 nrem=nrem:=by omega
  rw[e] at hs' ⊢
  exact⟨rfl,nrem,rfl,h1,dm _,hs',.inl rfl⟩
 case step=>
  rintro x c st' hax hxn ⟨rfl,rfl,hs'⟩
  dsimp only
  refine de (BK C hk hU (by omega) (by omega) ?_)
  dsimp only
  by_cases hless:RK rk (arrOf st') (lo+x)<RK rk (arrOf st') (lo+x-1)
  ·rw[if_pos (decide_eq_true hless)]
   exact dg ⟨rfl,x,rfl,hax,by omega,hs',.inr hless⟩
  ·rw[if_neg (fun q=>hless (of_decide_eq_true q))]
   exact dg ⟨rfl,rfl,hs'.up hax hless⟩
 case post=>
  rintro c st' ⟨rfl,n,rfl,hn1,hn2,hsn,hor⟩
  dsimp only
  by_cases hnn:n=nrem
  ·rw[if_pos (beq_iff_eq.mpr hnn)]
   exact dg (h n _ (Kp.refl _ _ _) hn1 hn2 hsn)
  rw[if_neg (fun q=>hnn (beq_iff_eq.mp q))]
  have hlt:=hor.resolve_left hnn
  by_cases hgt:n>1
  ·rw[if_pos hgt]
   refine de (BK C hk hU (by omega) (by omega) ?_)
   dsimp only
   by_cases hrose:RK rk (arrOf st') lo<RK rk (arrOf st') (lo+n-1)
   ·rw[if_pos (decide_eq_true hrose)]
    exact dg (h n _ (Kp.refl _ _ _) hn1 hn2 hsn)
   rw[if_neg (fun q=>hrose (of_decide_eq_true q))]
   have hall:∀k,lo≤k→k<lo+n→RK rk (arrOf st') k=RK rk (arrOf st') (lo+n-1):=fun k q1 q2=>by
    have a1:=hsn lo k (by omega) q1 q2
    have a2:=hsn k (lo+n-1) q1 (by omega) (by omega)
    omega
   refine de (DB (rk:=rk) (Kp.refl st' lo (lo+nrem)) (dm _) (by omega) (by omega) hall fun st2 kp hRK=>?_)
   have hd:Dsc rk (arrOf st2) lo (lo+(n+1)):=Dsc.up (arr:=arrOf st') (fun i j q1 q2 q3=>by rw[hall i q1 (by omega),hall j (by omega) q3];exact gE _) hn1 (iI hlt) hRK
   refine de (kh (iW ⟨rfl,?_⟩))
   refine de (fX (eW (I:=fun x c st3=>∃neq,c=(none,x,neq)∧Kp st' st3 lo (lo+nrem)∧Dsc rk (arrOf st3) lo (lo+x)∧neq+1≤x∧(∀i,lo+x- (neq+1)≤i→i<lo+x→RK rk (arrOf st3) i=RK rk (arrOf st3) (lo+x-1)))
    (Q:=fun c st3=>∃m neq,c=(none,m,neq)∧Kp st' st3 lo (lo+nrem)∧n+1≤m∧m≤nrem∧Dsc rk (arrOf st3) lo (lo+m)∧neq+1≤m∧(∀i,lo+m- (neq+1)≤i→i<lo+m→RK rk (arrOf st3) i=RK rk (arrOf st3) (lo+m-1))) ?_ ?_ ⟨0,rfl,kp,hd,by omega,fun i q1 q2=>by congr 1;omega⟩) ?_)
   ·rintro x c st3 hax hxn ⟨neq,rfl,kp,hd,hq,he⟩
    have hz:=kp.size
    have hU3:=hU.of_perm kp.perm
    dsimp only
    refine de (BK C (kp.kd.trans hk) hU3 (by omega) (by omega) ?_)
    dsimp only
    by_cases hless:RK rk (arrOf st3) (lo+x)<RK rk (arrOf st3) (lo+x-1)
    ·rw[if_pos (decide_eq_true hless)]
     by_cases hneq:neq>0
     ·rw[if_pos hneq]
      refine de (DB (rk:=rk) kp (by omega) (by omega) (by omega) he fun st4 kp4 hRK=>?_)
      exact dg ⟨0,rfl,kp4,hd.up (by omega) (iI hless) hRK,by omega,fun i q1 q2=>by congr 1;omega⟩
     ·rw[if_neg hneq]
      exact dg ⟨0,rfl,kp,hd.up (by omega) (iI hless) fun _=>rfl,by omega,fun i q1 q2=>by congr 1;omega⟩
    ·rw[if_neg (fun q=>hless (of_decide_eq_true q))]
     refine de (BK C (kp.kd.trans hk) hU3 (by omega) (by omega) ?_)
     dsimp only
     by_cases hlarger:RK rk (arrOf st3) (lo+x-1)<RK rk (arrOf st3) (lo+x)
     ·rw[if_pos (decide_eq_true hlarger)]
      exact dg ⟨x,neq,rfl,kp,hax,by omega,hd,hq,he⟩
     ·rw[if_neg (fun q=>hlarger (of_decide_eq_true q))]
      have heqx:RK rk (arrOf st3) (lo+x)=RK rk (arrOf st3) (lo+x-1):=by omega
      refine dg ⟨neq+1,rfl,kp,hd.up (by omega) (by omega) fun _=>rfl,by omega,fun i q1 q2=>?_⟩
      have e1:lo+(x+1)-1=lo+x:=by omega
      rw[e1]
      by_cases hix:i=lo+x
      ·rw[hix]
      ·rw[heqx];exact he i (by omega) (by omega)
   ·rintro c st3 ⟨neq,rfl,kp,hd,hq,he⟩
    have e:max (n+1) nrem=nrem:=by omega
    rw[e] at hd hq he ⊢
    exact⟨nrem,neq,rfl,kp,by omega,dm _,hd,hq,he⟩
   rintro c st3 ⟨m,neq,rfl,kp,hm1,hm2,hd,hq,he⟩
   have hz:=kp.size
   dsimp only
   have rest:∀(st4:eO),Kp st' st4 lo (lo+nrem)→Dsc rk (arrOf st4) lo (lo+m)→∀st5,Kp st' st5 lo (lo+nrem)→(∀k,RK rk (arrOf st5) k=if lo≤k∧k<lo+m then RK rk (arrOf st4) (lo+(lo+m)-1-k) else RK rk (arrOf st4) k)→Seg rk (arrOf st5) lo (lo+m):=fun st4 _ d4 st5 _ e5 i j q1 q2 q3=>by
    rw[e5,e5,if_pos (by omega),if_pos (by omega)]
    exact d4 _ _ (by omega) (by omega) (by omega)
   by_cases hneq:neq>0
   ·rw[if_pos hneq]
    refine de (DB (rk:=rk) kp (by omega) (by omega) (by omega) he fun st4 kp4 hRK=>?_)
    have d4:Dsc rk (arrOf st4) lo (lo+m):=fun i j q1 q2 q3=>by rw[hRK,hRK];exact hd i j q1 q2 q3
    have hz4:=kp4.size
    refine de (Dz (rk:=rk) kp4 (dm _) (by omega) (by omega) fun st5 kp5 e5=>?_)
    have s5:=rest _ kp4 d4 st5 kp5 e5
    have hz5:=kp5.size
    have hU5:=hU.of_perm kp5.perm
    refine de (fX (eW (I:=fun x c st6=>st6=st5∧c=(none,x)∧Seg rk (arrOf st5) lo (lo+x))
     (Q:=fun c st6=>st6=st5∧∃n,c=(none,n)∧1≤n∧n≤nrem∧Seg rk (arrOf st5) lo (lo+n)) ?_ ?_ ⟨rfl,rfl,s5⟩) ?_)
    ·rintro x c st6 hax hxn ⟨rfl,rfl,hs'⟩
     dsimp only
     refine de (BK C (kp5.kd.trans hk) hU5 (by omega) (by omega) ?_)
     dsimp only
     by_cases hless:RK rk (arrOf st6) (lo+x)<RK rk (arrOf st6) (lo+x-1)
     ·rw[if_pos (decide_eq_true hless)]
      exact dg ⟨rfl,x,rfl,by omega,by omega,hs'⟩
     ·rw[if_neg (fun q=>hless (of_decide_eq_true q))]
      exact dg ⟨rfl,rfl,hs'.up (by omega) hless⟩
    ·rintro c st6 ⟨rfl,rfl,hs'⟩
     have e:max m nrem=nrem:=by omega
     rw[e] at hs' ⊢
     exact⟨rfl,nrem,rfl,h1,dm _,hs'⟩
    rintro c st6 ⟨rfl,n5,rfl,q1,q2,q3⟩
    exact dg (h n5 _ kp5 q1 q2 q3)
   ·rw[if_neg hneq]
    have kp4:=kp
    have d4:=hd
    have hz4:=hz
    refine de (Dz (rk:=rk) kp4 (dm _) (by omega) (by omega) fun st5 kp5 e5=>?_)
    have s5:=rest _ kp4 d4 st5 kp5 e5
    have hz5:=kp5.size
    have hU5:=hU.of_perm kp5.perm
    refine de (fX (eW (I:=fun x c st6=>st6=st5∧c=(none,x)∧Seg rk (arrOf st5) lo (lo+x))
     (Q:=fun c st6=>st6=st5∧∃n,c=(none,n)∧1≤n∧n≤nrem∧Seg rk (arrOf st5) lo (lo+n)) ?_ ?_ ⟨rfl,rfl,s5⟩) ?_)
    ·rintro x c st6 hax hxn ⟨rfl,rfl,hs'⟩
     dsimp only
     refine de (BK C (kp5.kd.trans hk) hU5 (by omega) (by omega) ?_)
     dsimp only
     by_cases hless:RK rk (arrOf st6) (lo+x)<RK rk (arrOf st6) (lo+x-1)
     ·rw[if_pos (decide_eq_true hless)]
      exact dg ⟨rfl,x,rfl,by omega,by omega,hs'⟩
     ·rw[if_neg (fun q=>hless (of_decide_eq_true q))]
      exact dg ⟨rfl,rfl,hs'.up (by omega) hless⟩
    ·rintro c st6 ⟨rfl,rfl,hs'⟩
     have e:max m nrem=nrem:=by omega
     rw[e] at hs' ⊢
     exact⟨rfl,nrem,rfl,h1,dm _,hs'⟩
    rintro c st6 ⟨rfl,n5,rfl,q1,q2,q3⟩
    exact dg (h n5 _ kp5 q1 q2 q3)
  ·rw[if_neg hgt]
   have hd:Dsc rk (arrOf st') lo (lo+(n+1)):=Dsc.up (arr:=arrOf st') (fun i j q1 q2 q3=>by have:i=j:=(by omega);subst this;exact gE _) hn1 (iI hlt) fun _=>rfl
   have kp:=Kp.refl st' lo (lo+nrem)
   refine de (kh (iW ⟨rfl,?_⟩))
   refine de (fX (eW (I:=fun x c st3=>∃neq,c=(none,x,neq)∧Kp st' st3 lo (lo+nrem)∧Dsc rk (arrOf st3) lo (lo+x)∧neq+1≤x∧(∀i,lo+x- (neq+1)≤i→i<lo+x→RK rk (arrOf st3) i=RK rk (arrOf st3) (lo+x-1)))
    (Q:=fun c st3=>∃m neq,c=(none,m,neq)∧Kp st' st3 lo (lo+nrem)∧n+1≤m∧m≤nrem∧Dsc rk (arrOf st3) lo (lo+m)∧neq+1≤m∧(∀i,lo+m- (neq+1)≤i→i<lo+m→RK rk (arrOf st3) i=RK rk (arrOf st3) (lo+m-1))) ?_ ?_ ⟨0,rfl,kp,hd,by omega,fun i q1 q2=>by congr 1;omega⟩) ?_)
   ·rintro x c st3 hax hxn ⟨neq,rfl,kp,hd,hq,he⟩
    have hz:=kp.size
    have hU3:=hU.of_perm kp.perm
    dsimp only
    refine de (BK C (kp.kd.trans hk) hU3 (by omega) (by omega) ?_)
    dsimp only
    by_cases hless:RK rk (arrOf st3) (lo+x)<RK rk (arrOf st3) (lo+x-1)
    ·rw[if_pos (decide_eq_true hless)]
     by_cases hneq:neq>0
     ·rw[if_pos hneq]
      refine de (DB (rk:=rk) kp (by omega) (by omega) (by omega) he fun st4 kp4 hRK=>?_)
      exact dg ⟨0,rfl,kp4,hd.up (by omega) (iI hless) hRK,by omega,fun i q1 q2=>by congr 1;omega⟩
     ·rw[if_neg hneq]
      exact dg ⟨0,rfl,kp,hd.up (by omega) (iI hless) fun _=>rfl,by omega,fun i q1 q2=>by congr 1;omega⟩
    ·rw[if_neg (fun q=>hless (of_decide_eq_true q))]
     refine de (BK C (kp.kd.trans hk) hU3 (by omega) (by omega) ?_)
     dsimp only
     by_cases hlarger:RK rk (arrOf st3) (lo+x-1)<RK rk (arrOf st3) (lo+x)
     ·rw[if_pos (decide_eq_true hlarger)]
      exact dg ⟨x,neq,rfl,kp,hax,by omega,hd,hq,he⟩
     ·rw[if_neg (fun q=>hlarger (of_decide_eq_true q))]
      have heqx:RK rk (arrOf st3) (lo+x)=RK rk (arrOf st3) (lo+x-1):=by omega
      refine dg ⟨neq+1,rfl,kp,hd.up (by omega) (by omega) fun _=>rfl,by omega,fun i q1 q2=>?_⟩
      have e1:lo+(x+1)-1=lo+x:=by omega
      rw[e1]
      by_cases hix:i=lo+x
      ·rw[hix]
      ·rw[heqx];exact he i (by omega) (by omega)
   ·rintro c st3 ⟨neq,rfl,kp,hd,hq,he⟩
    have e:max (n+1) nrem=nrem:=by omega
    rw[e] at hd hq he ⊢
    exact⟨nrem,neq,rfl,kp,by omega,dm _,hd,hq,he⟩
   rintro c st3 ⟨m,neq,rfl,kp,hm1,hm2,hd,hq,he⟩
   have hz:=kp.size
   dsimp only
   have rest:∀(st4:eO),Kp st' st4 lo (lo+nrem)→Dsc rk (arrOf st4) lo (lo+m)→∀st5,Kp st' st5 lo (lo+nrem)→(∀k,RK rk (arrOf st5) k=if lo≤k∧k<lo+m then RK rk (arrOf st4) (lo+(lo+m)-1-k) else RK rk (arrOf st4) k)→Seg rk (arrOf st5) lo (lo+m):=fun st4 _ d4 st5 _ e5 i j q1 q2 q3=>by
    rw[e5,e5,if_pos (by omega),if_pos (by omega)]
    exact d4 _ _ (by omega) (by omega) (by omega)
   by_cases hneq:neq>0
   ·rw[if_pos hneq]
    refine de (DB (rk:=rk) kp (by omega) (by omega) (by omega) he fun st4 kp4 hRK=>?_)
    have d4:Dsc rk (arrOf st4) lo (lo+m):=fun i j q1 q2 q3=>by rw[hRK,hRK];exact hd i j q1 q2 q3
    have hz4:=kp4.size
    refine de (Dz (rk:=rk) kp4 (dm _) (by omega) (by omega) fun st5 kp5 e5=>?_)
    have s5:=rest _ kp4 d4 st5 kp5 e5
    have hz5:=kp5.size
    have hU5:=hU.of_perm kp5.perm
    refine de (fX (eW (I:=fun x c st6=>st6=st5∧c=(none,x)∧Seg rk (arrOf st5) lo (lo+x))
     (Q:=fun c st6=>st6=st5∧∃n,c=(none,n)∧1≤n∧n≤nrem∧Seg rk (arrOf st5) lo (lo+n)) ?_ ?_ ⟨rfl,rfl,s5⟩) ?_)
    ·rintro x c st6 hax hxn ⟨rfl,rfl,hs'⟩
     dsimp only
     refine de (BK C (kp5.kd.trans hk) hU5 (by omega) (by omega) ?_)
     dsimp only
     by_cases hless:RK rk (arrOf st6) (lo+x)<RK rk (arrOf st6) (lo+x-1)
     ·rw[if_pos (decide_eq_true hless)]
      exact dg ⟨rfl,x,rfl,by omega,by omega,hs'⟩
     ·rw[if_neg (fun q=>hless (of_decide_eq_true q))]
      exact dg ⟨rfl,rfl,hs'.up (by omega) hless⟩
    ·rintro c st6 ⟨rfl,rfl,hs'⟩
     have e:max m nrem=nrem:=by omega
     rw[e] at hs' ⊢
     exact⟨rfl,nrem,rfl,h1,dm _,hs'⟩
    rintro c st6 ⟨rfl,n5,rfl,q1,q2,q3⟩
    exact dg (h n5 _ kp5 q1 q2 q3)
   ·rw[if_neg hneq]
    have kp4:=kp
    have d4:=hd
    have hz4:=hz
    refine de (Dz (rk:=rk) kp4 (dm _) (by omega) (by omega) fun st5 kp5 e5=>?_)
    have s5:=rest _ kp4 d4 st5 kp5 e5
    have hz5:=kp5.size
    have hU5:=hU.of_perm kp5.perm
    refine de (fX (eW (I:=fun x c st6=>st6=st5∧c=(none,x)∧Seg rk (arrOf st5) lo (lo+x))
     (Q:=fun c st6=>st6=st5∧∃n,c=(none,n)∧1≤n∧n≤nrem∧Seg rk (arrOf st5) lo (lo+n)) ?_ ?_ ⟨rfl,rfl,s5⟩) ?_)
    ·rintro x c st6 hax hxn ⟨rfl,rfl,hs'⟩
     dsimp only
     refine de (BK C (kp5.kd.trans hk) hU5 (by omega) (by omega) ?_)
     dsimp only
     by_cases hless:RK rk (arrOf st6) (lo+x)<RK rk (arrOf st6) (lo+x-1)
     ·rw[if_pos (decide_eq_true hless)]
      exact dg ⟨rfl,x,rfl,by omega,by omega,hs'⟩
     ·rw[if_neg (fun q=>hless (of_decide_eq_true q))]
      exact dg ⟨rfl,rfl,hs'.up (by omega) hless⟩
    ·rintro c st6 ⟨rfl,rfl,hs'⟩
     have e:max m nrem=nrem:=by omega
     rw[e] at hs' ⊢
     exact⟨rfl,nrem,rfl,h1,dm _,hs'⟩
    rintro c st6 ⟨rfl,n5,rfl,q1,q2,q3⟩
    exact dg (h n5 _ kp5 q1 q2 q3)
end
end SrtG
namespace SrtG
local macro_rules | `(tactic| omega) => `(tactic| first | lia | omega)
open PySem PyProof.Rows
variable{rk:Keyed→Int}
abbrev Pz:=Nat×Nat×Nat
def Cov(rk:Keyed→Int)(arr:Array Keyed):Nat→List Pz→Nat→Prop
 |a,[],hi=>a=hi
 |a,e::l,hi=>e.1=a∧0<e.2.1∧Seg rk arr a (a+e.2.1)∧Cov rk arr (a+e.2.1) l hi
theorem Cov.le{arr:Array Keyed}:∀{l:List Pz} {a hi:Nat},Cov rk arr a l hi→a+l.length≤hi
 | [],a,hi,h=>by have:a=hi:=h;simp only[gY];omega
 |e::l,a,hi,h=>by have:=Cov.le h.2.2.2;have:=h.2.1;rw[dA];omega
theorem Cov.app{arr:Array Keyed}:∀{l1:List Pz} {l2:List Pz} {a hi:Nat},Cov rk arr a (l1++l2) hi↔∃m,Cov rk arr a l1 m∧Cov rk arr m l2 hi
 | [],l2,a,hi=> ⟨fun h=> ⟨a,rfl,h⟩,fun⟨m,h1,h2⟩=>by have:a=m:=h1;subst this;exact h2⟩
 |e::l1,l2,a,hi=> ⟨fun⟨h1,h2,h3,h4⟩=>by
   obtain⟨m,q1,q2⟩:=Cov.app.mp h4
   exact⟨m,⟨h1,h2,h3,q1⟩,q2⟩,fun⟨m,⟨h1,h2,h3,h4⟩,q2⟩=> ⟨h1,h2,h3,Cov.app.mpr ⟨m,h4,q2⟩⟩⟩
theorem Cov.cong{arr arr':Array Keyed}:∀{l:List Pz} {a hi:Nat},(∀x,a≤x→x<hi→RK rk arr' x=RK rk arr x)→Cov rk arr a l hi→Cov rk arr' a l hi
 | [],_,_,_,h=>h
 |e::l,a,hi,hx,⟨h1,h2,h3,h4⟩=>by
  have hl:=h4.le
  exact⟨h1,h2,fun x y q1 q2 q3=>by rw[hx x q1 (by omega),hx y (by omega) (by omega)];exact h3 x y q1 q2 q3,h4.cong fun x q1 q2=>hx x (by omega) q2⟩
theorem Wg{p:Array Pz}{i:Nat}(h:i+1<p.size):∃l1 e1 e2 l2,p.toList=l1++e1::e2::l2∧l1.length=i∧p[i]?=some e1∧p[i+1]?=some e2:=by
 have hl:p.toList.length=p.size:=dr
 have h1:i<p.toList.length:=by omega
 have h2:i+1<p.toList.length:=by omega
 refine⟨p.toList.take i,p.toList[i],p.toList[i+1],p.toList.drop (i+2),?_,?_,?_,?_⟩
 ·rw[←fY h2,←fY h1,gI]
 ·rw[eH];omega
 ·rw[←dY];exact di h1
 ·rw[←dY];exact di h2
theorem Wh{p:Array Pz}{i:Nat}{e e1 e2:Pz}{l1 l2:List Pz}(hp:p.toList=l1++e1::e2::l2)(hl:l1.length=i):((p.setIfInBounds i e).eraseIdxIfInBounds (i+1)).toList=l1++e::l2:=by
 have hz:i+1<p.size:=by
  rw[←dr,hp,dz,dA,dA];omega
 have hz':i+1< (p.setIfInBounds i e).size:=by rw[Array.size_setIfInBounds];exact hz
 unfold Array.eraseIdxIfInBounds
 rw[dif_pos hz',Array.toList_eraseIdx,Array.toList_setIfInBounds,hp]
 subst hl
 rw[List.set_append_right _ _ (dm _),Nat.sub_self,List.set_cons_zero,List.eraseIdx_append_of_length_le (by omega)]
 have e:l1.length+1-l1.length=1:=by omega
 rw[e]
 rfl
structure Bs(kd:jf)(a₀:Array Keyed)(st:eO):Prop where
 kd:kindOf st=kd
 fl:iT st=none
 perm:(arrOf st).toList.Perm a₀.toList
theorem Bs.size{kd:jf}{a₀:Array Keyed}{st:eO}(b:Bs kd a₀ st):(arrOf st).size=a₀.size:=by
 rw[←dr,←dr];exact b.perm.length_eq
theorem Bs.kp{kd:jf}{a₀:Array Keyed}{st st':eO}{lo hi:Nat}(b:Bs kd a₀ st)(k:Kp st st' lo hi):Bs kd a₀ st':=⟨k.kd.trans b.kd,k.fl.trans b.fl,k.perm.trans b.perm⟩
section
variable{prog:Program}{w:World}{A:dH}{E:Value→b6→Prop}{s:b6}{kd:jf}{U:Keyed→Prop}{a₀:Array Keyed}
theorem Dk{i hi:Nat}{st:eO}{Q:Bool→eO→Prop}(C:Oy prog w A E s kd U rk)(hU:AllU U a₀)(b:Bs kd a₀ st)(hc:Cov rk (arrOf st) 0 (pendingOf st).toList hi)(hhi:hi≤a₀.size)(hi1:i+1< (pendingOf st).size)
  (h:∀st',Bs kd a₀ st'→Cov rk (arrOf st') 0 (pendingOf st').toList hi→(pendingOf st').size+1=(pendingOf st).size→(∀x,hi≤x→RK rk (arrOf st') x=RK rk (arrOf st) x)→Q true st'):wpS (model prog w) A E s (mergeAt' i) Q st:=by
 obtain⟨l1,⟨s1,n1,p1⟩,⟨s2,n2,p2⟩,l2,hp,hl,e1,e2⟩:=Wg hi1
 have hc0:=hc
 rw[hp] at hc0
 obtain⟨m,c1,q1,q2,q3,q4,q5,q6,q7⟩:=Cov.app.mp hc0
 dsimp only at q1 q2 q3 q4 q5 q6 q7
 subst q1
 have hle:=q7.le
 have hz:=b.size
 refine KB C b.kd (hU.of_perm b.perm) b.fl e1 e2 q4 q2 q5 (by omega) (by rw[q4];exact q3) (by rw[q4];exact q6) fun st' k1 k2 k3 u=>?_
 have hj:=Wh (e:=(s1,n1+n2,p1)) hp hl
 have c1le:=c1.le
 refine h st' ⟨k1,k2,u.perm.trans b.perm⟩ ?_ ?_ ?_
 ·rw[k3,hj]
  refine Cov.app.mpr ⟨s1,c1.cong fun x _ hx=>By (u.out x (.inl hx)),rfl,by show 0<n1+n2;omega,?_,?_⟩
  ·show Seg rk (arrOf st') s1 (s1+(n1+n2))
   have:=u.seg
   rw[q4,md] at this
   exact this
  ·show Cov rk (arrOf st') (s1+(n1+n2)) l2 hi
   rw[←md]
   exact q7.cong fun x hx _=>By (u.out x (.inr (by omega)))
 ·rw[←dr,←dr,k3,hj,hp,dz,dz,dA,dA,dA]
  omega
 ·intro x hx
  exact By (u.out x (.inr (by omega)))
end
end SrtG
namespace SrtG
local macro_rules | `(tactic| omega) => `(tactic| first | lia | omega)
open PySem PyProof.Rows
variable{rk:Keyed→Int}
theorem Cov.shape{arr:Array Keyed}:∀{l l':List Pz} {a hi:Nat},l'.map (fun e=> (e.1,e.2.1))=l.map (fun e=> (e.1,e.2.1))→Cov rk arr a l hi→Cov rk arr a l' hi
 | [],[],_,_,_,h=>h
 |e::l,e'::l',a,hi,hm,⟨h1,h2,h3,h4⟩=>by
  rw[dM,dM] at hm
  injection hm with hm1 hm2
  injection hm1 with q1 q2
  exact⟨q1.trans h1,by rw[q2];exact h2,by rw[q2];exact h3,by rw[q2];exact h4.shape hm2⟩
 | [],_::_,_,_,hm,_=>by cases hm
 |_::_,[],_,_,hm,_=>by cases hm
theorem Cov.power{arr:Array Keyed}{p:Array Pz}{i pw hi:Nat}(h:Cov rk arr 0 p.toList hi):Cov rk arr 0 (p.modify i fun e=> (e.1,e.2.1,pw)).toList hi:=by
 refine h.shape ?_
 apply fo
 intro j
 rw[b9,b9,dY,dY,Array.getElem?_modify]
 split
 ·cases p[j]?<;>rfl
 ·rfl
section
variable{prog:Program}{w:World}{A:dH}{E:Value→b6→Prop}{s:b6}{kd:jf}{U:Keyed→Prop}{a₀:Array Keyed}
theorem QA{st:eO}{Q:Unit→eO→Prop}(C:Oy prog w A E s kd U rk)(hU:AllU U a₀)(b:Bs kd a₀ st)(hp:pendingOf st= #[])
  (h:∀st',Bs kd a₀ st'→Em rk (arrOf st')→Q () st'):wpS (model prog w) A E s sortRuns' Q st:=by
 rw[sortRuns'_eq]
 refine de (jy ?_)
 dsimp only
 have hz:=b.size
 refine de (fX (eW
  (I:=fun x c st'=>∃lo,c=(none,lo)∧x≤lo∧lo≤(arrOf st).size∧Bs kd a₀ st'∧Cov rk (arrOf st') 0 (pendingOf st').toList lo)
  (Q:=fun c st'=>c.1=none∧Bs kd a₀ st'∧Cov rk (arrOf st') 0 (pendingOf st').toList (arrOf st).size) ?step ?fin ⟨0,rfl,dm _,fb _,b,by rw[hp];rfl⟩) ?post)
 case fin=>
  rintro c st' ⟨lo,rfl,h1,h2,bs,cv⟩
  have e:lo=(arrOf st).size:=by omega
  subst e
  exact⟨rfl,bs,cv⟩
 case step=>
  rintro x c st1 _ hx ⟨lo,rfl,h1,h2,bs,cv⟩
  dsimp only
  have hz1:=bs.size
  by_cases cl:lo≥(arrOf st).size
  ·rw[if_pos cl]
   have e:lo=(arrOf st).size:=by omega
   subst e
   exact dg ⟨rfl,bs,cv⟩
  rw[if_neg cl]
  have nextOf:∀(st3:eO) (n:Nat),Bs kd a₀ st3→Cov rk (arrOf st3) 0 (pendingOf st3).toList lo→0<n→lo+n≤(arrOf st).size→Seg rk (arrOf st3) lo (lo+n)→∀{c:Option PUnit×Nat},c=(none,lo+n)→∃lo',c=(none,lo')∧x+1≤lo'∧lo'≤(arrOf st).size∧Bs kd a₀ (kl st3 ((pendingOf st3).push (lo,n,0)))∧Cov rk (arrOf (kl st3 ((pendingOf st3).push (lo,n,0)))) 0 (pendingOf (kl st3 ((pendingOf st3).push (lo,n,0)))).toList lo':=fun st3 n bs3 cv3 hpos hfit sg c hc=>by
   refine⟨lo+n,hc,by omega,hfit,⟨bs3.kd,bs3.fl,bs3.perm⟩,?_⟩
   show Cov rk (arrOf st3) 0 ((pendingOf st3).push (lo,n,0)).toList (lo+n)
   rw[iJ]
   exact Cov.app.mpr ⟨lo,cv3,rfl,hpos,sg,rfl⟩
  refine de (LZ C bs.kd (hU.of_perm bs.perm) (by omega) (by omega) fun n st2 kp2 hn1 hn2 sg2=>?_)
  have bs2:=bs.kp kp2
  have cv2:Cov rk (arrOf st2) 0 (pendingOf st2).toList lo:=by
   rw[kp2.pd]
   exact cv.cong fun x _ hx=>By (kp2.out x (.inl hx))
  dsimp only
  by_cases cm:n<lX (arrOf st).size (arrOf st).size 0
  ·rw[if_pos cm]
   refine de (kh (iW ⟨rfl,?_⟩))
   have hz2:=bs2.size
   refine de (LY (n:=min ((arrOf st).size-lo) (lX (arrOf st).size (arrOf st).size 0)) C bs2.kd (hU.of_perm bs2.perm) (by omega) (by omega) sg2 fun st3 kp3 sg3=>?_)
   rw[if_neg (by decide)]
   have bs3:=bs2.kp kp3
   have cv3:Cov rk (arrOf st3) 0 (pendingOf st3).toList lo:=by
    rw[kp3.pd]
    exact cv2.cong fun x _ hx=>By (kp3.out x (.inl hx))
   have hpos:0<min ((arrOf st).size-lo) (lX (arrOf st).size (arrOf st).size 0):=by omega
   have hfit:lo+min ((arrOf st).size-lo) (lX (arrOf st).size (arrOf st).size 0)≤(arrOf st).size:=by omega
   refine de (jy ?_)
   cases hb:(pendingOf st3).back? with
   |none=>
    dsimp only
    exact de (iV (dg (nextOf st3 _ bs3 cv3 hpos hfit sg3 rfl)))
   |some e=>
    obtain⟨s1,n1,p1⟩:=e
    dsimp only
    refine de (fX (eW (I:=fun _ c st4=>c=(none,())∧Bs kd a₀ st4∧Cov rk (arrOf st4) 0 (pendingOf st4).toList lo∧∀x,lo≤x→RK rk (arrOf st4) x=RK rk (arrOf st3) x)
     (Q:=fun c st4=>c=(none,())∧Bs kd a₀ st4∧Cov rk (arrOf st4) 0 (pendingOf st4).toList lo∧∀x,lo≤x→RK rk (arrOf st4) x=RK rk (arrOf st3) x) ?_ (fun _ _ q=>q) ⟨rfl,bs3,cv3,fun _ _=>rfl⟩) ?_)
    ·rintro y c st4 _ _ ⟨rfl,bs4,cv4,ou4⟩
     refine de (jy ?_)
     by_cases cp:(pendingOf st4).size>1
     ·rw[if_pos cp]
      obtain⟨o1,o2,o3⟩:=(pendingOf st4)[(pendingOf st4).size-2]
      have hge:(pendingOf st4)[(pendingOf st4).size-2]?=some (pendingOf st4)[(pendingOf st4).size-2]:=getElem?_pos _ _ (by omega)
      rw[hge]
      dsimp only
      by_cases co:(pendingOf st4)[(pendingOf st4).size-2].2.2≤power' (arrOf st).size (2*s1+n1) (2*s1+n1+n1+min ((arrOf st).size-lo) (lX (arrOf st).size (arrOf st).size 0)) (arrOf st).size
      ·rw[if_pos co]
       exact dg ⟨rfl,bs4,cv4,ou4⟩
      ·rw[if_neg co]
       refine de (Dk C hU bs4 cv4 (by omega) (by omega) fun st5 bs5 cv5 _ ou5=>?_)
       rw[if_neg (by decide)]
       exact dg ⟨rfl,bs5,cv5,fun x hx=> (ou5 x hx).trans (ou4 x hx)⟩
     ·rw[if_neg cp]
      exact dg ⟨rfl,bs4,cv4,ou4⟩
    ·rintro c st4 ⟨rfl,bs4,cv4,ou4⟩
     dsimp only
     refine de (iV ?_)
     refine de (iV (dg ?_))
     have sg4:Seg rk (arrOf st4) lo (lo+min ((arrOf st).size-lo) (lX (arrOf st).size (arrOf st).size 0)):=fun i j q1 q2 q3=>by rw[ou4 i q1,ou4 j (by omega)];exact sg3 i j q1 q2 q3
     exact nextOf (kl st4 ((pendingOf st4).modify ((pendingOf st4).size-1) fun e=> (e.1,e.2.1,power' (arrOf st).size (2*s1+n1) (2*s1+n1+n1+min ((arrOf st).size-lo) (lX (arrOf st).size (arrOf st).size 0)) (arrOf st).size))) _ ⟨bs4.kd,bs4.fl,bs4.perm⟩ (Cov.power cv4) hpos hfit sg4 rfl
  ·rw[if_neg cm]
   have bs3:=bs2
   have cv3:=cv2
   have sg3:=sg2
   have hpos:0<n:=by omega
   have hfit:lo+n≤(arrOf st).size:=by omega
   refine de (jy ?_)
   cases hb:(pendingOf st2).back? with
   |none=>
    dsimp only
    exact de (iV (dg (nextOf st2 _ bs3 cv3 hpos hfit sg3 rfl)))
   |some e=>
    obtain⟨s1,n1,p1⟩:=e
    dsimp only
    refine de (fX (eW (I:=fun _ c st4=>c=(none,())∧Bs kd a₀ st4∧Cov rk (arrOf st4) 0 (pendingOf st4).toList lo∧∀x,lo≤x→RK rk (arrOf st4) x=RK rk (arrOf st2) x)
     (Q:=fun c st4=>c=(none,())∧Bs kd a₀ st4∧Cov rk (arrOf st4) 0 (pendingOf st4).toList lo∧∀x,lo≤x→RK rk (arrOf st4) x=RK rk (arrOf st2) x) ?_ (fun _ _ q=>q) ⟨rfl,bs3,cv3,fun _ _=>rfl⟩) ?_)
    ·rintro y c st4 _ _ ⟨rfl,bs4,cv4,ou4⟩
     refine de (jy ?_)
     by_cases cp:(pendingOf st4).size>1
     ·rw[if_pos cp]
      obtain⟨o1,o2,o3⟩:=(pendingOf st4)[(pendingOf st4).size-2]
      have hge:(pendingOf st4)[(pendingOf st4).size-2]?=some (pendingOf st4)[(pendingOf st4).size-2]:=getElem?_pos _ _ (by omega)
      rw[hge]
      dsimp only
      by_cases co:(pendingOf st4)[(pendingOf st4).size-2].2.2≤power' (arrOf st).size (2*s1+n1) (2*s1+n1+n1+n) (arrOf st).size
      ·rw[if_pos co]
       exact dg ⟨rfl,bs4,cv4,ou4⟩
      ·rw[if_neg co]
       refine de (Dk C hU bs4 cv4 (by omega) (by omega) fun st5 bs5 cv5 _ ou5=>?_)
       rw[if_neg (by decide)]
       exact dg ⟨rfl,bs5,cv5,fun x hx=> (ou5 x hx).trans (ou4 x hx)⟩
     ·rw[if_neg cp]
      exact dg ⟨rfl,bs4,cv4,ou4⟩
    ·rintro c st4 ⟨rfl,bs4,cv4,ou4⟩
     dsimp only
     refine de (iV ?_)
     refine de (iV (dg ?_))
     have sg4:Seg rk (arrOf st4) lo (lo+n):=fun i j q1 q2 q3=>by rw[ou4 i q1,ou4 j (by omega)];exact sg3 i j q1 q2 q3
     exact nextOf (kl st4 ((pendingOf st4).modify ((pendingOf st4).size-1) fun e=> (e.1,e.2.1,power' (arrOf st).size (2*s1+n1) (2*s1+n1+n1+n) (arrOf st).size))) _ ⟨bs4.kd,bs4.fl,bs4.perm⟩ (Cov.power cv4) hpos hfit sg4 rfl
 case post=>
  rintro⟨c1,c2⟩ st1 ⟨e,bs,cv⟩
  cases e
  dsimp only
  have done:∀st',Bs kd a₀ st'→Cov rk (arrOf st') 0 (pendingOf st').toList (arrOf st).size→(pendingOf st').size≤1→Em rk (arrOf st'):=fun st' bs' cv' hl=>by
   have hz':=bs'.size
   intro i j hij hj
   rw[←dr] at hl
   revert cv' hl
   generalize (pendingOf st').toList=l
   intro cv' hl
   match l,cv',hl with
   | [],cv',_=>
    have:0=(arrOf st).size:=cv'
    omega
   | [e],cv',_=>
    obtain⟨q1,q2,q3,q4⟩:=cv'
    have:0+e.2.1=(arrOf st).size:=q4
    exact q3 i j (by omega) hij (by omega)
   |_::_::_,_,hl=>simp only[dA] at hl;omega
  have hlen:=cv.le
  rw[dr] at hlen
  refine de (fX (eW (I:=fun x c st'=>c=(none,())∧Bs kd a₀ st'∧Cov rk (arrOf st') 0 (pendingOf st').toList (arrOf st).size∧(pendingOf st').size+x≤(arrOf st).size)
   (Q:=fun c st'=>c=(none,())∧Bs kd a₀ st'∧Cov rk (arrOf st') 0 (pendingOf st').toList (arrOf st).size∧(pendingOf st').size≤1) ?_ ?_ ⟨rfl,bs,cv,by omega⟩) ?_)
  ·rintro x c st2 _ hx ⟨rfl,bs2,cv2,hm⟩
   refine de (jy ?_)
   by_cases cp:(pendingOf st2).size≤1
   ·rw[if_pos cp]
    exact dg ⟨rfl,bs2,cv2,cp⟩
   ·rw[if_neg cp]
    refine de (Dk C hU bs2 cv2 (by omega) ?_ fun st5 bs5 cv5 hs5 _=>?_)
    ·split<;>split<;>omega
    ·rw[if_neg (by decide)]
     exact dg ⟨rfl,bs5,cv5,by omega⟩
  ·rintro c st2 ⟨rfl,bs2,cv2,hm⟩
   exact⟨rfl,bs2,cv2,by omega⟩
  ·rintro c st2 ⟨rfl,bs2,cv2,hm⟩
   exact dg (h _ bs2 (done _ bs2 cv2 hm))
end
end SrtG
namespace SrtG
open PySem PyProof.Rows
def La(h:Heap)(v:Value)(a b:Int):Prop:=∃x o t u n,v=.ref x∧h.get? x=some o∧o.data=.seq #[.int a t,.int b u] n
def SS(h:Heap)(k:Keyed):Int:=match k.1 with
  | .ref x=>match h.get? x with
    |some o=>match o.data with
     | .seq xs _=>match (xs[0]?:Option Value),(xs[1]?:Option Value) with
      |some (.int a _),some (.int b _)=>65536*a+b
      |_,_=>0
     |_=>0
    |_=>0
  |_=>0
theorem En{h:Heap}{k:Keyed}{a b:Int}(p:La h k.1 a b):SS h k=65536*a+b:=by
 obtain⟨x,o,t,u,n,e1,e2,e3⟩:=p
 unfold SS
 rw[e1]
 dsimp only
 rw[e2]
 dsimp only
 rw[e3]
 rfl
def Yy(h:Heap)(k:Keyed):Prop:=∃a b,La h k.1 a b∧0≤b∧b<65536
variable{prog:Program}{w:World}{A:dH}{E:Value→b6→Prop}{s:b6}
theorem OP:Oy prog w A E s (tuples' true) (Yy s.heap) (SS s.heap):=by
 intro st x y Q hk hx hy h
 obtain⟨a,b,px,b0,b1⟩:=hx
 obtain⟨c,d,py,d0,d1⟩:=hy
 rw[En px,En py] at h
 obtain⟨p,o,t,u,n,e1,e2,e3⟩:=px
 obtain⟨p',o',t',u',n',e1',e2',e3'⟩:=py
 rw[lt'_eq]
 refine de (jy ?_)
 rw[hk,e1,e1']
 refine de (kh (jM ?_))
 refine PySem.W.kat_lt e2 e3 e2' e3' ?_
 have fin:∀r:Bool,r=decide (65536*a+b<65536*c+d)→(s=s∧wpS (model prog w) A E s (match (Except.ok r:Except Value Bool) with
   | .ok b=>pure (some b)
   | .error e=>do
    modify (fun s=>lh (kindOf s) (arrOf s) (pendingOf s) (gallopOf s) (some e))
    pure none) Q st):=fun r hr=> ⟨rfl,by rw[hr];exact dg h⟩
 refine PySem.W.kat_cons (kU ?_)
 refine PySem.W.kat_go (fun e=>?_) (fun e=>?_)
 ·have e':=eq_of_beq e
  refine PySem.W.kat_yes (PySem.W.kat_cons (kU ?_))
  refine PySem.W.kat_go (fun q=>?_) (fun q=>?_)
  ·have q':=eq_of_beq q
   exact PySem.W.kat_yes (PySem.W.kat_nil (fin _ (by rw[e',q'];simp)))
  ·exact PySem.W.kat_no (PySem.W.kat_one _ _ (lt_int (fin _ (by congr 1;rw[e'];apply propext;constructor<;>intro<;>omega))))
 ·have e':a≠c:=fun q=>by rw[q] at e;simp at e
  refine PySem.W.kat_no (oneLt_int (fin _ ?_))
  congr 1
  apply propext
  constructor<;>intro<;>omega
open PySem.Calls PySem.W
theorem GN:∀(vs:List Value),vs.zip vs=vs.map fun v=> (v,v)
 | []=>rfl
 |v::vs=>by rw[List.zip_cons_cons,dM,GN vs]
structure Rk(prog:Program)(w:World)(U:Heap→Value→Prop)(rk:Heap→Value→Int)(T:Value):Prop where
 cmp:∀{A:dH} {E:Value→b6→Prop} {s:b6},Oy prog w A E s (tuples' true) (fun k=>U s.heap k.1) (fun k=>rk s.heap k.1)
 kept:∀{h h':Heap} {v:Value},U h v→(∀b o,o.cls=.type "tuple"→h.get? b=some o→h'.get? b=some o)→U h' v∧rk h' v=rk h v
 kat:∀{h:Heap} {vs:List Value},(∀v∈vs,U h v)→∃fs:List Value,KatTups h vs fs∧fs.length=vs.length∧∀v∈fs,∀M h',Looks M h' (typeOf v) T
 t1:(T==T)=true
 t2:(T !=jr "tuple")=true
section
variable{prog:Program}{w:World}{A:dH}{E:Value→b6→Prop}{s:b6}{U:Heap→Value→Prop}{rk:Heap→Value→Int}{T:Value}
theorem TJ{vs:List Value}{Q:eO→b6→Prop}(R:Rk prog w U rk T)(ok:∀v∈vs,U s.heap v)
  (h:∀st',iT st'=none→((arrOf st').map (·.2)).toList.Perm vs→((arrOf st').map (·.2)).toList.Pairwise (fun x y=>rk s.heap x≤rk s.heap y)→Q st' s):
  wpAny (model prog w) A ((sortRuns').run (lh (tuples' true) (vs.toArray.zip vs.toArray) #[] 7 none)) (fun r s'=>Q r.2 s') E s:=by
 have hz:(vs.toArray.zip vs.toArray)=(vs.map fun v=> (v,v)).toArray:=by
  apply ju
  rw[Array.toList_zip]
  show vs.zip vs=vs.map fun v=> (v,v)
  exact GN vs
 have hU:AllU (fun k=>U s.heap k.1) (vs.toArray.zip vs.toArray):=fun i p e=>by
  rw[hz] at e
  have e':(vs.map fun v=> ((v,v):Keyed))[i]?=some p:=by rw[←dY] at e;exact e
  obtain⟨v,hv,rfl⟩:=dy.mp (dj e')
  exact ok v hv
 have hwp:wpS (model prog w) A E s sortRuns' (fun _ st'=>Q st' s) (lh (tuples' true) (vs.toArray.zip vs.toArray) #[] 7 none):=by
  refine QA (a₀:=vs.toArray.zip vs.toArray) (rk:=fun k=>rk s.heap k.1) R.cmp hU ⟨rfl,rfl,jb.refl _⟩ rfl fun st' b srt=>?_
  have hpm:=b.perm
  rw[hz] at hpm
  have hsame:∀k,k∈(arrOf st').toList→k=(k.2,k.2):=fun k hk=>by
   obtain⟨v,_,rfl⟩:=dy.mp (hpm.mem_iff.mp hk)
   rfl
  refine h st' b.fl ?_ ?_
  ·rw[k4]
   have:=hpm.map (fun k:Keyed=>k.2)
   rw[show((vs.map fun v=> ((v,v):Keyed)).toArray.toList.map fun k:Keyed=>k.2)=vs from by
    show(vs.map fun v=> ((v,v):Keyed)).map (fun k:Keyed=>k.2)=vs
    rw[eK]
    exact List.map_id vs] at this
   exact this
  ·rw[k4,gC]
   refine fk.mpr fun i j hi hj hij=>?_
   have hi':i< (arrOf st').size:=by rw[←dr];exact hi
   have hj':j< (arrOf st').size:=by rw[←dr];exact hj
   have q:=srt i j (jB hij) hj'
   rw[Av hi',Av hj'] at q
   have e1:=hsame (arrOf st').toList[i] (fu hi)
   have e2:=hsame (arrOf st').toList[j] (fu hj)
   rw[←(show(arrOf st').toList[i].1=(arrOf st').toList[i].2 from congrArg gB e1),←(show(arrOf st').toList[j].1=(arrOf st').toList[j].2 from congrArg gB e2)]
   exact q
 exact iK hwp (fun r s' q=>by rw[q.1];exact q.2) fun _ _ e=>e
theorem QB{a:Addr}{vs:List Value}{n:Nat}{P:nA→b6→Prop}(ho:s.heap.get? a=some (fe "list" vs.toArray n))(R:Rk prog w U rk T)(ok:∀v∈vs,U s.heap v)(h2:2≤vs.length)(hn:vs.length≤9000000)
  (h:∀out c h',out.Perm vs→out.Pairwise (fun x y=>rk s.heap x≤rk s.heap y)→h'.get? a=some (fe "list" (mO out) c)→(∀b o,b≠a→s.heap.get? b=some o→h'.get? b=some o)→P (.done (.ret .none)) {s with heap:=h'}):
  wpAny (model prog w) A (Builtin.«list.sort» ⟨[.ref a],[]⟩) P E s:=by
 obtain⟨e1,ho1⟩:∃e1,(s.heap.update a (fV fun _=> (#[]:Array Value))).get? a=some (fe "list" #[] e1):=⟨_,jW ho fun _=> #[]⟩
 have keep:∀b o,b≠a→s.heap.get? b=some o→(((s.heap.update a (fV fun _=> (#[]:Array Value))).push (fe "tuple" vs.toArray 0)).push (fe "list" #[] 0)).get? b=some o:=fun b o hb e=>
  da _ (da _ (by rw[jj _ _ _ _ hb];exact e))
 have keepT:∀b o,o.cls=.type "tuple"→s.heap.get? b=some o→(((s.heap.update a (fV fun _=> (#[]:Array Value))).push (fe "tuple" vs.toArray 0)).push (fe "list" #[] 0)).get? b=some o:=fun b o ht e=>by
  refine keep b o (fun q=>?_) e
  rw[q,ho] at e
  cases e
  exact absurd (show jr "list" =jr "tuple" from ht) (by decide)
 have ho3:(((s.heap.update a (fV fun _=> (#[]:Array Value))).push (fe "tuple" vs.toArray 0)).push (fe "list" #[] 0)).get? a=some (fe "list" #[] e1):=da _ (da _ ho1)
 have ok3:∀v∈vs,U _ v:=fun v hv=> (R.kept (ok v hv) keepT).1
 have rk3:∀v∈vs,rk _ v=rk s.heap v:=fun v hv=> (R.kept (ok v hv) keepT).2
 rw[list_sort_plain]
 refine b4 (listItems_at ho rfl ?_)
 refine b4 (kN ho rfl ?_ (by rw[dv,fh];omega) (fb _))
 refine b4 (lI ho1 rfl ?_)
 refine b4 (wpAny_newTuple ?_ (by show vs.length≤_;rw[fh];omega))
 refine b4 (jL ?_ (fb _))
 refine ef ?_
 show wpAny (model prog w) A _ P E {s with heap:=((s.heap.update a (fV fun _=> (#[]:Array Value))).push (fe "tuple" vs.toArray 0)).push (fe "list" #[] 0)}
 generalize hG:((s.heap.update a (fV fun _=> (#[]:Array Value))).push (fe "tuple" vs.toArray 0)).push (fe "list" #[] 0)=G at keep ho3 ok3 rk3 ⊢
 dsimp only
 have hn2:¬vs.toArray.size<2:=by rw[dv];omega
 rw[if_neg hn2,if_neg hn2]
 obtain⟨fs,kt,hl,hf⟩:=R.kat ok3
 refine b4 (kat_kind (s:={s with heap:=G}) (T:=T) kt (by omega) (fun v hv=>hf v hv _ _) R.t1 ?_)
 rw[R.t2]
 refine b4 (iK (TJ (s:={s with heap:=G}) (Q:=fun st' s'=>s'={s with heap:=G}∧iT st'=none∧((arrOf st').map (·.2)).toList.Perm vs∧((arrOf st').map (·.2)).toList.Pairwise (fun x y=>rk G x≤rk G y)) R ok3 (fun st' a1 a2 a3=> ⟨rfl,a1,a2,a3⟩)) ?_ fun _ _ e=>e)
 rintro⟨⟨⟩,st'⟩ s' ⟨rfl,hfl,hpm,hpw⟩
 dsimp only
 have hsz:((arrOf st').map (·.2)).size=vs.length:=by rw[←dr];exact hpm.length_eq
 obtain⟨c2,hc2⟩:∃c2,(G.update a (fV fun _=> (arrOf st').map (·.2))).get? a=some (fe "list" ((arrOf st').map (·.2)) c2):=⟨_,jW ho3 fun _=> (arrOf st').map (·.2)⟩
 refine b4 (lI ho3 rfl ?_)
 refine b4 (kN ho3 rfl ?_ (fb _) (fI (Nat.le_of_eq hsz) (by rw[fh];omega)))
 rw[hfl]
 simp only[bne_self_eq_false,dC,if_false]
 refine b7 (h ((arrOf st').map (·.2)).toList c2 _ hpm ?_ hc2 fun b o hb e=>by rw[jj _ _ _ _ hb];exact keep b o hb e)
 refine gQ (fun{x y} hx hy q=>?_) hpw
 rw[rk3 _ (hpm.mem_iff.mp hx),rk3 _ (hpm.mem_iff.mp hy)] at q
 exact q
end
def TupAt(h:Heap)(v:Value)(a b:Int):Prop:=∃x o t u n,v=.ref x∧h.get? x=some o∧o.cls=.type "tuple"∧o.data=.seq #[.int a t,.int b u] n
def TupsOk(h:Heap)(vs:List Value):Prop:=∀v,v∈vs→∃a b,TupAt h v a b∧0≤b∧b<65536
theorem TupAt.pair{h:Heap}{v:Value}{a b:Int}(t:TupAt h v a b):La h v a b:=by
 obtain⟨x,o,t,u,n,e1,e2,_,e4⟩:=t
 exact⟨x,o,t,u,n,e1,e2,e4⟩
theorem TupsOk.kat{h:Heap}:∀{vs:List Value},TupsOk h vs→∃fs:List Value,KatTups h vs fs∧fs.length=vs.length∧∀v∈fs,∃a t,v=.int a t
 | [],_=> ⟨[],KatTups.nil,rfl,fun v hv=>by cases hv⟩
 |v::vs,ok=>by
  obtain⟨fs,k,hl,hf⟩:=TupsOk.kat (vs:=vs) fun v hv=>ok v (.tail _ hv)
  obtain⟨a,b,⟨x,o,t,u,n,rfl,e,hc,hd⟩,_,_⟩:=ok v (.head _)
  exact⟨.int a t::fs,KatTups.cons e hc hd rfl k,by rw[dA,dA,hl],fun v hv=>by
   rcases dh.mp hv with rfl|hv
   ·exact⟨a,t,rfl⟩
   ·exact hf v hv⟩
variable{prog:Program}{w:World}{A:dH}{E:Value→b6→Prop}{s:b6}
theorem TupsOk.kept{h h':Heap}{vs:List Value}(ok:TupsOk h vs)(k:∀b o,o.cls=.type "tuple"→h.get? b=some o→h'.get? b=some o):TupsOk h' vs:=fun v hv=>by
 obtain⟨a,b,⟨x,o,t,u,n,e1,e2,e3,e4⟩,q⟩:=ok v hv
 exact⟨a,b,⟨x,o,t,u,n,e1,k _ _ e3 e2,e3,e4⟩,q⟩
theorem TupsOk.rk{h h':Heap}{vs:List Value}(ok:TupsOk h vs)(k:∀b o,o.cls=.type "tuple"→h.get? b=some o→h'.get? b=some o){v:Value}(hv:v∈vs):SS h' (v,v)=SS h (v,v):=by
 obtain⟨a,b,t,q⟩:=ok v hv
 obtain⟨x,o,t',u,n,e1,e2,e3,e4⟩:=t
 rw[En (k:=(v,v)) (TupAt.pair ⟨x,o,t',u,n,e1,e2,e3,e4⟩),En (k:=(v,v)) (TupAt.pair ⟨x,o,t',u,n,e1,k _ _ e3 e2,e3,e4⟩)]
theorem QC:Rk prog w (fun h v=>∃a b,TupAt h v a b∧0≤b∧b<65536) (fun h v=>SS h (v,v)) (.type "int") where
 cmp:=by
  intro A E s st x y Q hk hx hy h
  obtain⟨a,b,t,q⟩:=hx
  obtain⟨c,d,u,r⟩:=hy
  exact OP st x y Q hk ⟨a,b,t.pair,q⟩ ⟨c,d,u.pair,r⟩ h
 kept:=fun{h h' v} ok k=> ⟨TupsOk.kept (vs:=[v]) (fun u hu=>b8.mp hu▸ok) k v (by simp),TupsOk.rk (vs:=[v]) (fun u hu=>b8.mp hu▸ok) k (by simp)⟩
 kat:=fun{h vs} ok=>by
  obtain⟨fs,kt,hl,hf⟩:=TupsOk.kat ok
  refine⟨fs,kt,hl,fun v hv M h'=>?_⟩
  obtain⟨x,t,rfl⟩:=hf v hv
  exact fun _ _ _ _ _ q=>b7 q
 t1:=rfl
 t2:=rfl
theorem Lb{a:Addr}{vs:List Value}{n:Nat}{P:nA→b6→Prop}(ho:s.heap.get? a=some (fe "list" vs.toArray n))(ok:TupsOk s.heap vs)(h2:2≤vs.length)(hn:vs.length≤4096)
  (h:∀out c h',out.Perm vs→out.Pairwise (fun x y=>SS s.heap (x,x)≤SS s.heap (y,y))→h'.get? a=some (fe "list" (mO out) c)→(∀b o,b≠a→s.heap.get? b=some o→h'.get? b=some o)→P (.done (.ret .none)) {s with heap:=h'}):
  wpAny (model prog w) A (Builtin.«list.sort» ⟨[.ref a],[]⟩) P E s:=QB ho QC ok h2 (by omega) h
end SrtG
namespace StT
open PySem PySem.SetTable PyProof.Rows
section
variable{prog:Program}{w:World}{A:dH}{E:Value→b6→Prop}{s:b6}
abbrev Bz(w:World):Obj:={cls:=.type "set",dict:=none,data:=.set #[] 0 (.fresh 0 0 (!w.params.followText "set-order"))}
theorem QD(a:Value){Q₁:Value→b6→Prop}(h:Q₁ (.ref s.heap.objs.size) {s with heap:=s.heap.push (Bz w)}):
  iY (model prog w) A (.call (.builtin "set.__new__") ⟨[.type "set",a],[]⟩) (wants Q₁ E) s:=by
 refine codeAny_of_tree ?_
 show wpAny _ A.in1 (do jI "set.__new__" ⟨[.type "set",a],[]⟩;again (.builtin "set.__new__" ⟨[.type "set",a],[]⟩)) _ _ s
 refine b4 (jv (PySem.F.newCall_set_1 a) (b7 ⟨gy PySem.F.plain_set_new _,fW PySem.F.entry_set_new ?_⟩))
 rw[fD PySem.F.plain_set_new _]
 unfold Builtin.«set.__new__» Builtin.Frozenset.newClass
 have hsub:=sub_set_self
 obtain⟨hp,g,d,tk,os⟩:=s
 dsimp only
 wp_walk
 refine jH (b7 ?_)
 dsimp only
 simp only[newObj]
 refine b4 (wpAny_alloc (b7 ?_))
 exact b7 h
theorem Lc{T newId initId:String}{args:List Value}{Q Q₁:Value→b6→Prop}(ft:TypeCalled T newId initId)
  (hct:checkTypeCall T ⟨args,[]⟩=pure ())
  (hnew:iY (model prog w) A.in1 (.call (.builtin newId) ⟨.type T::args,[]⟩) (wants Q₁ E) s)
  (hnext:∀obj s₁,Q₁ obj s₁→s₁.TypeIs obj T∧iY (model prog w) A.in1 (.call (.builtin initId) ⟨obj::args,[]⟩) (wants (fun r s₂=>r=.none∧Q obj s₂) E) s₁):
  wpAny (model prog w) A (call (.type T) args) Q E s:=by
 obtain⟨c,tl,hmro⟩:=ft.mro
 have hmade:=ft.made
 have hsub:=ft.sub
 refine kj (codeAny_of_tree ?_)
 show wpAny _ _ (callAny (.type T) _) _ _ _
 refine b7 ⟨Code.quiet_builtin _ (by decide+kernel),fW PySem.F.entry_type_call ?_⟩
 rw[dH.under_plain (weight_type_call_type T args []) rfl]
 have h1:=ft.notType
 have h2:=ft.canCreate
 repeat (any_goals (first|assumption|wp_step))
 refine j6 hnew fun r s₁ hr=>?_
 cases r with
 |error e=>exact hr
 |ok fl=>
  cases fl with
  |ret obj=>
   obtain⟨hT,hsi⟩:=hnext _ _ hr
   have hli:=ft.init.lookup
   have hbi:=ft.init.bind obj
   repeat (any_goals (first|assumption|wp_step))
   refine j6 hsi fun r₂ s₂ hr₂=>?_
   cases r₂ with
   |error e=>exact hr₂
   |ok fl₂=>
    cases fl₂ with
    |ret r=>
     obtain⟨rfl,hq⟩:=hr₂
     repeat (any_goals (first|assumption|wp_step))
    |_=>exact hr₂.elim
  |_=>exact hr.elim
theorem GO{l:Addr}{items:Array Value}{ps:List (List Int×Addr)}{Q:Value→b6→Prop}
  (hh:A.handled=none) (hl:s.heap.IsList l items) (hps:items.toList=ps.map fun p=>Value.ref p.2) (hp:∀k x,(k,x)∈ps→IK prog w s.heap k x) (hz:ps.length≤300) (hu:A.units+8<cLine)
  (h:∀(h':Heap) (tk:Nat) (xs:List (List Int×Addr)),SetX prog w h' s.heap.objs.size xs→IZ ps xs→
   (∀b o,b<s.heap.objs.size→s.heap.get? b=some o→h'.get? b=some o)→Q (.ref s.heap.objs.size) {s with heap:=h',toks:=tk}):
  wpAny (model prog w) A (call (.type "set") [.ref l]) Q E s:=by
 refine Lc (Q₁:=fun obj s₁=>obj=.ref s.heap.objs.size∧s₁={s with heap:=s.heap.push (Bz w)}) PySem.F.called_set (PySem.F.typeCall_set_1 _) (QD _ ⟨rfl,rfl⟩) ?_
 rintro obj s₁ ⟨rfl,rfl⟩
 have hS:(s.heap.push (Bz w)).get? s.heap.objs.size=some (Bz w):=dF _ rfl
 have hT:b6.TypeIs {s with heap:=s.heap.push (Bz w)} (.ref s.heap.objs.size) "set":=⟨_,hS,rfl⟩
 refine⟨hT,iF PySem.F.called_set.init.plain PySem.F.entry_set_init (check_set_init_1 hT ?_)⟩
 obtain⟨ol,hol,hcl,nl,hdl⟩:=hl
 obtain⟨ocls,odict,odata,oslots⟩:=ol
 simp only at hcl hdl
 subst hcl;subst hdl
 have hol':(s.heap.push (Bz w)).get? l=some {cls:=.type "list",dict:=odict,data:=.seq items nl,slots:=oslots}:=da _ hol
 have hsls:=PySem.F.sub_list_set
 have hslf:=PySem.F.sub_list_frozenset
 have hne:(jr "list" ==jr "dict")=false:=by decide
 have hl1:(s.heap.push (Bz w)).IsList l items:=⟨_,hol',rfl,nl,rfl⟩
 unfold Builtin.«set.__init__» noKeywords Builtin.Frozenset.updateFrom
 generalize hPI:lJ=PI
 wp_walk
 subst hPI
 refine kB hl1 ?_
 refine b4 (wpAny_runValue ?_)
 have hlS:l<s.heap.objs.size:=du hol
 have hneI:l≠(s.heap.push (Bz w)).objs.size:=by
  rw[fL];exact dN (fA hlS)
 have kp:∀b o,s.heap.get? b=some o→((s.heap.push (Bz w)).push {cls:=.type "list_iterator",data:=.fields #[.ref l,.int 0 0]}).get? b=some o:=fun b o e=>da _ (da _ e)
 refine TB (a:=s.heap.objs.size) (l:=l) (ps:=ps) (by simpa using hh) hneI (by rw[fL];exact dN (gL _)) (j7 hlS) hps hz (by
   show A.in1.in1.units+1<cLine
   exact kr (show A.units+1+1+1≤A.units+8 by omega) hu) (ps.length-0) 0 _ [] rfl (fb _)
  ⟨_,dF _ rfl,rfl,rfl⟩ (hl1.push _) (fun k x hx=> ⟨CS (hp k x hx) fun u e=>kp x u e,?_⟩) ⟨Bz w,#[],0,_,da _ hS,⟨rfl,rfl,rfl⟩,rfl,rfl,fun i k x e=>by simp at e,List.nodup_nil,Tb.fresh _ _ _,rfl,(by show 0*5<7*3;decide),rfl⟩ ⟨fun p hp=>by simp at hp,fun k y hy=>by simp at hy,by simp⟩ ?_
 ·obtain⟨o',_,_,ho',_⟩:=hp k x hx
  have:=du ho'
  rw[fL]
  exact dN (fA this)
 ·intro h' tk' xs' kk sx so
  refine b7 ?_
  show wpAny _ _ (ret js) _ _ _
  refine b7 ⟨rfl,h h' tk' xs' sx so fun b o hb e=>kk b o (dN hb) ?_ (kp b o e)⟩
  rw[fL];exact dN (fA hb)
end
open PySem.Calls PySem.W
section
variable{prog:Program}{w:World}{A:dH}{E:Value→b6→Prop}{s:b6}
theorem QE{a:Addr}{vs:List Value}{n:Nat}{P:nA→b6→Prop}(ho:s.heap.get? a=some (fe "list" vs.toArray n))(h2:vs.length<2)
  (h:∀c h',h'.get? a=some (fe "list" vs.toArray c)→(∀b o,b≠a→s.heap.get? b=some o→h'.get? b=some o)→P (.done (.ret .none)) {s with heap:=h'}):
  wpAny (model prog w) A (Builtin.«list.sort» ⟨[.ref a],[]⟩) P E s:=by
 obtain⟨e1,ho1⟩:∃e1,(s.heap.update a (fV fun _=> (#[]:Array Value))).get? a=some (fe "list" #[] e1):=⟨_,jW ho fun _=> #[]⟩
 have keep:∀b o,b≠a→s.heap.get? b=some o→(((s.heap.update a (fV fun _=> (#[]:Array Value))).push (fe "tuple" vs.toArray 0)).push (fe "list" #[] 0)).get? b=some o:=fun b o hb e=>
  da _ (da _ (by rw[jj _ _ _ _ hb];exact e))
 have ho3:(((s.heap.update a (fV fun _=> (#[]:Array Value))).push (fe "tuple" vs.toArray 0)).push (fe "list" #[] 0)).get? a=some (fe "list" #[] e1):=da _ (da _ ho1)
 rw[list_sort_plain]
 refine b4 (listItems_at ho rfl ?_)
 refine b4 (kN ho rfl ?_ (by rw[dv,fh];omega) (fb _))
 refine b4 (lI ho1 rfl ?_)
 refine b4 (wpAny_newTuple ?_ (by show vs.length≤_;rw[fh];omega))
 refine b4 (jL ?_ (fb _))
 refine ef ?_
 show wpAny (model prog w) A _ P E {s with heap:=((s.heap.update a (fV fun _=> (#[]:Array Value))).push (fe "tuple" vs.toArray 0)).push (fe "list" #[] 0)}
 generalize hG:((s.heap.update a (fV fun _=> (#[]:Array Value))).push (fe "tuple" vs.toArray 0)).push (fe "list" #[] 0)=G at keep ho3 ⊢
 dsimp only
 have hn2:vs.toArray.size<2:=by rw[dv];omega
 rw[if_pos hn2,if_pos hn2]
 refine b4 (b7 ?_)
 refine b4 (b7 ?_)
 dsimp only
 have har:((vs.toArray.zip vs.toArray).map (·.2))=vs.toArray:=by
  apply ju
  rw[k4,Array.toList_zip]
  show(vs.zip vs).map (·.2)=vs
  rw[SrtG.GN,eK]
  exact List.map_id vs
 have har':(arrOf (lh general' (vs.toArray.zip vs.toArray) #[] 7 none)).map (·.2)=vs.toArray:=har
 rw[har']
 obtain⟨c2,hc2⟩:∃c2,(G.update a (fV fun _=>vs.toArray)).get? a=some (fe "list" vs.toArray c2):=⟨_,jW ho3 fun _=>vs.toArray⟩
 refine b4 (lI ho3 rfl ?_)
 refine b4 (kN ho3 rfl ?_ (fb _) (by rw[dv,fh];omega))
 show wpAny _ _ (if(e1 !=e1)=true then _ else _) _ _ _
 rw[if_neg (by simp)]
 exact b7 (h c2 _ hc2 fun b o hb e=>by rw[jj _ _ _ _ hb];exact keep b o hb e)
theorem EC {α β : Type} {f : α → β} {l1 l2 : List β} (h : l1.Perm l2) : ∀ {xs : List α}, l2 = xs.map f → ∃ ys : List α, ys.Perm xs ∧ ys.map f = l1 := by
  induction h with
  | nil => intro xs e; cases xs with
    | nil => exact ⟨[], .refl _, rfl⟩
    | cons x xs => cases e
  | cons x _ ih => intro xs e; cases xs with
    | nil => cases e
    | cons y xs =>
      rw [dM] at e
      injection e with e1 e2
      obtain ⟨ys, h1, h2⟩ := ih e2
      exact ⟨y :: ys, h1.cons y, by rw [dM, h2, e1]⟩
  | swap x y l => intro xs e; match xs, e with
    | a :: b :: xs, e =>
      simp only [dM] at e
      injection e with e1 e2
      injection e2 with e2 e3
      exact ⟨b :: a :: xs, .swap _ _ _, by simp only [dM]; rw [← e1, ← e2, ← e3]⟩
  | trans _ _ ih1 ih2 => intro xs e
                         obtain ⟨ys, h1, h2⟩ := ih2 e
                         obtain ⟨zs, h3, h4⟩ := ih1 h2.symm
                         exact ⟨zs, h3.trans h1, h4⟩
theorem Ld{a:Addr}{xs:List (List Int×Addr)}{Q:Value→b6→Prop}(hh:A.handled=none)(S:SetX prog w s.heap a xs)(hz:xs.length≤300)
  (hp:∀k x,(k,x)∈xs→∃p q,k=[p,q]∧0≤q∧q<65536)
  (h:∀(h':Heap) (tk:Nat) (ys:List (List Int×Addr)) (D:Addr) (c:Nat),s.heap.get? D=none→h'.get? D=some (fe "list" (ys.map fun p=>Value.ref p.2).toArray c)→(∀b o,s.heap.get? b=some o→h'.get? b=some o)→
   ys.Perm xs→ys.Pairwise (fun x y=>65536*x.1.getD 0 0+x.1.getD 1 0≤65536*y.1.getD 0 0+y.1.getD 1 0)→Q (.ref D) {s with heap:=h',toks:=tk}):
  wpAny (model prog w) A (call (.builtin "sorted") [.ref a]) Q E s:=by
 obtain⟨o,es,ep,t,S⟩:=S
 refine call_function_entry mY mq mx (mB _) ?_
 unfold Builtin.«sorted»
 refine b4 (m:=checkCount "sorted" 1 1 _) (b7 ?_)
 refine b4 (kdu_collect (A:=A.in1) (TC S.wk) hh S.get (by rw[S.size,fh];omega) fun h1 tk1 acc hk1 hacc=>?_)
 have hsz:acc.toList.length=xs.length:=by rw[dr,hacc.1,S.size]
 have hacc2:acc.toList=(Dj w a ep es).toList.map (·.2):=by
  apply fo
  intro i
  rw[b9]
  by_cases hi:i<acc.size
  ·have e1:acc[i]?=some acc[i]:=by simp[hi]
   obtain⟨hh',e2⟩:=hacc.2 i _ e1
   have e2':(Dj w a ep es).toList[i]?=some (hh',acc[i]):=by simpa using e2
   rw[e2']
   simpa using e1
  ·have h1':acc.toList[i]?=none:=by simp;omega
   have h2':(Dj w a ep es).toList[i]?=none:=by
    apply e7
    rw[dr,El,←hacc.1];omega
   rw[h1',h2'];rfl
 have hperm:acc.toList.Perm (xs.map fun p=>Value.ref p.2):=by
  rw[hacc2]
  refine((Hf w a ep es).map (·.2)).trans ?_
  rw[S.es,OI,eK]
  exact jb.refl _
 have hIK:∀k x,(k,x)∈xs→IK prog w h1 k x:=fun k x hx=>by
  obtain⟨i,hi⟩:=eJ hx
  exact CS (S.key i k x hi) fun u e=>hk1 x u e
 have tupAt:∀k x,(k,x)∈xs→∃p q,k=[p,q]∧SrtG.TupAt h1 (.ref x) p q∧0≤q∧q<65536:=fun k x hx=>by
  obtain⟨p,q,rfl,h0,h1'⟩:=hp k x hx
  obtain⟨o',items,n,ho',hc',hd',hi'⟩:=hIK _ x hx
  refine⟨p,q,rfl,?_,h0,h1'⟩
  generalize hL:items.toList=L at hi'
  cases hi' with
  |cons i1 i2=>
   cases i2 with
   |cons i3 i4=>
    cases i4
    obtain⟨t1,rfl⟩:=Ej i1
    obtain⟨t2,rfl⟩:=Ej i3
    have:items= #[.int p t1,.int q t2]:=by
     apply ju
     rw[hL]
    exact⟨x,o',t1,t2,n,rfl,ho',hc',by rw[hd',this]⟩
 refine b4 (jL ?_ (by rw[hsz,fh];omega))
 have hoL:(h1.push (fe "list" acc.toList.toArray 0)).get? h1.objs.size=some (fe "list" acc.toList.toArray 0):=dF _ rfl
 have hDn:s.heap.get? h1.objs.size=none:=by
  cases e:s.heap.get? h1.objs.size with
  |none=>rfl
  |some o'=>exact absurd (du (hk1 _ _ e)) (e6 _)
 have hkp:∀b o,h1.get? b=some o→(h1.push (fe "list" acc.toList.toArray 0)).get? b=some o:=fun b o e=>da _ e
 obtain⟨ws,hw1,hw2⟩:=EC hperm rfl
 have fin:∀(out:List Value) (c:Nat) (h2:Heap),out.Perm acc.toList→out.Pairwise (fun x y=>SrtG.SS (h1.push (fe "list" acc.toList.toArray 0)) (x,x)≤SrtG.SS (h1.push (fe "list" acc.toList.toArray 0)) (y,y))→
   h2.get? h1.objs.size=some (fe "list" (mO out) c)→(∀b o,b≠h1.objs.size→(h1.push (fe "list" acc.toList.toArray 0)).get? b=some o→h2.get? b=some o)→Q (.ref h1.objs.size) {s with heap:=h2,toks:=tk1}:=fun out c h2 pm pw hg hk=>by
  obtain⟨ys,y1,y2⟩:=EC (pm.trans hperm) rfl
  subst y2
  refine h h2 tk1 ys _ c hDn hg (fun b o e=>?_) y1 ?_
  ·have hlt:=du (hk1 b o e)
   exact hk b o (dN hlt) (hkp b o (hk1 b o e))
  ·rw[gC] at pw
   refine gQ (fun{x y} hx hy q=>?_) pw
   obtain⟨k1,x1⟩:=x
   obtain⟨k2,x2⟩:=y
   obtain⟨p,q',rfl,t1,_⟩:=tupAt k1 x1 (y1.mem_iff.mp hx)
   obtain⟨p2,q2,rfl,t2,_⟩:=tupAt k2 x2 (y1.mem_iff.mp hy)
   have keepT:∀{v:Value} {i j:Int},SrtG.TupAt h1 v i j→SrtG.TupAt (h1.push (fe "list" acc.toList.toArray 0)) v i j:=fun t=>by
    obtain⟨x,o,t,u,n,e1,e2,e3,e4⟩:=t
    exact⟨x,o,t,u,n,e1,hkp _ _ e2,e3,e4⟩
   rw[SrtG.En (k:=(Value.ref x1,Value.ref x1)) (keepT t1).pair,SrtG.En (k:=(Value.ref x2,Value.ref x2)) (keepT t2).pair] at q
   exact q
 refine b4 (ef (gq lH ⟨_,hoL,rfl⟩ lz ?body (lN _)))
 case body=>
  by_cases hlen:acc.toList.length<2
  ·refine QE (s:={s with heap:=h1.push (fe "list" acc.toList.toArray 0),toks:=tk1}) hoL hlen fun c h2 hg hk=> ⟨_,rfl,b7 ⟨_,rfl,fin acc.toList c h2 (.refl _) ?_ hg hk⟩⟩
   generalize acc.toList=l at hlen
   match l,hlen with
   | [],_=>exact .nil
   | [x],_=>exact jx _ _
  ·refine SrtG.Lb (s:={s with heap:=h1.push (fe "list" acc.toList.toArray 0),toks:=tk1}) hoL (fun v hv=>?_) (by omega) (by omega) fun out c h2 pm pw hg hk=> ⟨_,rfl,b7 ⟨_,rfl,fin out c h2 pm pw hg hk⟩⟩
   obtain⟨⟨k,x⟩,hx,rfl⟩:=dy.mp (hperm.mem_iff.mp hv)
   obtain⟨p,q,rfl,⟨x',o',t1,t2,n,e1,e2,e3,e4⟩,h0,h1'⟩:=tupAt k x hx
   exact⟨p,q,⟨x',o',t1,t2,n,e1,hkp _ _ e2,e3,e4⟩,h0,h1'⟩
end
end StT
namespace L2
open PySem PySem.Spec PyProof.Rows
section
variable{X:Cx}{pins:List (Addr×Obj)}{σ:St}{H:Hp}{s:b6}{h':Heap}
theorem Inv.laidF{a:Addr}{o:HO}{t':Nat}(I:Inv X pins σ H s)(k:∀b u,s.heap.get? b=some u→h'.get? b=some u)(hp:s.heap.get? a=none)(new:ObjOk X.prog X.w (upd H a o) h' a o):
  Inv X pins σ (upd H a o) {s with heap:=h',toks:=t'}:=by
 have hn:H a=none:=by
  cases q:H a with
  |none=>rfl
  |some u=>
   obtain⟨ob,e⟩:=(I.hok a u q).obj
   rw[hp] at e;cases e
 have ne:∀b u,s.heap.get? b=some u→b≠a:=fun b u e z=>by rw[z,hp] at e;cases e
 refine I.un ⟨fun b u q _ _ _=>k b u q,fun b u q _ _ _=> ⟨u.slots,k b u q⟩,fun b u q n _=>by rw[AR (ne b u q)];exact n,fun b u q _=> ⟨u,k b u q⟩,fun b xs q=>by rw[AR (AN q hn)];exact q,fun b u xs q=>by rw[AR (AN q hn)];exact q,fun b ps q=> ⟨#[],by rw[AR (AN q hn),q];simp⟩⟩ ?_
 intro b u e
 by_cases hb:b=a
 ·subst hb;rw[AX] at e;cases e;exact new
 ·rw[AR hb] at e
  exact(I.hok b u e).stay (fun c v _ q=>k c v q) (fun c q=>by rw[AR (AN q hn)];exact q) fun c xs q=>by rw[AR (AN q hn)];exact q
def Yz(P:Program)(w:World)(a:Addr)(xs:List (List Int×Addr))(h:Heap):Prop:=∃o es ep t,h.get? a=some o∧o.ExactSet∧o.data=.set es ep t∧es.toList=StT.OI xs P w∧(xs.map (·.1)).Nodup∧StT.Tb t (xs.map fun p=> (StT.tk P w).hash p.1)∧t.plain=true∧xs.length*5<t.mask*3∧t.led=!w.params.followText "set-order"
def SetO(P:Program)(w:World)(a:Addr)(xs:List (List Int×Addr)):HO:=.ext (Yz P w a xs)
theorem TK{P:Program}{w:World}{H:Hp}{h:Heap}{a:Addr}{xs:List (List Int×Addr)}(S:StT.SetX P w h a xs):ObjOk P w H h a (SetO P w a xs):=by
 obtain⟨o,es,ep,t,S⟩:=S
 refine⟨⟨o,es,ep,t,S.get,S.ex,S.dat,S.es,S.nd,S.tb,S.pl,S.room,S.led⟩,⟨o,S.get⟩,fun h1 h2 ⟨o,es,ep,t,g,r⟩ hk=> ⟨o,es,ep,t,hk _ g,r⟩⟩
def QF(K:b5)(H:Hp)(xs:List (List Int×Addr)):Prop:=∀k x,(k,x)∈xs→II K H x (k.map V.int)
theorem Hj{prog:Program}{w:World}:∀{k:List Int} {us:List Value},Vals (k.map V.int) us→ItemsAre (intKind prog w) k us
 | [],us,r=>by rw[j8] at r;cases r;exact .nil
 |n::k,us,r=>by
  rw[dM] at r
  cases r with
  |cons r1 r2=>
   obtain⟨t,rfl⟩:=r1
   exact .cons (intKind_is _ _ _ _) (Hj r2)
theorem Inv.ik{x:Addr}{k:List Int}(I:Inv X pins σ H s)(h:II X.K H x (k.map V.int)):StT.IK X.prog X.w s.heap k x:=by
 obtain⟨its,r,⟨o,ho,hc,n,hd⟩,hz⟩:=I.tuple h
 exact⟨o,its.toArray,n,ho,hc,hd,by simpa using Hj r⟩
def bM(X:Cx):List V→Hp→VK→Prop:=fun vs H Q=>∃a ps,vs=[.ref a]∧Cr X.K H a (ps.map fun p=>V.ref p.2)∧QF X.K H ps∧ps.length≤300∧
 ∀p xs,H p=none→StT.IZ ps xs→(xs.map (·.1)).Nodup→Q (.ref p) (upd H p (SetO X.prog X.w p xs))
theorem Hk:∀{ps:List (List Int×Addr)} {us:List Value},Vals (ps.map fun p=>V.ref p.2) us→us=ps.map fun p=>Value.ref p.2
 | [],us,r=>by rw[j8] at r;cases r;rfl
 |p::ps,us,r=>by
  rw[dM] at r
  cases r with
  |cons r1 r2=>
   rw[Hk r2]
   have r1:_=Value.ref p.2:=r1
   rw[r1]
   rfl
theorem OQ(hc:X.calm=true)(hu:X.A.units+8<cLine):BD X (.type "set") (bM X):=by
 intro pins s σ H vs us Q I r h
 obtain⟨a,ps,rfl,hl,hk,hz,q⟩:=h
 obtain⟨u,rfl,ru⟩:=Vals.one r
 cases ru
 obtain⟨its,rv,p,_⟩:=I.list hl
 refine StT.GO (ps:=ps) (I.ok.hd hc) p.isList (by simpa using Hk rv) (fun k x hx=>I.ik (hk k x hx)) hz hu fun h' tk xs sx so kp=>?_
 have hf:H s.heap.objs.size=none:=I.hok.fresh (dm _)
 have nd:(xs.map (·.1)).Nodup:=by obtain⟨_,_,_,_,S⟩:=sx;exact S.nd
 exact⟨.ref s.heap.objs.size,upd H s.heap.objs.size (SetO X.prog X.w s.heap.objs.size xs),I.laid (t':=tk) (fun b u e=>kp b u (du e) e) (dm _) (TK sx),rfl,q _ _ hf so nd⟩
def Wi(X:Cx):List V→Hp→VK→Prop:=fun vs H Q=>∃p xs,vs=[.ref p]∧H p=some (SetO X.prog X.w p xs)∧QF X.K H xs∧xs.length≤300∧(∀k x,(k,x)∈xs→∃i j,k=[i,j]∧0≤j∧j<65536)∧
 ∀(q:Addr) (ys:List (List Int×Addr)),H q=none→ys.Perm xs→ys.Pairwise (fun x y=>65536*x.1.getD 0 0+x.1.getD 1 0≤65536*y.1.getD 0 0+y.1.getD 1 0)→Q (.ref q) (upd H q (.lst (ys.map fun p=>V.ref p.2)))
theorem Hl:∀(ps:List (List Int×Addr)),Vals (ps.map fun p=>V.ref p.2) (ps.map fun p=>Value.ref p.2)
 | []=> .nil
 |p::ps=> .cons rfl (Hl ps)
theorem Ic(hc:X.calm=true):BD X (.builtin "sorted") (Wi X):=by
 intro pins s σ H vs us Q I r h
 obtain⟨p,xs,rfl,hp,hk,hz,h2,q⟩:=h
 obtain⟨u,rfl,ru⟩:=Vals.one r
 cases ru
 obtain⟨⟨o,es,ep,t,g1,g2,g3,g4,g5,g6,g7,g8,g9⟩,_,_⟩:=I.hok p _ hp
 refine StT.Ld (xs:=xs) (I.ok.hd hc) ⟨o,es,ep,t,g1,g2,g3,g4,fun i k x e=>I.ik (hk k x (dj e)),g5,g6,g7,g8,g9⟩ hz h2 fun h' tk ys D c hD hg kp pm pw=>?_
 have hf:H D=none:=I.hok.none_of hD
 refine⟨.ref D,upd H D (.lst (ys.map fun p=>V.ref p.2)),I.laidF (t':=tk) kp hD ⟨?_,_,c,Hl ys,hg⟩,rfl,q D ys hf pm pw⟩
 rw[c9,pm.length_eq,fh]
 omega
end
end L2
namespace ZpT
open PySem PySem.Spec PyProof.Rows
section
variable{prog:Program}{w:World}
end
section
variable{prog:Program}{w:World}{A:dH}{E:Value→b6→Prop}{s:b6}
variable{z TI TO i1 i2 l1 l2:Addr}{xs ys:Array Value}{S1 S2:Nat→Heap→Prop}
end
end ZpT
namespace L2
open PySem PySem.Spec PyProof.Rows
section
variable{X:Cx}
theorem Inv.turns{pins:List (Addr×Obj)}{σ:St}{H:Hp}{s:b6}{h':Heap}{t':Nat}{ch:List Addr}(I:Inv X pins σ H s)(hf:∀b∈ch,Fp X pins H b)(k:∀b o,b∉ch→s.heap.get? b=some o→h'.get? b=some o):Inv X pins σ H {s with heap:=h',toks:=t'}:=by
 refine I.call' (s':={s with heap:=h',toks:=t'}) (ch:=ch) rfl ⟨fun b o e _ _ hb=>k b o hb e,fun b o e _ _ hb=> ⟨o.slots,k b o hb e⟩,fun _ _ _ n _=>n,fun b o e hb=> ⟨o,k b o hb e⟩,fun _ _ e=>e,fun _ _ _ e=>e,fun b ps e=> ⟨#[],by rw[e];simp⟩⟩ (I.hok.by_keep fun b o hb e=>k b o (fun z=>hb (hf b z).1) e) I.bare fun b hb=>?_
 obtain⟨_,q2,q3,q4,q5,q6⟩:=hf b hb
 exact⟨q4,q2,q5,q6⟩
end
open PySem.Calls
section
variable{X:Cx}
def VC(K:b5)(H:Hp)(a:Addr)(xs:List V):Prop:=Cr K H a xs∨II K H a xs
theorem Inv.walk{pins:List (Addr×Obj)}{σ:St}{H:Hp}{s:b6}{a:Addr}{xs:List V}(I:Inv X pins σ H s)(hq:VC X.K H a xs):∃its:List Value,Vals xs its∧a<s.heap.objs.size∧∀(A:dH) (E:Value→b6→Prop) (Q:Value→b6→Prop),A.handled=none→
  (∀(o:Obj) (St:Nat→Heap→Prop),Walks X.prog X.w A s.heap.objs.size [s.heap.objs.size,a] [s.heap.objs.size] its.length (fun i v=>its[i]?=some v) St→St 0 (s.heap.push o)→Q (.ref s.heap.objs.size) {s with heap:=s.heap.push o})→wpAny (model X.prog X.w) A (lJ (.ref a)) Q E s:=by
 rcases hq with hq|hq
 ·obtain⟨its,rv,p,_⟩:=I.list hq
  have lt:a<s.heap.objs.size:=by obtain⟨_,_,e,_⟩:=p;exact du e
  refine⟨its,rv,lt,fun A E Q hh h=>kB p.isList ?_⟩
  have W:=Walks.list (prog:=X.prog) (w:=X.w) (A:=A) hh s.heap.objs.size a (dN lt) its.toArray
  have W':Walks X.prog X.w A s.heap.objs.size [s.heap.objs.size,a] [s.heap.objs.size] its.length (fun i v=>its[i]?=some v) (fun i h=>h.IsListIter s.heap.objs.size a i∧h.IsList a its.toArray):=by simpa using W
  exact h _ _ W' ⟨⟨_,dF _ rfl,rfl,rfl⟩,p.isList.push _⟩
 ·obtain⟨its,rv,p,_⟩:=I.tuple hq
  have lt:a<s.heap.objs.size:=by obtain⟨_,e,_⟩:=p;exact du e
  refine⟨its,rv,lt,fun A E Q hh h=>wpAny_pyIter_tuple (items:=its.toArray) p ?_⟩
  have W:=Walks.tuple (prog:=X.prog) (w:=X.w) (A:=A) hh s.heap.objs.size a (dN lt) its.toArray
  have W':Walks X.prog X.w A s.heap.objs.size [s.heap.objs.size,a] [s.heap.objs.size] its.length (fun i v=>its[i]?=some v) (fun i h=>h.IsTupleIter s.heap.objs.size a i∧h.IsTuple a its.toArray):=by simpa using W
  have p':s.heap.IsTuple a its.toArray:=p
  exact h _ _ W' ⟨⟨_,dF _ rfl,rfl,rfl⟩,p'.at fun o e=>da _ e⟩
theorem DC{s:b6}{o:Obj}{h':Heap}(hk:∀b x,b∉[s.heap.objs.size]→(s.heap.push o).get? b=some x→h'.get? b=some x):∀b x,s.heap.get? b=some x→h'.get? b=some x:=fun b x e=>
 hk b x (by simpa using dN (du e)) (da _ e)
theorem TM{bs:List Bool}:∀{us:List Value},Vals (bs.map V.bl) us→us=bs.map km:=by
 induction bs with
 |nil=>intro us r;rw[j8] at r;cases r;rfl
 |cons b bs ih=>
  intro us r
  rw[dM] at r
  cases r with
  |cons r1 r2=>
   cases r1
   rw[ih r2];rfl
theorem KC(bs:List Bool):((dE bs.length).all fun i=> (bs[i]?).getD true)=bs.all id:=LSm.range_all bs
theorem QG(hc:X.calm=true):BD X (.builtin "all") (fun vs H Q=>∃(a:Addr) (bs:List Bool),vs=[.ref a]∧VC X.K H a (bs.map V.bl)∧Q (.bl (bs.all id)) H):=by
 intro pins s σ H vs us Q I r h
 obtain⟨a,bs,rfl,hq,q⟩:=h
 obtain⟨u,rfl,ru⟩:=De r
 cases ru
 obtain⟨its,rv,lt,wk⟩:=I.walk hq
 have e:=TM rv
 refine call_all_walk (wk X.A.in1 _ _ (I.ok.hd hc) fun o St W st=> ⟨_,_,_,_,_,_,fun i=> (bs[i]?).getD true,rfl,W,st,fun i v s' Q' E' hP hQ=>?_,fun h' tk hk=>?_⟩)
 ·rw[e,b9] at hP
  cases hb:bs[i]? with
  |none=>rw[hb] at hP;cases hP
  |some b=>
   rw[hb] at hP
   cases hP
   simp only[hb,Option.getD_some] at hQ
   exact gS hQ
 ·have e2:its.length=bs.length:=by rw[e,c9]
  rw[e2,KC]
  exact⟨.bl _,H,I.kept (t':=tk) (DC hk),rfl,q⟩
theorem BL{ns:List Int}{us:List Value}(r:Vals (ns.map V.int) us)(i:Nat)(v:Value)(h:us[i]?=some v):∃t,v=.int (ns.getD i 0) t:=by
 have hl:=r.length
 have hi:i<ns.length:=by
  have:=(dt.mp h).1
  rw[c9] at hl;omega
 obtain⟨u,e,t,rfl⟩:=r.get (i:=i) (x:=.int ns[i]) (by simp[hi])
 rw[h] at e;cases e
 exact⟨t,by simp[iD,hi]⟩
def GP(ns:List Int)(m:Int):Prop:=m∈ns∧∀n∈ns,m≤n
def Bp(ns:List Int)(m:Int):Prop:=m∈ns∧∀n∈ns,n≤m
theorem ED{ns:List Int}{i:Nat}(h:i<ns.length):ns.getD i 0∈ns:=by simp[iD,h]
theorem OR(hc:X.calm=true):BD X (.builtin "min") (fun vs H Q=>∃(a:Addr) (ns:List Int),vs=[.ref a]∧VC X.K H a (ns.map V.int)∧0<ns.length∧∀m,GP ns m→Q (.int m) H):=by
 intro pins s σ H vs us Q I r h
 obtain⟨a,ns,rfl,hq,h0,q⟩:=h
 obtain⟨u,rfl,ru⟩:=De r
 cases ru
 obtain⟨its,rv,lt,wk⟩:=I.walk hq
 have hl:its.length=ns.length:=by have:=rv.length;rw[c9] at this;exact this.symm
 refine call_min_walk (wk X.A.in1 _ _ (I.ok.hd hc) fun o St W st=> ⟨_,_,_,_,_,_,_,rfl,W,st,fun b hb=>?_,by omega,CmpOf.ints_lt (fun i=>ns.getD i 0) (fun i v hv=>BL rv i v hv),fun v h' tk hP hk=>?_⟩)
 ·show b< (s.heap.push o).objs.size
  rw[fL]
  simp only[dh,dI,or_false] at hb
  rcases hb with rfl|rfl
  ·exact gL _
  ·exact fA lt
 ·obtain⟨t,rfl⟩:=BL rv _ v hP
  obtain⟨b1,b2⟩:=argBest_lt (fun i=>ns.getD i 0) (its.length-1)
  exact⟨.int _,H,I.kept (t':=tk) (DC hk),⟨t,rfl⟩,q _ ⟨ED (by omega),fun n hn=>by
   obtain⟨j,hj,rfl⟩:=iR hn
   have:=b2 j (by omega)
   simpa[iD,hj] using this⟩⟩
theorem OS(hc:X.calm=true):BD X (.builtin "max") (fun vs H Q=>∃(a:Addr) (ns:List Int),vs=[.ref a]∧VC X.K H a (ns.map V.int)∧0<ns.length∧∀m,Bp ns m→Q (.int m) H):=by
 intro pins s σ H vs us Q I r h
 obtain⟨a,ns,rfl,hq,h0,q⟩:=h
 obtain⟨u,rfl,ru⟩:=De r
 cases ru
 obtain⟨its,rv,lt,wk⟩:=I.walk hq
 have hl:its.length=ns.length:=by have:=rv.length;rw[c9] at this;exact this.symm
 refine call_max_walk (wk X.A.in1 _ _ (I.ok.hd hc) fun o St W st=> ⟨_,_,_,_,_,_,_,rfl,W,st,fun b hb=>?_,by omega,CmpOf.ints_gt (fun i=>ns.getD i 0) (fun i v hv=>BL rv i v hv),fun v h' tk hP hk=>?_⟩)
 ·show b< (s.heap.push o).objs.size
  rw[fL]
  simp only[dh,dI,or_false] at hb
  rcases hb with rfl|rfl
  ·exact gL _
  ·exact fA lt
 ·obtain⟨t,rfl⟩:=BL rv _ v hP
  obtain⟨b1,b2⟩:=argBest_gt (fun i=>ns.getD i 0) (its.length-1)
  exact⟨.int _,H,I.kept (t':=tk) (DC hk),⟨t,rfl⟩,q _ ⟨ED (by omega),fun n hn=>by
   obtain⟨j,hj,rfl⟩:=iR hn
   have:=b2 j (by omega)
   simpa[iD,hj] using this⟩⟩
theorem KE:BD X (.type "tuple") (fun vs H Q=>∃a xs,vs=[.ref a]∧Cr X.K H a xs∧∀p,H p=none→Q (.ref p) (upd H p (.tup xs))):=by
 intro pins s σ H vs us Q I r h
 obtain⟨a,xs,rfl,hq,q⟩:=h
 obtain⟨u,rfl,ru⟩:=De r
 cases ru
 obtain⟨its,rv,p,hz⟩:=I.list hq
 have hl:=rv.length
 refine call_tuple_list p.isList (fun h' hk=>?_) (by simpa[←hl] using hz)
 have hn:s.heap.get? h'.objs.size=none:=by
  cases e:s.heap.get? h'.objs.size with
  |none=>rfl
  |some o=>exact absurd (du (hk _ _ e)) (e6 _)
 exact⟨.ref h'.objs.size,upd H h'.objs.size (.tup xs),I.laidF (t':=s.toks) (fun b u e=>da _ (hk b u e)) hn ⟨hz,its,rv,⟨_,dF _ rfl,rfl,_,rfl⟩⟩,rfl,q _ (I.hok.none_of hn)⟩
theorem GQ:BD X (.type "list") (fun vs H Q=>∃a xs,vs=[.ref a]∧VC X.K H a xs∧∀p,H p=none→Q (.ref p) (upd H p (.lst xs))):=by
 intro pins s σ H vs us Q I r h
 obtain⟨a,xs,rfl,hq,q⟩:=h
 obtain⟨u,rfl,ru⟩:=De r
 cases ru
 have hf:H s.heap.objs.size=none:=I.hok.fresh (dm _)
 have fin:∀(its:List Value) (h':Heap) (c:Nat),Vals xs its→xs.length≤sizeLine→(∀b o',s.heap.get? b=some o'→h'.get? b=some o')→h'.get? s.heap.objs.size=some {cls:=.type "list",dict:=none,data:=.seq its.toArray c,slots:=#[]}→EP X pins σ Q (.ref s.heap.objs.size) {s with heap:=h'}:=fun its h' c rv hz hk hD=>
  ⟨.ref s.heap.objs.size,upd H s.heap.objs.size (.lst xs),I.laid (t':=s.toks) hk (dm _) ⟨hz,its,c,rv,hD⟩,rfl,q _ hf⟩
 rcases hq with hq|hq
 ·obtain⟨its,rv,⟨o,n,ho,hc,hd,hdt⟩,hz⟩:=I.list hq
  have hl:=rv.length
  exact call_list_seq (hsz:=by simpa[←hl] using hz) a (.inl rfl) ho hc hdt fun h' c' hk hD=>fin its h' c' rv hz hk hD
 ·obtain⟨its,rv,⟨o,ho,hc,n,hdt⟩,hz⟩:=I.tuple hq
  have hl:=rv.length
  exact call_list_seq (hsz:=by simpa[←hl] using hz) a (.inr rfl) ho hc hdt fun h' c' hk hD=>fin its h' c' rv hz hk hD
end
end L2
namespace HT
open PySem PySem.Spec PyProof.Rows
section
open PySem.SeqAt
open PySem.AutoSeq1 (wpAny_loadPart')
open PySem.MeetsSeq PySem.MeetsSeq2 PySem.MeetsSeq3
end
section
variable{prog:Program}{w:World}{A:dH}{E:Value→b6→Prop}{s:b6}
theorem Dd{t sl:Addr}{items:Array Value}{vl vu:Value}{lo hi:Option Int}{Q:Value→b6→Prop}(ht:IsTup s.heap t items)(hs:s.heap.IsSliceOf sl vl vu .none)(pl:lu vl lo)(pu:lu vu hi)
  (h1:BG items.size 0 lo=0) (h2:BG items.size items.size hi=items.size) (h:Q (.ref t) s):wpAny (model prog w) A (lY (.ref t) (.ref sl)) Q E s:=by
 obtain⟨os,hos,hcs,hds⟩:=id hs
 have hTs:s.TypeIs (.ref sl) "slice":=⟨os,hos,hcs⟩
 unfold lY
 try with_reducible refine ef ?_
 first|refine b4 (b7 ?_)|skip
 refine b4 (wpAny_sequenceKey ht.typeIs (by decide) ?_)
 refine b4 (iS (name:=lg "__getitem__") ht.typeIs fq
  (gq fq ht.typeIs entry_tuple_getitem ?_ (args_tuple_getitem _ _)))
 show wpAny _ _ (Builtin.Tuple.tupleItemsOf (.ref t)>>=_) _ _ s
 refine b4 (tupleItemsOf_ ht ?_)
 refine b4 (j5 hTs ?_)
 rw[if_pos (by decide)]
 refine b4 (CB hs pl pu ?_)
 rw[h1,h2]
 show wpAny _ _ (if(((0:Nat):Int)==0&&(1:Int)==1&&(items.size-0)==items.size)=true then _ else _) _ _ s
 rw[if_pos (by simp)]
 unfold Builtin.Tuple.tupleIsExact
 refine b4 (b4 (j5 ht.typeIs (b7 ?_)))
 rw[if_pos (by decide)]
 exact b4 (iW (b7 ⟨_,rfl,b7 h⟩))
end
end HT
namespace L2
open PySem PySem.Spec PyProof.Rows
section
variable{X:Cx}{e:Expr}{te:TE}{pos p2 p3 p4:Pos}
def ZA(K:b5):V→Option Int→Option Int→Hp→VK→Prop:=fun x lo hi H Q=>∃a xs,x=.ref a∧II K H a xs∧∀p H',((p=a∧H'=H∧Eh xs lo hi=xs)∨(H p=none∧H'=upd H p (.tup (Eh xs lo hi))))→Q (.ref p) H'
theorem TN:aW X (ZA X.K):=by
 intro pins s σ H x v vl vu lo hi sl Q I rx hs pl pu h
 obtain⟨a,xs,rfl,hx,q⟩:=h
 cases rx
 by_cases hw:HT.BG xs.length 0 lo=0∧HT.BG xs.length xs.length hi=xs.length
 ·obtain⟨its,r,ht,hz⟩:=I.tuple hx
  have hlen:its.toArray.size=xs.length:=by rw[dv];exact r.length.symm
  refine⟨"tuple",_,fq.lookup,ht.typeIs,HT.Dd ht hs pl pu (by rw[hlen];exact hw.1) (by rw[hlen];exact hw.2) ⟨.ref a,H,I,rfl,q a H (.inl ⟨rfl,rfl,?_⟩)⟩⟩
  unfold Eh
  rw[hw.1,hw.2]
  simp
 ·exact WL pins s σ H (.ref a) (.ref a) vl vu lo hi sl Q I rfl hs pl pu ⟨a,xs,rfl,hx,hw,fun p hp=>q p _ (.inr ⟨hp,rfl⟩)⟩
end
end L2
namespace L2.TL
open PySem PySem.Spec PyProof.Rows
inductive T where
 |non|bl (b:Bool)|int (i:Int)|str (x:Str)|tup (ts:List T)|lst (ts:List T)|frz (ts:List T)|dct|raw (v:V)
abbrev AH:=Addr→Option (List T)
def Aj(O:AH)(a:Addr)(ts:List T):AH:=fun b=>if b=a then some ts else O b
def Dg(O:AH)(a:Addr):AH:=fun b=>if b=a then none else O b
theorem AG{O:AH}{a:Addr}{ts:List T}:Aj O a ts a=some ts:=by unfold Aj;rw[if_pos rfl]
theorem AZ{O:AH}{a b:Addr}{ts:List T}(h:b≠a):Aj O a ts b=O b:=by unfold Aj;rw[if_neg h]
theorem Bt{O:AH}{a:Addr}{ts us:List T}:Aj (Aj O a ts) a us=Aj O a us:=by
 funext b;unfold Aj;split<;>rfl
theorem CV{O:AH}{a:Addr}:Dg O a a=none:=by unfold Dg;rw[if_pos rfl]
theorem EE{O:AH}{a b:Addr}(h:b≠a):Dg O a b=O b:=by unfold Dg;rw[if_neg h]
mutual
inductive Rep (K:b5) (O:AH) (H:Hp):V→T→Prop
 |non:Rep K O H .non .non
 |bl (b:Bool):Rep K O H (.bl b) (.bl b)
 |int (i:Int):Rep K O H (.int i) (.int i)
 |str (x:Str):Rep K O H (.str x) (.str x)
 |tup {a:Addr} {xs:List V} {ts:List T}:H a=some (.tup xs)→Reps K O H xs ts→Rep K O H (.ref a) (.tup ts)
 |lst {a:Addr} {xs:List V} {ts:List T}:H a=some (.lst xs)→O a=none→Reps K O H xs ts→Rep K O H (.ref a) (.lst ts)
 |frz {a:Addr} {o:Obj} {xs:List V} {ts:List T}:H a=some (.frz o (.lst xs))→Reps K O H xs ts→Rep K O H (.ref a) (.frz ts)
 |dct {a:Addr}:H a=some (.dK [])→Rep K O H (.ref a) .dct
 |raw (v:V):Rep K O H v (.raw v)
inductive Reps (K:b5) (O:AH) (H:Hp):List V→List T→Prop
 |nil:Reps K O H [] []
 |cons {v:V} {t:T} {vs:List V} {ts:List T}:Rep K O H v t→Reps K O H vs ts→Reps K O H (v::vs) (t::ts)
end
section
variable{K:b5}{O O' O1:AH}{H H' H1:Hp}
mutual
theorem Rep.mono (hT:∀a o,H a=some o→(∀xs,o≠.lst xs)→H' a=some o) (hL:∀a xs,H a=some (.lst xs)→O a=none→H' a=some (.lst xs)∧O' a=none):∀{v:V} {t:T},Rep K O H v t→Rep K O' H' v t
 |_,_,.non=> .non
 |_,_,.bl b=> .bl b
 |_,_,.int i=> .int i
 |_,_,.str x=> .str x
 |_,_,.tup h r=> .tup (hT _ _ h fun _ z=>by cases z) (Reps.mono hT hL r)
 |_,_,.lst h o r=> .lst (hL _ _ h o).1 (hL _ _ h o).2 (Reps.mono hT hL r)
 |_,_,.frz h r=> .frz (hT _ _ h fun _ z=>by cases z) (Reps.mono hT hL r)
 |_,_,.dct h=> .dct (hT _ _ h fun _ z=>by cases z)
 |_,_,.raw v=> .raw v
theorem Reps.mono (hT:∀a o,H a=some o→(∀xs,o≠.lst xs)→H' a=some o) (hL:∀a xs,H a=some (.lst xs)→O a=none→H' a=some (.lst xs)∧O' a=none):∀{v:List V} {t:List T},Reps K O H v t→Reps K O' H' v t
 |_,_,.nil=> .nil
 |_,_,.cons h r=> .cons (Rep.mono hT hL h) (Reps.mono hT hL r)
end
theorem Reps.length:∀{vs:List V} {ts:List T},Reps K O H vs ts→vs.length=ts.length
 |_,_,.nil=>rfl
 |_,_,.cons _ r=>congrArg (· +1) r.length
theorem Reps.get:∀{vs:List V} {ts:List T} {i:Nat} {t:T},Reps K O H vs ts→ts[i]?=some t→∃v,vs[i]?=some v∧Rep K O H v t
 |_,_,_,_,.nil,e=>by simp at e
 |_,_,0,_,.cons h _,e=>by simp at e;subst e;exact⟨_,rfl,h⟩
 |_,_,i+1,t,.cons _ r,e=>by
  obtain⟨u,h1,h2⟩:=Reps.get (i:=i) (t:=t) r (by simpa using e)
  exact⟨u,by simpa using h1,h2⟩
theorem Reps.append:∀{vs ws:List V} {ts us:List T},Reps K O H vs ts→Reps K O H ws us→Reps K O H (vs++ws) (ts++us)
 |_,_,_,_,.nil,s=>s
 |_,_,_,_,.cons h r,s=> .cons h (r.append s)
theorem Reps.take:∀{vs:List V} {ts:List T} (n:Nat),Reps K O H vs ts→Reps K O H (vs.take n) (ts.take n)
 |_,_,0,_=> .nil
 |_,_,_+1,.nil=> .nil
 |_,_,n+1,.cons h r=> .cons h (r.take n)
theorem Reps.drop:∀{vs:List V} {ts:List T} (n:Nat),Reps K O H vs ts→Reps K O H (vs.drop n) (ts.drop n)
 |_,_,0,r=>r
 |_,_,_+1,.nil=> .nil
 |_,_,n+1,.cons h r=>r.drop n
theorem Reps.set{x:V}{t:T}(h:Rep K O H x t):∀{vs:List V} {ts:List T} (i:Nat),Reps K O H vs ts→Reps K O H (vs.set i x) (ts.set i t)
 |_,_,_,.nil=> .nil
 |_,_,0,.cons _ r=> .cons h r
 |_,_,i+1,.cons q r=> .cons q (Reps.set h i r)
theorem Reps.one{v:V}{t:T}(h:Rep K O H v t):Reps K O H [v] [t]:=.cons h .nil
def Kp(O:AH)(H:Hp)(O':AH)(H':Hp):Prop:=∀b o,H b=some o→O b=none→H' b=some o∧O' b=none
def OwnOk(K:b5)(O:AH)(H:Hp):Prop:=∀a ts,O a=some ts→∃xs,H a=some (.lst xs)∧Reps K O H xs ts
theorem OwnOk.free(w:OwnOk K O H){a:Addr}{o:HO}(h:H a=some o)(hn:∀xs,o≠.lst xs):O a=none:=by
 cases e:O a with
 |none=>rfl
 |some ts=>
  obtain⟨xs,e',_⟩:=w a ts e
  rw[h] at e'
  exact absurd (dW.inj e') (hn xs)
theorem OwnOk.none_of(w:OwnOk K O H){a:Addr}(h:H a=none):O a=none:=by
 cases e:O a with
 |none=>rfl
 |some ts=>
  obtain⟨xs,e',_⟩:=w a ts e
  rw[h] at e';cases e'
theorem Kp.refl:Kp O H O H:=fun _ _ h n=> ⟨h,n⟩
theorem Kp.trans(a:Kp O H O1 H1)(b:Kp O1 H1 O' H'):Kp O H O' H':=fun c o h n=>b c o (a c o h n).1 (a c o h n).2
theorem Kp.oth(k:Kp O H O' H')(w:OwnOk K O H){a:Addr}{o:HO}(h:H a=some o)(hn:∀xs,o≠.lst xs):H' a=some o:=(k a _ h (w.free h hn)).1
theorem Kp.lst(k:Kp O H O' H'){a:Addr}{xs:List V}(h:H a=some (.lst xs))(n:O a=none):H' a=some (.lst xs)∧O' a=none:=k a _ h n
theorem Rep.kp(k:Kp O H O' H')(w:OwnOk K O H){v:V}{t:T}(r:Rep K O H v t):Rep K O' H' v t:=r.mono (fun _ _ h hn=>k.oth w h hn) fun _ _=>k.lst
theorem Reps.kp(k:Kp O H O' H')(w:OwnOk K O H){v:List V}{t:List T}(r:Reps K O H v t):Reps K O' H' v t:=r.mono (fun _ _ h hn=>k.oth w h hn) fun _ _=>k.lst
structure Frm(K:b5)(O:AH)(H:Hp)(O':AH)(H':Hp):Prop where
 kp:Kp O H O' H'
 own:∀b ts,O b=some ts→∃ts',O' b=some ts'
 ok:OwnOk K O' H'
theorem Frm.refl(w:OwnOk K O H):Frm K O H O H:=⟨.refl,fun _ ts e=> ⟨ts,e⟩,w⟩
theorem Frm.trans(a:Frm K O H O1 H1)(b:Frm K O1 H1 O' H'):Frm K O H O' H':=⟨a.kp.trans b.kp,fun c ts e=>by
 obtain⟨t1,e1⟩:=a.own c ts e
 exact b.own c t1 e1,b.ok⟩
theorem BZ{p:Addr}{o:HO}(w:OwnOk K O H)(hp:H p=none):Kp O H O (upd H p o):=fun b u h n=> ⟨by rw[AR (AN h hp)];exact h,n⟩
theorem Frm.new{p:Addr}{o:HO}(w:OwnOk K O H)(hp:H p=none):Frm K O H O (upd H p o) where
 kp:=BZ w hp
 own:=fun _ ts e=> ⟨ts,e⟩
 ok:=fun a ts e=>by
  obtain⟨xs,h,r⟩:=w a ts e
  exact⟨xs,by rw[AR (AN h hp)];exact h,r.kp (BZ w hp) w⟩
theorem Ie{p:Addr}{o:HO}{ts:List T}(w:OwnOk K O H)(hp:H p=none):Kp O H (Aj O p ts) (upd H p o):=fun b u h n=>by
 have:=AN h hp
 rw[AR this,AZ this]
 exact⟨h,n⟩
theorem Frm.newO{p:Addr}{xs:List V}{ts:List T}(w:OwnOk K O H)(hp:H p=none)(r:Reps K O H xs ts):Frm K O H (Aj O p ts) (upd H p (.lst xs)) where
 kp:=Ie w hp
 own:=fun b us e=>by
  by_cases hb:b=p
  ·exact⟨ts,by rw[hb,AG]⟩
  ·exact⟨us,by rw[AZ hb];exact e⟩
 ok:=fun a us e=>by
  by_cases hb:a=p
  ·subst hb
   rw[AG] at e;cases e
   exact⟨xs,AX,r.kp (Ie w hp) w⟩
  ·rw[AZ hb] at e
   obtain⟨ys,h,q⟩:=w a us e
   exact⟨ys,by rw[AR hb];exact h,q.kp (Ie w hp) w⟩
theorem Le{a:Addr}{o:HO}{ts us:List T}(ha:O a=some ts):Kp O H (Aj O a us) (upd H a o):=fun b u h n=>by
 have:b≠a:=fun z=>by rw[z,ha] at n;cases n
 rw[AR this,AZ this]
 exact⟨h,n⟩
theorem Frm.put{a:Addr}{xs:List V}{ts us:List T}(w:OwnOk K O H)(ha:O a=some ts)(r:Reps K O H xs us):Frm K O H (Aj O a us) (upd H a (.lst xs)) where
 kp:=Le ha
 own:=fun b vs e=>by
  by_cases hb:b=a
  ·exact⟨us,by rw[hb,AG]⟩
  ·exact⟨vs,by rw[AZ hb];exact e⟩
 ok:=fun b vs e=>by
  by_cases hb:b=a
  ·subst hb
   rw[AG] at e;cases e
   exact⟨xs,AX,r.kp (Le ha) w⟩
  ·rw[AZ hb] at e
   obtain⟨ys,h,q⟩:=w b vs e
   exact⟨ys,by rw[AR hb];exact h,q.kp (Le ha) w⟩
theorem CW{a:Addr}:Kp O H (Dg O a) H:=fun b u h n=> ⟨h,by
 by_cases hb:b=a
 ·rw[hb,CV]
 ·rw[EE hb];exact n⟩
theorem OwnOk.drop{a:Addr}(w:OwnOk K O H):OwnOk K (Dg O a) H:=fun b ts e=>by
 by_cases hb:b=a
 ·rw[hb,CV] at e;cases e
 ·rw[EE hb] at e
  obtain⟨xs,h,r⟩:=w b ts e
  exact⟨xs,h,r.kp CW w⟩
theorem OwnOk.rep{a:Addr}{ts:List T}(w:OwnOk K O H)(e:O a=some ts):Rep K (Dg O a) H (.ref a) (.lst ts):=by
 obtain⟨xs,h,r⟩:=w a ts e
 exact .lst h CV (r.kp CW w)
end
def Rl(K:b5)(O:AH)(H:Hp)(σ:St)(ρ:List (Option T)):Prop:=σ.length=ρ.length∧∀(i:Nat) (t:T),ρ[i]?=some (some t)→∃v,σ[i]?=some (some v)∧Rep K O H v t
section
variable{K:b5}{O O':AH}{H H':Hp}{σ:St}{ρ:List (Option T)}
theorem Rl.kp(k:Kp O H O' H')(w:OwnOk K O H)(r:Rl K O H σ ρ):Rl K O' H' σ ρ:=⟨r.1,fun i t e=>by
 obtain⟨v,h1,h2⟩:=r.2 i t e
 exact⟨v,h1,h2.kp k w⟩⟩
theorem Rl.set{i:Nat}{v:V}{t:T}(r:Rl K O H σ ρ)(h:Rep K O H v t):Rl K O H (σ.set i (some v)) (ρ.set i (some t)):=⟨by simpa using r.1,fun j u e=>by
 by_cases hj:j=i
 ·subst hj
  have hl:j<ρ.length:=by
   have:=(dt.mp e).1
   simpa using this
  rw[eD hl] at e
  cases e
  exact⟨v,by rw[eD (by rw[r.1];exact hl)],h⟩
 ·rw[dX (Ne.symm hj)] at e ⊢
  exact r.2 j u e⟩
end
structure Zx where
 X:Cx
 Oe:AH
 He:Hp
 Xi:Value→AH→Prop
abbrev Zx.K(Z:Zx):b5:=Z.X.K
def Zx.W(Z:Zx):St→XK:=fun _ cls d H'=>d=none∧∃O',Z.Xi cls O'∧Frm Z.K Z.Oe Z.He O' H'
structure Asr(Z:Zx)(ρ:List (Option T))(O:AH)(σ:St)(H:Hp):Prop where
 rl:Rl Z.K O H σ ρ
 fr:Frm Z.K Z.Oe Z.He O H
section
variable{Z:Zx}{ρ:List (Option T)}{O O':AH}{σ:St}{H H':Hp}
theorem Asr.ok(a:Asr Z ρ O σ H):OwnOk Z.K O H:=a.fr.ok
theorem Asr.step(a:Asr Z ρ O σ H)(f:Frm Z.K O H O' H'):Asr Z ρ O' σ H':=⟨a.rl.kp f.kp a.ok,a.fr.trans f⟩
theorem Asr.refl(a:Asr Z ρ O σ H):Frm Z.K O H O H:=.refl a.ok
end
abbrev BQ:=T→AH→Prop
abbrev Lf:=List T→AH→Prop
abbrev Jb:=Bool→AH→Prop
def Acc(K:b5)(O:AH)(H:Hp)(Φ:BQ)(Q:VK):Prop:=∀v H' t O',Φ t O'→Frm K O H O' H'→Rep K O' H' v t→Q v H'
def bN(K:b5)(O:AH)(H:Hp)(Φ:Lf)(Q:List V→Hp→Prop):Prop:=∀vs H' ts O',Φ ts O'→Frm K O H O' H'→Reps K O' H' vs ts→Q vs H'
def AccT(K:b5)(O:AH)(H:Hp)(Φ:Jb)(Q:Bool→Hp→Prop):Prop:=∀b H' O',Φ b O'→Frm K O H O' H'→Q b H'
def tW(Z:Zx)(ρ:List (Option T))(O:AH)(Φ:BQ):TE:=fun σ H Q=>Asr Z ρ O σ H∧Acc Z.K O H Φ Q
def cA(Z:Zx)(ρ:List (Option T))(O:AH)(Φ:Lf):TA:=fun σ H Q=>Asr Z ρ O σ H∧bN Z.K O H Φ Q
def YF(Z:Zx)(ρ:List (Option T))(O:AH)(Φ:Jb):TT:=fun σ H Q=>Asr Z ρ O σ H∧AccT Z.K O H Φ Q
def WE(Z:Zx)(ρ:List (Option T))(O:AH)(e:Expr)(Φ:BQ):Prop:=PE Z.X e (tW Z ρ O Φ)
def WA(Z:Zx)(ρ:List (Option T))(O:AH)(es:List Expr)(Φ:Lf):Prop:=PA Z.X es (cA Z ρ O Φ)
def WT(Z:Zx)(ρ:List (Option T))(O:AH)(e:Expr)(Φ:Jb):Prop:=PT Z.X e (YF Z ρ O Φ)
def WW(Z:Zx)(ρ:List (Option T))(O:AH)(e:Expr)(Φ:Jb):Prop:=PW Z.X e (YF Z ρ O Φ)
def ET(Z:Zx)(ρ:List (Option T))(O:AH)(e:Expr)(t:T):Prop:=∀Φ:BQ,Φ t O→WE Z ρ O e Φ
def EA(Z:Zx)(ρ:List (Option T))(O:AH)(es:List Expr)(ts:List T):Prop:=∀Φ:Lf,Φ ts O→WA Z ρ O es Φ
def EB(Z:Zx)(ρ:List (Option T))(O:AH)(e:Expr)(b:Bool):Prop:=∀Φ:Jb,Φ b O→WT Z ρ O e Φ
theorem PE.weak{X:Cx}{e:Expr}{t t':TE}(h:PE X e t)(w:∀σ H Q,t' σ H Q→t σ H Q):PE X e t':=fun pins s σ H Q I q=>h pins s σ H Q I (w σ H Q q)
theorem PA.weak{X:Cx}{e:List Expr}{t t':TA}(h:PA X e t)(w:∀σ H Q,t' σ H Q→t σ H Q):PA X e t':=fun pos pins s σ H Q I q=>h pos pins s σ H Q I (w σ H Q q)
theorem PT.weak{X:Cx}{e:Expr}{t t':TT}(h:PT X e t)(w:∀σ H Q,t' σ H Q→t σ H Q):PT X e t':=fun pins s σ H Q I q=>h pins s σ H Q I (w σ H Q q)
theorem PW.weak{X:Cx}{e:Expr}{t t':TT}(h:PW X e t)(w:∀σ H Q,t' σ H Q→t σ H Q):PW X e t':=fun whole pins s σ H Q I q=>h whole pins s σ H Q I (w σ H Q q)
theorem PS.weak{X:Cx}{e:Stmt}{t t':TS}(h:PS X e t)(w:∀D σ H,t' D σ H→t D σ H):PS X e t':=fun pins s σ H D I q=>h pins s σ H D I (w D σ H q)
theorem PSs.weak{X:Cx}{e:List Stmt}{t t':TS}(h:PSs X e t)(w:∀D σ H,t' D σ H→t D σ H):PSs X e t':=fun pins s σ H D I q=>h pins s σ H D I (w D σ H q)
def tX(Z:Zx)(ρ:List (Option T))(e:Expr):TE:=fun σ H Q=>∃O Φ,WE Z ρ O e Φ∧tW Z ρ O Φ σ H Q
theorem BR{Z:Zx}{ρ:List (Option T)}{e:Expr}:PE Z.X e (tX Z ρ e):=fun pins s σ H Q I ⟨_,_,w,q⟩=>w pins s σ H Q I q
def cS(Z:Zx)(ρ:List (Option T))(e:List Expr):TA:=fun σ H Q=>∃O Φ,WA Z ρ O e Φ∧cA Z ρ O Φ σ H Q
theorem Lg{Z:Zx}{ρ:List (Option T)}{e:List Expr}:PA Z.X e (cS Z ρ e):=fun pos pins s σ H Q I ⟨_,_,w,q⟩=>w pos pins s σ H Q I q
def cT(Z:Zx)(ρ:List (Option T))(e:Expr):TT:=fun σ H Q=>∃O Φ,WW Z ρ O e Φ∧YF Z ρ O Φ σ H Q
theorem ZC{Z:Zx}{ρ:List (Option T)}{e:Expr}:PW Z.X e (cT Z ρ e):=fun whole pins s σ H Q I ⟨_,_,w,q⟩=>w whole pins s σ H Q I q
section
variable{Z:Zx}{ρ:List (Option T)}{O:AH}{e a b:Expr}{es:List Expr}{Φ Φ':BQ}{pos:Pos}{t ta tb:T}{ts:List T}
theorem Acc.mono{K:b5}{H:Hp}{Q:VK}(h:Acc K O H Φ' Q)(w:∀t O',Φ t O'→Φ' t O'):Acc K O H Φ Q:=fun v H' t O' p=>h v H' t O' (w t O' p)
theorem Acc.step{K:b5}{H H1:Hp}{O1:AH}{Q:VK}(h:Acc K O H Φ Q)(f:Frm K O H O1 H1):Acc K O1 H1 Φ Q:=fun v H' t O' p f' r=>h v H' t O' p (f.trans f') r
theorem AccT.step{K:b5}{H H1:Hp}{O1:AH}{Φ:Jb}{Q:Bool→Hp→Prop}(h:AccT K O H Φ Q)(f:Frm K O H O1 H1):AccT K O1 H1 Φ Q:=fun v H' O' p f'=>h v H' O' p (f.trans f')
theorem DS(h:WE Z ρ O e Φ)(w:∀t O',Φ t O'→Φ' t O'):WE Z ρ O e Φ':=PE.weak h fun _ _ _ q=> ⟨q.1,q.2.mono w⟩
theorem ET.we(h:ET Z ρ O e t)(p:Φ t O):WE Z ρ O e Φ:=h Φ p
theorem Wj{i:Nat}{x:Str}(hN:Z.X.N[i]?=some x)(hv:YD Z.X.env.scope x)(e:ρ[i]?=some (some t))(p:Φ t O)(hd:(x==("__debug__" :Str))=false:=by decide)(hcd:(x==("__classdict__" :Str))=false:=by decide):WE Z ρ O (.Name x pos) Φ:=
 PE.weak (PD hN hv hd hcd) fun σ H Q q=>by
  obtain⟨v,h1,h2⟩:=q.1.rl.2 i t e
  exact⟨v,h1,q.2 v H t O p q.1.refl h2⟩
theorem ev(i:Nat){x:Str}(e:ρ[i]?=some (some t):=by rfl)(hN:Z.X.N[i]?=some x:=by rfl)(hv:YD Z.X.env.scope x:=by first|exact lQ rfl|exact kS (lQ rfl)|exact kS (kS rfl))(hd:(x==("__debug__" :Str))=false:=by decide)
  (hcd:(x==("__classdict__" :Str))=false:=by decide):ET Z ρ O (.Name x pos) t:=fun _ p=>Wj hN hv e p hd hcd
theorem QH{v:V}(h:PE Z.X e (tC v))(r:∀O H,Rep Z.K O H v t):ET Z ρ O e t:=fun _ p=>PE.weak h fun _ H _ q=>q.2 v H _ O p q.1.refl (r O H)
theorem AC{i:Int}{j:Nat}:ET Z ρ O (.Constant (.int i) j pos) (.int i):=QH PF fun _ _=> .int i
theorem VD{i:Bool}{j:Nat}:ET Z ρ O (.Constant (.bool i) j pos) (.bl i):=QH YH fun _ _=> .bl i
theorem Dl{j:Nat}:ET Z ρ O (.Constant .none j pos) .non:=QH Vf fun _ _=> .non
theorem CY{x:Str}{i:Int}(hm:∃t:Tok,Z.X.mg x=some (.int i t))(hg:Gl Z.X x:=by rfl)(hd:(x==("__debug__" :Str))=false:=by decide):ET Z ρ O (.Name x pos) (.int i):=by
 cases hm with
 |intro t hm=>exact QH (SY (v:=.int i) hg hm ⟨t,rfl⟩ hd) fun _ _=> .int i
theorem ZD{x:Str}{n:String}(hm:Z.X.mg x=none)(hv:eC x=some (.type n))(hg:Gl Z.X x:=by rfl)(hn:x≠"__name__":=by decide)(hd:(x==("__debug__" :Str))=false:=by decide):ET Z ρ O (.Name x pos) (.raw (.ty n)):=
 QH (SZ (v:=.ty n) hg hm hv rfl hn hd) fun _ _=> .raw _
def RT(K:b5)(r:R2)(ta tb:T)(O:AH)(Φ:BQ):Prop:=∀H v w Q,OwnOk K O H→Rep K O H v ta→Rep K O H w tb→Acc K O H Φ Q→r v w H Q
def RP(K:b5)(r:R2)(ta tb:T)(O:AH)(t:T):Prop:=∀Φ:BQ,Φ t O→RT K r ta tb O Φ
theorem Ig{r:R2}{σ:St}{H:Hp}{Q:VK}(q:tW Z ρ O Φ σ H Q)(h:WE Z ρ O a fun ta O1=>WE Z ρ O1 b fun tb O2=>RT Z.K r ta tb O2 Φ):YV r (tX Z ρ a) (tX Z ρ b) σ H Q:=
 ⟨O,_,h,q.1,fun v H1 ta O1 p f1 r1=> ⟨O1,_,p,q.1.step f1,fun w H2 tb O2 p2 f2 r2=>p2 H2 v w Q f2.ok (r1.kp f2.kp f1.ok) r2 (q.2.step (f1.trans f2))⟩⟩
theorem EF{op:lR}{r:R2}(ho:Cs Z.X (jl op) r)(h:WE Z ρ O a fun ta O1=>WE Z ρ O1 b fun tb O2=>RT Z.K r ta tb O2 Φ):WE Z ρ O (.BinOp a op b pos) Φ:=
 PE.weak (YW ho BR BR) fun _ _ _ q=>Ig q h
theorem Wl{op:CmpOp}{r:R2}(ho:Cs Z.X (fE op) r)(hm:behindInMarks op b=false)(h:WE Z ρ O a fun ta O1=>WE Z ρ O1 b fun tb O2=>RT Z.K r ta tb O2 Φ):WE Z ρ O (.Compare a [op] [b] pos) Φ:=
 PE.weak (Sh ho BR BR hm) fun _ _ _ q=>Ig q h
theorem GR{op:lR}{r:R2}(ho:Cs Z.X (jl op) r)(hp:RP Z.K r ta tb O t)(ha:ET Z ρ O a ta)(hb:ET Z ρ O b tb):ET Z ρ O (.BinOp a op b pos) t:=fun Φ p=>EF ho (ha _ (hb _ (hp Φ p)))
theorem Eo{op:CmpOp}{r:R2}(ho:Cs Z.X (fE op) r)(hm:behindInMarks op b=false)(hp:RP Z.K r ta tb O t)(ha:ET Z ρ O a ta)(hb:ET Z ρ O b tb):ET Z ρ O (.Compare a [op] [b] pos) t:=fun Φ p=>Wl ho hm (ha _ (hb _ (hp Φ p)))
theorem QI{r:R2}(ho:Yj Z.X r)(hs:DQ b)(h:WE Z ρ O a fun ta O1=>WE Z ρ O1 b fun tb O2=>RT Z.K r ta tb O2 Φ):WE Z ρ O (.Subscript a b pos) Φ:=
 PE.weak (Uv ho BR BR hs) fun _ _ _ q=>Ig q h
theorem QJ{r:R2}(ho:Yj Z.X r)(hs:DQ b)(hp:RP Z.K r ta tb O t)(ha:ET Z ρ O a ta)(hb:ET Z ρ O b tb):ET Z ρ O (.Subscript a b pos) t:=fun Φ p=>QI ho hs (ha _ (hb _ (hp Φ p)))
theorem Ba{Φ:Lf}(p:Φ [] O):WA Z ρ O [] Φ:=PA.weak LB fun _ H _ q=>q.2 [] H [] O p q.1.refl .nil
theorem DT{Φ:Lf}(h:WE Z ρ O e fun t O1=>WA Z ρ O1 es fun ts O2=>Φ (t::ts) O2)(hs:df (e::es) Z.X.env=(false,eval e Z.X.env)::df es Z.X.env:=by rfl):WA Z ρ O (e::es) Φ:=
 PA.weak (IM BR Lg hs) fun σ H Q q=> ⟨O,_,h,q.1,fun v H1 t O1 p f1 r1=> ⟨O1,_,p,q.1.step f1,fun vs H2 ts O2 p2 f2 r2=>q.2 _ H2 _ O2 p2 (f1.trans f2) (.cons (r1.kp f2.kp f1.ok) r2)⟩⟩
theorem AB:EA Z ρ O [] []:=fun _ p=>Ba p
theorem AQ(h:ET Z ρ O e t)(hr:EA Z ρ O es ts)(hs:df (e::es) Z.X.env=(false,eval e Z.X.env)::df es Z.X.env:=by rfl):EA Z ρ O (e::es) (t::ts):=fun Φ p=>DT (h _ (hr _ p)) hs
theorem Lh{x1}(h:WA Z ρ O es fun ts O1=>ts.length≤sizeLine∧Φ (.tup ts) O1):WE Z ρ O (.Tuple es x1 pos) Φ:=
 PE.weak (WJ h) fun σ H Q q=> ⟨q.1,fun vs H1 ts O1 p f r=> ⟨by rw[r.length];exact p.1,fun a ha=>q.2 _ _ _ O1 p.2 (f.trans (.new f.ok ha)) (.tup AX (r.kp (BZ f.ok ha) f.ok))⟩⟩
theorem Ih{x1}(h:EA Z ρ O es ts)(hl:ts.length≤sizeLine:=by first| (show 1≤sizeLine;decide)| (show 2≤sizeLine;decide)| (show 3≤sizeLine;decide)| (show 0≤sizeLine;decide)):ET Z ρ O (.Tuple es x1 pos) (.tup ts):=fun _ p=>Lh (h _ ⟨hl,p⟩)
theorem QK(h:WA Z ρ O es fun ts O1=>ts.length≤sizeLine∧Φ (.lst ts) O1):WE Z ρ O (.List es pos) Φ:=
 PE.weak (PV h) fun σ H Q q=> ⟨q.1,fun vs H1 ts O1 p f r=> ⟨by rw[r.length];exact p.1,fun a ha=>q.2 _ _ _ O1 p.2 (f.trans (.new f.ok ha)) (.lst AX (f.ok.none_of ha) (r.kp (BZ f.ok ha) f.ok))⟩⟩
theorem Bb(h:EA Z ρ O es ts)(hl:ts.length≤sizeLine):ET Z ρ O (.List es pos) (.lst ts):=fun _ p=>QK (h _ ⟨hl,p⟩)
theorem Fb(h:WA Z ρ O es fun ts O1=>ts.length≤sizeLine∧∀a,O1 a=none→Φ (.raw (.ref a)) (Aj O1 a ts)):WE Z ρ O (.List es pos) Φ:=
 PE.weak (PV h) fun σ H Q q=> ⟨q.1,fun vs H1 ts O1 p f r=> ⟨by rw[r.length];exact p.1,fun a ha=>q.2 _ _ _ _ (p.2 a (f.ok.none_of ha)) (f.trans (.newO f.ok ha r)) (.raw _)⟩⟩
end
section
variable{K:b5}{O:AH}{H:Hp}{v:V}
theorem Rep.int_inv{i:Int}(r:Rep K O H v (.int i)):v=.int i:=by cases r;rfl
theorem Rep.bl_inv{i:Bool}(r:Rep K O H v (.bl i)):v=.bl i:=by cases r;rfl
theorem Rep.non_inv(r:Rep K O H v .non):v=.non:=by cases r;rfl
theorem Rep.raw_inv{i:V}(r:Rep K O H v (.raw i)):v=i:=by cases r;rfl
theorem Rep.tup_inv{ts:List T}(r:Rep K O H v (.tup ts)):∃a xs,v=.ref a∧H a=some (.tup xs)∧Reps K O H xs ts:=by
 cases r with
 |tup h r=>exact⟨_,_,rfl,h,r⟩
theorem Rep.lst_inv{ts:List T}(r:Rep K O H v (.lst ts)):∃a xs,v=.ref a∧H a=some (.lst xs)∧O a=none∧Reps K O H xs ts:=by
 cases r with
 |lst h o r=>exact⟨_,_,rfl,h,o,r⟩
theorem Reps.cons_inv{vs:List V}{t:T}{ts:List T}(r:Reps K O H vs (t::ts)):∃v vs',vs=v::vs'∧Rep K O H v t∧Reps K O H vs' ts:=by
 cases r with
 |cons h r=>exact⟨_,_,rfl,h,r⟩
theorem Reps.nil_inv{vs:List V}(r:Reps K O H vs []):vs=[]:=by cases r;rfl
theorem Reps.one_inv{vs:List V}{t:T}(r:Reps K O H vs [t]):∃v,vs=[v]∧Rep K O H v t:=by
 obtain⟨v,vs',rfl,h,r⟩:=r.cons_inv
 cases r.nil_inv
 exact⟨v,rfl,h⟩
theorem Reps.two_inv{vs:List V}{t u:T}(r:Reps K O H vs [t,u]):∃v w,vs=[v,w]∧Rep K O H v t∧Rep K O H w u:=by
 obtain⟨v,vs',rfl,h,r⟩:=r.cons_inv
 obtain⟨w,rfl,h2⟩:=r.one_inv
 exact⟨v,w,rfl,h,h2⟩
theorem Reps.ints:∀{vs:List V} {ns:List Int},Reps K O H vs (ns.map T.int)→vs=ns.map V.int
 |_,[],r=>r.nil_inv
 |_,n::ns,r=>by
  obtain⟨v,vs',rfl,h,r⟩:=Reps.cons_inv r
  rw[h.int_inv,Reps.ints r]
  rfl
end
section
variable{Z:Zx}{ρ:List (Option T)}{O:AH}{e a b c:Expr}{es:List Expr}{Φ Φ':BQ}{pos:Pos}{t ta tb:T}{ts:List T}{K:b5}{i j:Int}
theorem GS{g:Int→Int→Int}:RP K (SQ fun i j=> .int (g i j)) (.int i) (.int j) O (.int (g i j)):=fun Φ p H v w Q ok r1 r2 q=> ⟨i,j,r1.int_inv,r2.int_inv,q _ H _ O p (.refl ok) (.int _)⟩
theorem FL{g:Int→Int→Bool}:RP K (SQ fun i j=> .bl (g i j)) (.int i) (.int j) O (.bl (g i j)):=fun Φ p H v w Q ok r1 r2 q=> ⟨i,j,r1.int_inv,r2.int_inv,q _ H _ O p (.refl ok) (.bl _)⟩
theorem TQ{C:Int→Int→Prop}{g:Int→Int→Int}(hc:C i j):RP K (rI C fun i j=> .int (g i j)) (.int i) (.int j) O (.int (g i j)):=fun Φ p H v w Q ok r1 r2 q=> ⟨i,j,r1.int_inv,r2.int_inv,hc,q _ H _ O p (.refl ok) (.int _)⟩
theorem BM(ha:ET Z ρ O a (.int i))(hb:ET Z ρ O b (.int j)):ET Z ρ O (.BinOp a .Add b pos) (.int (i+j)):=GR Eg GS ha hb
theorem BS(ha:ET Z ρ O a (.int i))(hb:ET Z ρ O b (.int j)):ET Z ρ O (.BinOp a .Sub b pos) (.int (i-j)):=GR Vw GS ha hb
theorem CZ(ha:ET Z ρ O a (.int i))(hb:ET Z ρ O b (.int j))(h:CMul i j):ET Z ρ O (.BinOp a .Mult b pos) (.int (i*j)):=GR Vx (TQ h) ha hb
theorem Ca(ha:ET Z ρ O a (.int i))(hb:ET Z ρ O b (.int j))(h:YY i j):ET Z ρ O (.BinOp a .FloorDiv b pos) (.int (i/j)):=GR Sg (TQ h) ha hb
theorem Dm(ha:ET Z ρ O a (.int i))(hb:ET Z ρ O b (.int j))(h:0<j):ET Z ρ O (.BinOp a .Mod b pos) (.int (i%j)):=GR Vy (TQ h) ha hb
theorem Wm(ha:ET Z ρ O a (.int i))(hb:ET Z ρ O b (.int j))(h:YZ i j):ET Z ρ O (.BinOp a .Pow b pos) (.int (i^j.toNat)):=GR Vz (TQ h) ha hb
theorem QL(ha:ET Z ρ O a (.int i))(hb:ET Z ρ O b (.int j)):ET Z ρ O (.Compare a [.GtE] [b] pos) (.bl (decide (j≤i))):=Eo PP (Ah _) FL ha hb
theorem Li:RP K bp (.int i) (.int j) O (.bl (decide (i=j))):=fun Φ p H v w Q ok r1 r2 q=>by
 cases r1.int_inv;cases r2.int_inv
 refine⟨rfl,?_⟩
 have:decide (V.int i=V.int j)=decide (i=j):=by simp
 rw[this]
 exact q _ H _ O p (.refl ok) (.bl _)
theorem Wn:RP K bq (.int i) (.int j) O (.bl (!decide (i=j))):=fun Φ p H v w Q ok r1 r2 q=>by
 cases r1.int_inv;cases r2.int_inv
 refine⟨rfl,?_⟩
 have:decide (V.int i=V.int j)=decide (i=j):=by simp
 rw[this]
 exact q _ H _ O p (.refl ok) (.bl _)
theorem QM{op op':CmpOp}{r r':R2}{tc:T}{x y:Bool}(ho:Cs Z.X (fE op) r)(ho':Cs Z.X (fE op') r')(hp:RP Z.K r ta tb O (.bl x))(hp':x=true→RP Z.K r' tb tc O (.bl y))
  (ha:ET Z ρ O a ta) (hb:ET Z ρ O b tb) (hc:x=true→ET Z ρ O c tc) (hm:lastMarks [op,op'] [b,c]=false:=by with_unfolding_all rfl):ET Z ρ O (.Compare a [op,op'] [b,c] pos) (.bl (x&&y)):=fun Φ p=>
 by
 refine PE.weak (PQ ho ho' (BR (ρ:=ρ)) (BR (ρ:=ρ)) (BR (ρ:=ρ)) hm) fun σ H Q q=>?_
 refine⟨O,_,ha (fun t O'=>t=ta∧O'=O) ⟨rfl,rfl⟩,q.1,?_⟩
 rintro v H1 _ _ ⟨rfl,rfl⟩ f1 r1
 refine⟨_,_,hb (fun t O'=>t=tb∧O'=_) ⟨rfl,rfl⟩,q.1.step f1,?_⟩
 rintro w H2 _ _ ⟨rfl,rfl⟩ f2 r2
 refine hp (fun t O'=>t=.bl x∧O'=_) ⟨rfl,rfl⟩ H2 v w _ f2.ok (r1.kp f2.kp f1.ok) r2 ?_
 rintro z H3 _ _ ⟨rfl,rfl⟩ f3 r3
 refine⟨x,r3.bl_inv,?_⟩
 cases x with
 |false=>exact Pd (q.2 _ H3 _ _ p (f1.trans (f2.trans f3)) (.bl _))
 |true=>
  refine LI ⟨_,_,hc rfl (fun t O'=>t=tc∧O'=_) ⟨rfl,rfl⟩,q.1.step (f1.trans (f2.trans f3)),?_⟩
  rintro w' H4 _ _ ⟨rfl,rfl⟩ f4 r4
  exact hp' rfl _ p H4 w w' _ f4.ok (r2.kp (f3.trans f4).kp f2.ok) r4 (q.2.step (f1.trans (f2.trans (f3.trans f4))))
def TruT(O:AH):T→Bool→Prop
 | .non,k=>k=false
 | .bl b,k=>k=b
 | .int i,k=>k=(i !=0)
 | .str y,k=>y.length≤sizeLine∧k=((y.length:Int) !=0)
 | .tup ts,k=>k=!ts.isEmpty
 | .lst ts,k=>k=!ts.isEmpty
 | .frz ts,k=>k=!ts.isEmpty
 | .dct,_=>False
 | .raw (.ref a),k=>∃ts,O a=some ts∧k=!ts.isEmpty
 | .raw _,_=>False
theorem Reps.isEmpty{vs:List V}{ts:List T}{H:Hp}(r:Reps K O H vs ts):vs.isEmpty=ts.isEmpty:=by cases r<;>rfl
theorem TruT.v{H:Hp}{v:V}{k:Bool}(h:TruT O t k)(r:Rep K O H v t)(ok:OwnOk K O H):WD K v H k:=by
 cases r with
 |non=>exact h
 |bl=>exact h
 |int=>exact h
 |str=>exact h
 |tup h1 r=>
  have h:k=!_:=h
  exact .inr (.inl ⟨_,.inl (.inl h1),by rw[h,r.isEmpty]⟩)
 |lst h1 o r=>
  have h:k=!_:=h
  exact .inl ⟨_,.inl (.inl h1),by rw[h,r.isEmpty]⟩
 |frz h1 r=>
  have h:k=!_:=h
  exact .inl ⟨_,.inl (.inr ⟨_,h1⟩),by rw[h,r.isEmpty]⟩
 |dct=>exact h.elim
 |raw v=>
  cases v with
  |ref a=>
   obtain⟨ts,e,h⟩:=h
   obtain⟨xs,h1,r⟩:=ok a ts e
   exact .inl ⟨xs,.inl (.inl h1),by rw[h,r.isEmpty]⟩
  |_=>exact h.elim
theorem KG{Φ:Jb}(h:WE Z ρ O e fun t O'=>∃k,TruT O' t k∧Φ k O')(he:∀whole,isTrue e Z.X.env whole=(do let v←whole;standAt e.pos;holding [v] (truthy v)):=by intro _;rfl):WT Z ρ O e Φ:=
 PT.weak (PR BR he) fun σ H Q q=> ⟨O,_,h,q.1,fun v H1 t O1 ⟨k,tr,p⟩ f r=> ⟨k,tr.v r f.ok,q.2 k H1 O1 p f⟩⟩
theorem KH{k:Bool}(h:ET Z ρ O e t)(tr:TruT O t k)(he:∀whole,isTrue e Z.X.env whole=(do let v←whole;standAt e.pos;holding [v] (truthy v)):=by intro _;rfl):EB Z ρ O e k:=fun Φ p=>KG (h _ ⟨k,tr,p⟩) he
theorem Hm{k:Bool}(h:ET Z ρ O e (.bl k))(he:∀whole,isTrue e Z.X.env whole=(do let v←whole;standAt e.pos;holding [v] (truthy v)):=by intro _;rfl):EB Z ρ O e k:=KH h rfl he
theorem Lj{Φ:Jb}{op:CmpOp}{r:R2}(ho:Cs Z.X (fE op) r)(hm:behindInMarks op b=false)(h:WE Z ρ O a fun ta O1=>WE Z ρ O1 b fun tb O2=>RT Z.K r ta tb O2 fun t O3=>∃k,t=.bl k∧Φ k O3):WT Z ρ O (.Compare a [op] [b] pos) Φ:=
 PT.weak (Mo ho BR BR hm) fun σ H Q q=>Ig (Φ:=fun t O3=>∃k,t=.bl k∧Φ k O3) ⟨q.1,fun v H' t O' ⟨k,e,p⟩ f r=>by
  subst e
  exact⟨k,r.bl_inv,q.2 k H' O' p f⟩⟩ h
theorem BH{op:CmpOp}{r:R2}{k:Bool}(ho:Cs Z.X (fE op) r)(hm:behindInMarks op b=false)(hp:RP Z.K r ta tb O (.bl k))(ha:ET Z ρ O a ta)(hb:ET Z ρ O b tb):EB Z ρ O (.Compare a [op] [b] pos) k:=fun Φ p=>
 Lj ho hm (ha _ (hb _ (hp _ ⟨k,rfl,p⟩)))
theorem QN(ha:ET Z ρ O a (.int i))(hb:ET Z ρ O b (.int j)):EB Z ρ O (.Compare a [.Lt] [b] pos) (decide (i<j)):=BH Uu (Ah _) FL ha hb
theorem QO(ha:ET Z ρ O a (.int i))(hb:ET Z ρ O b (.int j)):EB Z ρ O (.Compare a [.LtE] [b] pos) (decide (i≤j)):=BH PN (Ah _) FL ha hb
theorem ZE(ha:ET Z ρ O a (.int i))(hb:ET Z ρ O b (.int j)):EB Z ρ O (.Compare a [.Gt] [b] pos) (decide (j<i)):=BH Yd (Ah _) FL ha hb
theorem ZF(ha:ET Z ρ O a (.int i))(hb:ET Z ρ O b (.int j)):EB Z ρ O (.Compare a [.GtE] [b] pos) (decide (j≤i)):=BH PP (Ah _) FL ha hb
theorem Dn(ha:ET Z ρ O a (.int i))(hb:ET Z ρ O b (.int j)):EB Z ρ O (.Compare a [.Eq] [b] pos) (decide (i=j)):=BH PM (Ah _) Li ha hb
theorem Ii(ha:ET Z ρ O a (.int i))(hb:ET Z ρ O b (.int j)):EB Z ρ O (.Compare a [.NotEq] [b] pos) (!decide (i=j)):=BH Yc (Ah _) Wn ha hb
theorem TR{k:Int}(ha:ET Z ρ O a (.int i))(hb:ET Z ρ O b (.int j))(hc:ET Z ρ O c (.int k))(hm:lastMarks [CmpOp.LtE,.LtE] [b,c]=false:=by with_unfolding_all rfl):ET Z ρ O (.Compare a [.LtE,.LtE] [b,c] pos) (.bl (decide (i≤j)&&decide (j≤k))):=QM PN PN FL (fun _=>FL) ha hb (fun _=>hc) hm
theorem QP{Φ:Jb}(h:WT Z ρ O a fun k O'=>Φ (!k) O'):WT Z ρ O (.UnaryOp .Not a pos) Φ:=PT.weak (Vi h) fun σ H Q q=> ⟨q.1,fun k H1 O1 p f=>q.2 _ H1 O1 p f⟩
theorem Ep{k:Bool}(h:EB Z ρ O a k):EB Z ρ O (.UnaryOp .Not a pos) (!k):=fun Φ p=>QP (h _ p)
def EW(Z:Zx)(ρ:List (Option T))(O:AH)(e:Expr)(b:Bool):Prop:=∀Φ:Jb,Φ b O→WW Z ρ O e Φ
theorem EW.eb{k:Bool}(h:EW Z ρ O e k):EB Z ρ O e k:=fun Φ p=> (h Φ p).pt
theorem TU{Φ:Jb}(h:WT Z ρ O a Φ):WW Z ρ O (.BoolOp .And [a] pos) Φ:=Sa h
theorem QQ{Φ:Jb}(h:WT Z ρ O a Φ):WW Z ρ O (.BoolOp .Or [a] pos) Φ:=Vg h
theorem Wo{Φ:Jb}(h:WT Z ρ O a fun k O1=>if k=true then WW Z ρ O1 (.BoolOp .And (b::es) pos) Φ else Φ false O1):WW Z ρ O (.BoolOp .And (a::b::es) pos) Φ:=
 PW.weak (Vh h ZC) fun σ H Q q=> ⟨q.1,fun k H1 O1 p f=>by
  cases k with
  |true=>rw[if_pos rfl] at p ⊢;exact⟨O1,_,p,q.1.step f,q.2.step f⟩
  |false=>rw[if_neg dc] at p ⊢;exact q.2 _ H1 O1 p f⟩
theorem VE{Φ:Jb}(h:WT Z ρ O a fun k O1=>if k=true then Φ true O1 else WW Z ρ O1 (.BoolOp .Or (b::es) pos) Φ):WW Z ρ O (.BoolOp .Or (a::b::es) pos) Φ:=
 PW.weak (YI h ZC) fun σ H Q q=> ⟨q.1,fun k H1 O1 p f=>by
  cases k with
  |true=>rw[if_pos rfl] at p ⊢;exact q.2 _ H1 O1 p f
  |false=>rw[if_neg dc] at p ⊢;exact⟨O1,_,p,q.1.step f,q.2.step f⟩⟩
theorem Fc{k:Bool}(h:EB Z ρ O a k):EW Z ρ O (.BoolOp .And [a] pos) k:=fun Φ p=>TU (h _ p)
theorem Lk{k:Bool}(h:EB Z ρ O a k):EW Z ρ O (.BoolOp .Or [a] pos) k:=fun Φ p=>QQ (h _ p)
theorem Er{x y:Bool}(ha:EB Z ρ O a x)(hb:x=true→EW Z ρ O (.BoolOp .And (b::es) pos) y):EW Z ρ O (.BoolOp .And (a::b::es) pos) (x&&y):=fun Φ p=>Wo (ha _ (by
 cases x with
 |true=>rw[if_pos rfl];exact hb rfl _ p
 |false=>rw[if_neg dc];exact p))
theorem QR{x y:Bool}(ha:EB Z ρ O a x)(hb:x=false→EW Z ρ O (.BoolOp .Or (b::es) pos) y):EW Z ρ O (.BoolOp .Or (a::b::es) pos) (x||y):=fun Φ p=>VE (ha _ (by
 cases x with
 |true=>rw[if_pos rfl];exact p
 |false=>rw[if_neg dc];exact hb rfl _ p))
theorem Wp{op}(h:ET Z ρ O a t):ET Z ρ O (.BoolOp op [a] pos) t:=fun Φ p=>Vj (h Φ p)
theorem Wq{x y:Bool}(ha:ET Z ρ O a (.bl x))(hb:x=true→ET Z ρ O (.BoolOp .And (b::es) pos) (.bl y)):ET Z ρ O (.BoolOp .And (a::b::es) pos) (.bl (x&&y)):=fun Φ p=>
 by
 refine PE.weak (Vk (BR (ρ:=ρ)) (BR (ρ:=ρ))) fun σ H Q q=>?_
 refine⟨O,_,ha (fun t O'=>t=.bl x∧O'=O) ⟨rfl,rfl⟩,q.1,?_⟩
 rintro v H1 _ _ ⟨rfl,rfl⟩ f r
 refine⟨x,r.bl_inv,?_⟩
 cases x with
 |true=>exact LI ⟨_,_,hb rfl _ p,q.1.step f,q.2.step f⟩
 |false=>exact Pd (q.2 _ H1 _ _ p f (.bl _))
theorem ZG(h:WT Z ρ O c fun k O1=>if k=true then WE Z ρ O1 a Φ else WE Z ρ O1 b Φ):WE Z ρ O (.IfExp c a b pos) Φ:=
 PE.weak (PH h BR BR) fun σ H Q q=> ⟨q.1,fun k H1 O1 p f=>by
  cases k with
  |true=>rw[if_pos rfl] at p ⊢;exact⟨O1,_,p,q.1.step f,q.2.step f⟩
  |false=>rw[if_neg dc] at p ⊢;exact⟨O1,_,p,q.1.step f,q.2.step f⟩⟩
theorem GT{x:Bool}(hc:EB Z ρ O c x)(ha:x=true→ET Z ρ O a ta)(hb:x=false→ET Z ρ O b tb):ET Z ρ O (.IfExp c a b pos) (if x=true then ta else tb):=fun Φ p=>ZG (hc _ (by
 cases x with
 |true=>rw[if_pos rfl] at p ⊢;exact ha rfl _ p
 |false=>rw[if_neg dc] at p ⊢;exact hb rfl _ p))
theorem Reps.atI{vs:List V}{H:Hp}(r:Reps K O H vs ts)(e:L2.atI ts i=some t):∃v,L2.atI vs i=some v∧Rep K O H v t:=by
 unfold L2.atI at e ⊢
 rw[r.length]
 cases hx:PZ ts.length i with
 |none=>rw[hx] at e;cases e
 |some j=>rw[hx] at e;exact r.get e
theorem Wr(e:atI ts i=some t):RP K (Yk K) (.tup ts) (.int i) O t:=fun Φ p H v w Q ok r1 r2 q=>by
 obtain⟨a,xs,rfl,h1,r1⟩:=r1.tup_inv
 obtain⟨x,ex,rx⟩:=r1.atI e
 exact⟨a,xs,i,x,rfl,r2.int_inv,.inl (.inl h1),ex,q _ H _ O p (.refl ok) rx⟩
theorem Ll(e:atI ts i=some t):RP K (WM K) (.lst ts) (.int i) O t:=fun Φ p H v w Q ok r1 r2 q=>by
 obtain⟨a,xs,rfl,h1,o1,r1⟩:=r1.lst_inv
 obtain⟨x,ex,rx⟩:=r1.atI e
 exact⟨a,xs,i,x,rfl,r2.int_inv,.inl (.inl h1),ex,q _ H _ O p (.refl ok) rx⟩
theorem Ws{a:Addr}(ha:O a=some ts)(e:atI ts i=some t):RP K (WM K) (.raw (.ref a)) (.int i) O t:=fun Φ p H v w Q ok r1 r2 q=>by
 cases r1.raw_inv
 obtain⟨xs,h1,r1⟩:=ok a ts ha
 obtain⟨x,ex,rx⟩:=r1.atI e
 exact⟨a,xs,i,x,rfl,r2.int_inv,.inl (.inl h1),ex,q _ H _ O p (.refl ok) rx⟩
theorem Aw(ha:ET Z ρ O a (.tup ts))(hb:ET Z ρ O b (.int i))(e:atI ts i=some t:=by rfl)(hs:DQ b:=by exact fun _ _=>rfl):ET Z ρ O (.Subscript a b pos) t:=QJ WN hs (Wr e) ha hb
theorem Cb(ha:ET Z ρ O a (.lst ts))(hb:ET Z ρ O b (.int i))(e:atI ts i=some t:=by rfl)(hs:DQ b:=by exact fun _ _=>rfl):ET Z ρ O (.Subscript a b pos) t:=QJ Du hs (Ll e) ha hb
theorem DD{p:Addr}(hp:O p=some ts)(ha:ET Z ρ O a (.raw (.ref p)))(hb:ET Z ρ O b (.int i))(e:atI ts i=some t:=by rfl)(hs:DQ b:=by exact fun _ _=>rfl):ET Z ρ O (.Subscript a b pos) t:=QJ Du hs (Ws hp e) ha hb
end
abbrev Bf:=List T→AH→BQ→(Value→AH→Prop)→Prop
def Bq(K:b5)(s:Bf):Sp:=fun vs H Q E=>∃ts O Φ Ξ,Reps K O H vs ts∧OwnOk K O H∧s ts O Φ Ξ∧Acc K O H Φ Q∧∀cls O' H',Ξ cls O'→Frm K O H O' H'→E cls none H'
structure FnT(P:Program)(w:World)(K:b5)(mg:Str→Option Value)(base:Heap)(x:Str)(k:Nat)(ps:List Str)(s:Bf):Prop where
 ex:∃f fd,FnOk P w K mg base (CXe P w) k f fd ps (Bq K s)∧mg x=some (.ref f)∧iu K (.ref f)=true∧Binds K fd ps []
def Ij(φ:List T→T→Prop):Bf:=fun ts O Φ _=>∃t,φ ts t∧Φ t O
section
variable{Z:Zx}{ρ:List (Option T)}{O:AH}{e a b c:Expr}{es:List Expr}{Φ Φ':BQ}{pos p:Pos}{t ta tb:T}{ts:List T}{K:b5}{i j:Int}{x:Str}
theorem AJ{k:Nat}{ps:List Str}{s:Bf}(G:FnT Z.X.prog Z.X.w Z.X.K Z.X.mg Z.X.base x k ps s)(hr:Room k Z.X.A)(xf:XFly Z.X Z.W)(h:WA Z ρ O (e::es) fun ts O1=>s ts O1 Φ Z.Xi)(hg:Gl Z.X x:=by rfl)
  (hdb:(x==("__debug__" :Str))=false:=by decide) (he:df (e::es) Z.X.env=(false,eval e Z.X.env)::df es Z.X.env:=by rfl) (hpl:(gU pos (df es Z.X.env)).any (·.1)=false:=by rfl):WE Z ρ O (.Call (.Name x p) (e::es) [] pos) Φ:=by
 obtain⟨f,fd,F,hm,hk,hb⟩:=G.ex
 refine PE.weak (Jq xf F hr hg hm hk hb (Lg (ρ:=ρ)) hdb he hpl) fun σ H Q q=>?_
 exact⟨O,_,h,q.1,fun vs H1 ts O1 p f r=> ⟨ts,O1,Φ,Z.Xi,r,f.ok,p,q.2.step f,fun cls O' H' x f'=> ⟨rfl,O',x,(q.1.fr.trans f).trans f'⟩⟩⟩
theorem BV{k:Nat}{ps:List Str}{s:Bf}(G:FnT Z.X.prog Z.X.w Z.X.K Z.X.mg Z.X.base x k ps s)(hr:Room k Z.X.A)(xf:XFly Z.X Z.W)(h:EA Z ρ O (e::es) ts)(hs:∀Φ:BQ,Φ t O→s ts O Φ Z.Xi)(hg:Gl Z.X x:=by rfl)
  (hdb:(x==("__debug__" :Str))=false:=by decide) (he:df (e::es) Z.X.env=(false,eval e Z.X.env)::df es Z.X.env:=by rfl) (hpl:(gU pos (df es Z.X.env)).any (·.1)=false:=by rfl):ET Z ρ O (.Call (.Name x p) (e::es) [] pos) t:=
 fun Φ p=>AJ G hr xf (h _ (hs Φ p)) hg hdb he hpl
theorem Aa{k:Nat}{ps:List Str}{φ:List T→T→Prop}(G:FnT Z.X.prog Z.X.w Z.X.K Z.X.mg Z.X.base x k ps (Ij φ))(hr:Room k Z.X.A)(xf:XFly Z.X Z.W)(h:EA Z ρ O (e::es) ts)(hs:φ ts t)(hg:Gl Z.X x:=by rfl)
  (hdb:(x==("__debug__" :Str))=false:=by decide) (he:df (e::es) Z.X.env=(false,eval e Z.X.env)::df es Z.X.env:=by rfl) (hpl:(gU pos (df es Z.X.env)).any (·.1)=false:=by rfl):ET Z ρ O (.Call (.Name x p) (e::es) [] pos) t:=
 BV G hr xf h (fun Φ p=> ⟨t,hs,p⟩) hg hdb he hpl
def CT(K:b5)(r:List V→Hp→VK→Prop)(ts:List T)(O:AH)(Φ:BQ):Prop:=∀H vs Q,OwnOk K O H→Reps K O H vs ts→Acc K O H Φ Q→r vs H Q
def CP(K:b5)(r:List V→Hp→VK→Prop)(ts:List T)(O:AH)(t:T):Prop:=∀Φ:BQ,Φ t O→CT K r ts O Φ
theorem GU{id:String}{r:List V→Hp→VK→Prop}(hc:BD Z.X (.builtin id) r)(hm:Z.X.mg x=none)(hv:eC x=some (.builtin id))(h:WA Z ρ O (e::es) fun ts O1=>CT Z.K r ts O1 Φ)(hg:Gl Z.X x:=by rfl)(hn:x≠"__name__":=by decide)(hdb:(x==("__debug__" :Str))=false:=by decide)
  (he:df (e::es) Z.X.env=(false,eval e Z.X.env)::df es Z.X.env:=by rfl) (hpl:(gU pos (df es Z.X.env)).any (·.1)=false:=by rfl):WE Z ρ O (.Call (.Name x p) (e::es) [] pos) Φ:=
 PE.weak (Fu hc hg hm hv (Lg (ρ:=ρ)) hn hdb he hpl) fun σ H Q q=> ⟨O,_,h,q.1,fun vs H1 ts O1 p f r=>p H1 vs Q f.ok r (q.2.step f)⟩
theorem Et{id:String}{r:List V→Hp→VK→Prop}(hc:BD Z.X (.type id) r)(hm:Z.X.mg x=none)(hv:eC x=some (.type id))(h:WA Z ρ O (e::es) fun ts O1=>CT Z.K r ts O1 Φ)(hg:Gl Z.X x:=by rfl)(hn:x≠"__name__":=by decide)(hdb:(x==("__debug__" :Str))=false:=by decide)
  (he:df (e::es) Z.X.env=(false,eval e Z.X.env)::df es Z.X.env:=by rfl) (hpl:(gU pos (df es Z.X.env)).any (·.1)=false:=by rfl):WE Z ρ O (.Call (.Name x p) (e::es) [] pos) Φ:=
 PE.weak (HW hc hg hm hv (Lg (ρ:=ρ)) hn hdb he hpl) fun σ H Q q=> ⟨O,_,h,q.1,fun vs H1 ts O1 p f r=>p H1 vs Q f.ok r (q.2.step f)⟩
theorem BN{id:String}{r:List V→Hp→VK→Prop}(hc:BD Z.X (.builtin id) r)(hm:Z.X.mg x=none)(hv:eC x=some (.builtin id))(h:EA Z ρ O (e::es) ts)(hp:CP Z.K r ts O t)(hg:Gl Z.X x:=by rfl)(hn:x≠"__name__":=by decide)(hdb:(x==("__debug__" :Str))=false:=by decide)
  (he:df (e::es) Z.X.env=(false,eval e Z.X.env)::df es Z.X.env:=by rfl) (hpl:(gU pos (df es Z.X.env)).any (·.1)=false:=by rfl):ET Z ρ O (.Call (.Name x p) (e::es) [] pos) t:=fun Φ q=>GU hc hm hv (h _ (hp Φ q)) hg hn hdb he hpl
theorem Hn{id:String}{r:List V→Hp→VK→Prop}(hc:BD Z.X (.type id) r)(hm:Z.X.mg x=none)(hv:eC x=some (.type id))(h:EA Z ρ O (e::es) ts)(hp:CP Z.K r ts O t)(hg:Gl Z.X x:=by rfl)(hn:x≠"__name__":=by decide)(hdb:(x==("__debug__" :Str))=false:=by decide)
  (he:df (e::es) Z.X.env=(false,eval e Z.X.env)::df es Z.X.env:=by rfl) (hpl:(gU pos (df es Z.X.env)).any (·.1)=false:=by rfl):ET Z ρ O (.Call (.Name x p) (e::es) [] pos) t:=fun Φ q=>Et hc hm hv (h _ (hp Φ q)) hg hn hdb he hpl
def MT(K:b5)(ty:String)(r:V→List V→Hp→VK→Prop)(t:T)(ts:List T)(O:AH)(Φ:BQ):Prop:=∀H v vs Q,OwnOk K O H→Rep K O H v t→Reps K O H vs ts→Acc K O H Φ Q→r v vs H Q
def cB(K:b5)(ty:String)(O:AH)(t:T):Prop:=∀H v,OwnOk K O H→Rep K O H v t→bH K ty v H
theorem VF{o:Expr}{name:Str}{apos cpos:Pos}{ty id:String}{r:V→List V→Hp→VK→Prop}(pa:PlainAttrs ty)(slot:Slot ty name id)(hty:typeOf (.builtin id)=pure (.type "method_descriptor"))(hm:bu Z.X id r)
  (h:WE Z ρ O o fun t O1=>cB Z.K ty O1 t∧WA Z ρ O1 (e::es) fun ts O2=>MT Z.K ty r t ts O2 Φ)
  (hbase:kO o name Z.X.env (eval o Z.X.env)=eval o Z.X.env:=by rfl)
  (hfew:((gU cpos (df (e::es) Z.X.env)).all (fun x=>!x.1)&&(nj cpos (lL [] Z.X.env)).all (fun x=>x.1.isSome)
   &&decide ((e::es).length+([]:List kM).length+(if([]:List kM).isEmpty then 0 else 1)<30))=true:=by rfl)
  (hline:(apos.endLine==cpos.line)=true:=by rfl) (hs:df (e::es) Z.X.env=(false,eval e Z.X.env)::df es Z.X.env:=by rfl) (hplain:(gU cpos (df es Z.X.env)).any (·.1)=false:=by rfl):WE Z ρ O (.Call (.Attribute o name apos) (e::es) [] cpos) Φ:=
 PE.weak (Ym pa slot hty hm (BR (ρ:=ρ)) (Lg (ρ:=ρ)) hbase hfew hline hs hplain) fun σ H Q q=> ⟨O,_,h,q.1,fun v H1 t O1 ⟨ty,p⟩ f1 r1=> ⟨ty H1 v f1.ok r1,O1,_,p,q.1.step f1,fun vs H2 ts O2 p2 f2 r2=>
  p2 H2 v vs Q f2.ok (r1.kp f2.kp f1.ok) r2 (q.2.step (f1.trans f2))⟩⟩
theorem NH{a:Addr}(ha:O a=some ts):cB K "list" O (.raw (.ref a)):=fun H v ok r=>by
 cases r.raw_inv
 obtain⟨xs,h,_⟩:=ok a ts ha
 exact .inl ⟨rfl,xs,.inl (.inl h)⟩
theorem Lm{a:Addr}{u:T}(ha:O a=some ts)(hl:ts.length<sizeLine)(p:Φ .non (Aj O a (ts++[u]))):MT K "list" Mv (.raw (.ref a)) [u] O Φ:=fun H v vs Q ok r1 r2 q=>by
 cases r1.raw_inv
 obtain⟨w,rfl,r3⟩:=r2.one_inv
 obtain⟨xs,h,r⟩:=ok a ts ha
 exact⟨a,xs,w,rfl,rfl,h,by rw[r.length];exact hl,q _ _ _ _ p (.put ok ha (r.append (.one r3))) .non⟩
theorem Eu{o:Expr}{apos cpos:Pos}(h:WE Z ρ O o fun t O1=>∃a,t=.raw (.ref a)∧(∃ts,O1 a=some ts)∧WE Z ρ O1 e fun u O2=>∃ts,O2 a=some ts∧ts.length<sizeLine∧Φ .non (Aj O2 a (ts++[u])))
  (hbase:kO o "append" Z.X.env (eval o Z.X.env)=eval o Z.X.env:=by rfl)
  (hfew:((gU cpos (df [e] Z.X.env)).all (fun x=>!x.1)&&(nj cpos (lL [] Z.X.env)).all (fun x=>x.1.isSome)
   &&decide ([e].length+([]:List kM).length+(if([]:List kM).isEmpty then 0 else 1)<30))=true:=by rfl)
  (hline:(apos.endLine==cpos.line)=true:=by rfl) (hs:df [e] Z.X.env=(false,eval e Z.X.env)::df [] Z.X.env:=by rfl) (hplain:(gU cpos (df [] Z.X.env)).any (·.1)=false:=by rfl):WE Z ρ O (.Call (.Attribute o "append" apos) [e] [] cpos) Φ:=by
 refine VF PySem.F.plainAttrs_list PySem.F.slot_list_append PySem.F.type_list_append HX (DS h ?_) hbase hfew hline hs hplain
 rintro t O1 ⟨a,rfl,⟨ts,hts⟩,w⟩
 refine⟨NH hts,DT (DS w ?_) hs⟩
 rintro u O2 ⟨us,h1,h2,p⟩
 exact Ba (Lm h1 h2 p)
end
abbrev Ln:=List (Option T)→AH→Prop
structure Es where
 nx:Ln
 rt:BQ
 bk:Ln:=fun _ _=>False
 ct:Ln:=fun _ _=>False
def AccN(Z:Zx)(O:AH)(H:Hp)(N:Ln)(D:St→Hp→Prop):Prop:=∀ρ' O' σ' H',N ρ' O'→Asr Z ρ' O' σ' H'→Kp O H O' H'→D σ' H'
structure AccS(Z:Zx)(O:AH)(H:Hp)(Ψ:Es)(D:Ends):Prop where
 nx:AccN Z O H Ψ.nx D.nx
 rt:∀v H' t O',Ψ.rt t O'→Frm Z.K Z.Oe Z.He O' H'→Rep Z.K O' H' v t→D.rt v H'
 bk:AccN Z O H Ψ.bk D.bk
 ct:AccN Z O H Ψ.ct D.ct
def tS(Z:Zx)(ρ:List (Option T))(O:AH)(Ψ:Es):TS:=fun D σ H=>Asr Z ρ O σ H∧AccS Z O H Ψ D
def WS(Z:Zx)(ρ:List (Option T))(O:AH)(s:Stmt)(Ψ:Es):Prop:=PS Z.X s (tS Z ρ O Ψ)
def Ew(Z:Zx)(ρ:List (Option T))(O:AH)(s:List Stmt)(Ψ:Es):Prop:=PSs Z.X s (tS Z ρ O Ψ)
def cU(Z:Zx)(ss:List Stmt):TS:=fun D σ H=>∃ρ O Ψ,Ew Z ρ O ss Ψ∧tS Z ρ O Ψ D σ H
theorem KI{Z:Zx}{ss:List Stmt}:PSs Z.X ss (cU Z ss):=fun pins s σ H D I ⟨_,_,_,w,q⟩=>w pins s σ H D I q
section
variable{Z:Zx}{ρ:List (Option T)}{O O1:AH}{e a b c:Expr}{es:List Expr}{Ψ:Es}{pos p:Pos}{t ta tb:T}{ts:List T}{i j:Nat}{x:Str}{s:Stmt}{ss:List Stmt}{H H1:Hp}{D:Ends}
theorem AccN.step{N:Ln}{D:St→Hp→Prop}(h:AccN Z O H N D)(k:Kp O H O1 H1):AccN Z O1 H1 N D:=fun ρ' O' σ' H' n a k'=>h ρ' O' σ' H' n a (k.trans k')
theorem AccS.step(h:AccS Z O H Ψ D)(k:Kp O H O1 H1):AccS Z O1 H1 Ψ D:=⟨h.nx.step k,h.rt,h.bk.step k,h.ct.step k⟩
theorem Ap(h:Ψ.nx ρ O):Ew Z ρ O [] Ψ:=PSs.weak Mj fun D σ H q=>q.2.nx ρ O σ H h q.1 .refl
theorem AD(h:WS Z ρ O s {Ψ with nx:=fun ρ' O'=>Ew Z ρ' O' ss Ψ}):Ew Z ρ O (s::ss) Ψ:=
 PSs.weak (Jf h KI) fun D σ H q=> ⟨q.1,fun ρ' O' σ' H' w a k=> ⟨ρ',O',Ψ,w,a,q.2.step k⟩,q.2.rt,q.2.bk,q.2.ct⟩
theorem AF(h:WS Z ρ O s Ψ):Ew Z ρ O [s] Ψ:=PSs.weak (IJ h) fun _ _ _ q=>q
theorem Fd{Ψ':Es}(h:WS Z ρ O s Ψ)(n:∀ρ' O',Ψ.nx ρ' O'→Ψ'.nx ρ' O')(r:∀t O',Ψ.rt t O'→Ψ'.rt t O')(bk:∀ρ' O',Ψ.bk ρ' O'→Ψ'.bk ρ' O')(ct:∀ρ' O',Ψ.ct ρ' O'→Ψ'.ct ρ' O'):WS Z ρ O s Ψ':=
 PS.weak h fun D σ H q=> ⟨q.1,fun ρ' O' σ' H' w=>q.2.nx ρ' O' σ' H' (n ρ' O' w),fun v H' t O' w=>q.2.rt v H' t O' (r t O' w),fun ρ' O' σ' H' w=>q.2.bk ρ' O' σ' H' (bk ρ' O' w),fun ρ' O' σ' H' w=>q.2.ct ρ' O' σ' H' (ct ρ' O' w)⟩
theorem DE{p:Addr}{n:Nat}(hp:O p=some ts)(he:Z.Oe p=none)(hn:ρ[n]?=some (some (.raw (.ref p))))(h:Ew Z (ρ.set n (some (.lst ts))) (Dg O p) ss Ψ):Ew Z ρ O ss Ψ:=PSs.weak h fun D σ H q=>by
 refine⟨⟨?_,⟨q.1.fr.kp.trans CW,fun b us e=>?_,q.1.ok.drop⟩⟩,q.2.step CW⟩
 ·have r1:=q.1.rl.kp (CW (a:=p)) q.1.ok
  obtain⟨v,e1,e2⟩:=q.1.rl.2 n _ hn
  cases e2.raw_inv
  have r2:=r1.set (i:=n) (q.1.ok.rep hp)
  have:σ.set n (some (.ref p))=σ:=by
   apply fo
   intro m
   by_cases hm:m=n
   ·subst hm
    have hl:m<σ.length:=(dt.mp e1).1
    rw[eD hl,e1]
   ·rw[dX (Ne.symm hm)]
  rw[this] at r2
  exact r2
 ·obtain⟨us',e'⟩:=q.1.fr.own b us e
  have:b≠p:=fun z=>by rw[z,he] at e;cases e
  exact⟨us',by rw[EE this];exact e'⟩
theorem AO(h:WE Z ρ O e Ψ.rt):WS Z ρ O (.Return (some e) pos) Ψ:=PS.weak (Kw h) fun D σ H q=> ⟨q.1,fun v H' t O' p f r=>q.2.rt v H' t O' p (q.1.fr.trans f) r⟩
theorem Ac(h:WE Z ρ O e fun _ O'=>Ψ.nx ρ O')(hs:kc e none pos.line Z.X.env=pure false:=by rfl):WS Z ρ O (.Expr e pos) Ψ:=
 PS.weak (Sb h hs) fun D σ H q=> ⟨q.1,fun v H' t O' p f r=>q.2.nx ρ O' σ H' p (q.1.step f) f.kp⟩
theorem AK(i:Nat)(h:WE Z ρ O e fun t O'=>Ψ.nx (ρ.set i (some t)) O')(hN:Z.X.N.Nodup){pos':Pos}(hi:Z.X.N[i]?=some x:=by rfl)(hx:SO Z.X.env.scope x:=by first|exact lQ rfl|exact kS rfl)(hs:kc e (some (.Name x pos')) pos.line Z.X.env=pure false:=by rfl)
  (hf:Z.X.fn x=true∨Z.X.env.scope.names.lookup x=some .local:=by first|exact .inl rfl|exact .inr rfl):WS Z ρ O (.Assign [.Name x pos'] e pos) Ψ:=
 PS.weak (Vq hN hi hx h hs hf) fun D σ H q=> ⟨q.1,fun v H' t O' p f r=>q.2.nx _ O' _ H' p ⟨(q.1.step f).rl.set r,(q.1.step f).fr⟩ f.kp⟩
theorem GV{op:lR}{ti:YN}(i:Nat){pos':Pos}(ho:aU Z.X op ti)(hρ:ρ[i]?=some (some ta))(h:WE Z ρ O e fun tb O1=>RT Z.K ti ta tb O1 fun t O2=>Ψ.nx (ρ.set i (some t)) O2)(hN:Z.X.N.Nodup)(hi:Z.X.N[i]?=some x:=by rfl)(hx:SO Z.X.env.scope x:=by first|exact lQ rfl|exact kS rfl)
  (hf:Z.X.fn x=true∨Z.X.env.scope.names.lookup x=some .local:=by first|exact .inl rfl|exact .inr rfl):WS Z ρ O (.AugAssign (.Name x pos') op e pos) Ψ:=
 PS.weak (Vr hN hi hx h ho hf) fun D σ H q=>by
  obtain⟨v,e1,r1⟩:=q.1.rl.2 i _ hρ
  exact⟨v,e1,q.1,fun w H1 tb O1 p f r=>p H1 v w _ f.ok (r1.kp f.kp q.1.ok) r fun z H2 t O2 p2 f2 r2=>q.2.nx _ O2 _ H2 p2 ⟨(q.1.step (f.trans f2)).rl.set r2,(q.1.step (f.trans f2)).fr⟩ (f.trans f2).kp⟩
theorem QS{ea eb:List Stmt}(h:WT Z ρ O c fun k O1=>if k=true then Ew Z ρ O1 ea Ψ else Ew Z ρ O1 eb Ψ):WS Z ρ O (.If c ea eb pos) Ψ:=
 PS.weak (Us h KI KI) fun D σ H q=> ⟨q.1,fun k H1 O1 p f=>by
  cases k with
  |true=>rw[if_pos rfl] at p ⊢;exact⟨ρ,O1,Ψ,p,q.1.step f,q.2.step f.kp⟩
  |false=>rw[if_neg dc] at p ⊢;exact⟨ρ,O1,Ψ,p,q.1.step f,q.2.step f.kp⟩⟩
theorem As{ea eb:List Stmt}{k:Bool}(hc:EB Z ρ O c k)(h1:k=true→Ew Z ρ O ea Ψ)(h2:k=false→Ew Z ρ O eb Ψ):WS Z ρ O (.If c ea eb pos) Ψ:=QS (hc _ (by
 cases k with
 |true=>rw[if_pos rfl];exact h1 rfl
 |false=>rw[if_neg dc];exact h2 rfl))
def tG(Z:Zx)(n:Nat)(ρ:List (Option T))(O:AH)(t:T)(ρ':List (Option T)):TG:=fun v σ H Q=>Asr Z ρ O σ H∧Rep Z.K O H v t∧∀σ',Asr Z ρ' O σ' H→(σ'.length=σ.length∧∀j,n≤j→σ'[j]?=σ[j]?)→Q σ' H
def WG(Z:Zx)(n:Nat)(ρ:List (Option T))(O:AH)(tg:Expr)(t:T)(ρ':List (Option T)):Prop:=PG Z.X tg (tG Z n ρ O t ρ')
theorem PG.weak{X:Cx}{e:Expr}{t t':TG}(h:PG X e t)(w:∀v σ H Q,t' v σ H Q→t v σ H Q):PG X e t':=fun pins s σ H v u Q I r q=>h pins s σ H v u Q I r (w v σ H Q q)
def cV(Z:Zx)(n:Nat)(tg:Expr):TG:=fun v σ H Q=>∃ρ O t ρ',WG Z n ρ O tg t ρ'∧tG Z n ρ O t ρ' v σ H Q
theorem bO{n:Nat}{tg:Expr}:PG Z.X tg (cV Z n tg):=fun pins s σ H v u Q I r ⟨_,_,_,_,w,q⟩=>w pins s σ H v u Q I r q
theorem AM(i:Nat){n:Nat}(hN:Z.X.N.Nodup)(hn:i<n)(hi:Z.X.N[i]?=some x:=by rfl)(hx:SO Z.X.env.scope x:=by first|exact lQ rfl|exact kS rfl)
  (hf:Z.X.fn x=true∨Z.X.env.scope.names.lookup x=some .local:=by first|exact .inl rfl|exact .inr rfl):WG Z n ρ O (.Name x pos) t (ρ.set i (some t)):=
 PG.weak (IL hN hi hx hf) fun v σ H Q q=>q.2.2 _ ⟨q.1.rl.set q.2.1,q.1.fr⟩ ⟨by simp,fun j hj=>by rw[dX (by omega)]⟩
theorem Cc(i j:Nat){n:Nat}{y:Str}{p1 p2:Pos}{k:Nat}(hc:Z.X.calm=true)(hN:Z.X.N.Nodup)(hni:i<n)(hnj:j<n)(hi:Z.X.N[i]?=some x:=by rfl)(hj:Z.X.N[j]?=some y:=by rfl)(hx:SO Z.X.env.scope x:=by first|exact lQ rfl|exact kS rfl)(hy:SO Z.X.env.scope y:=by first|exact lQ rfl|exact kS rfl)
  (hf:Z.X.fn x=true∨Z.X.env.scope.names.lookup x=some .local:=by first|exact .inl rfl|exact .inr rfl) (hf2:Z.X.fn y=true∨Z.X.env.scope.names.lookup y=some .local:=by first|exact .inl rfl|exact .inr rfl)
  (hs:(gW [.Name x p1,.Name y p2] Z.X.env).map (·.2)=assign (.Name x p1) Z.X.env::(gW [.Name y p2] Z.X.env).map (·.2):=by rfl) (hs2:(gW [.Name y p2] Z.X.env).map (·.2)=assign (.Name y p2) Z.X.env::(gW [] Z.X.env).map (·.2):=by rfl)
  (hl:(gW [.Name x p1,.Name y p2] Z.X.env).length=2:=by rfl) (hst:(gW [.Name x p1,.Name y p2] Z.X.env).findIdx? (·.1)=none:=by rfl):
  WG Z n ρ O (.Tuple [.Name x p1,.Name y p2] k pos) (.tup [ta,tb]) ((ρ.set i (some ta)).set j (some tb)):=
 PG.weak (Vn hc (Jg (IL hN hi hx hf) (Jg (IL hN hj hy hf2) Sd hs2) hs) hl hst) fun v σ H Q q=>by
  obtain⟨q1,q2,q3⟩:=q
  obtain⟨a,xs,rfl,h1,r⟩:=q2.tup_inv
  obtain⟨v,w,rfl,r1,r2⟩:=r.two_inv
  exact⟨a,_,rfl,.inl (.inl h1),rfl,v,_,rfl,w,_,rfl,rfl,q3 _ ⟨(q1.rl.set r1).set r2,q1.fr⟩ ⟨by simp,fun m hm=>by rw[dX (by omega),dX (by omega)]⟩⟩
theorem GW{o ix:Expr}{px:Pos}(h:WE Z ρ O e fun t O1=>WE Z ρ O1 o fun u O2=>∃a,u=.raw (.ref a)∧WE Z ρ O2 ix fun w O3=>∃ts k m,w=.int k∧O3 a=some ts∧PZ ts.length k=some m∧Ψ.nx ρ (Aj O3 a (ts.set m t)))
  (ha:∀v,assign (.Subscript o ix px) Z.X.env v=(do
   let ov←holding [v] (eval o Z.X.env)
   let iv←holding [v,ov] (eval ix Z.X.env)
   standAt px
   holding [v,ov,iv] (setItem ov iv v)
   release [v,ov,iv] []):=by intro _;rfl)
  (hs:swapsWithSole [.Subscript o ix px] e pos.line Z.X.env=pure false:=by rfl) (hw:swappedStores [.Subscript o ix px] e Z.X.env=pure none:=by rfl)
  (h1:(gW [.Subscript o ix px] Z.X.env).map (·.2)=[assign (.Subscript o ix px) Z.X.env]:=by rfl):WS Z ρ O (.Assign [.Subscript o ix px] e pos) Ψ:=by
 refine PS.weak (Vp h (Vo (BR (ρ:=ρ)) (BR (ρ:=ρ)) Pa ha) hs hw h1) fun D σ H q=> ⟨q.1,fun v H1 t O1 p1 f1 r1=>?_⟩
 refine⟨O1,_,p1,q.1.step f1,?_⟩
 rintro vo H2 _ O2 ⟨a,rfl,p2⟩ f2 r2
 refine⟨O2,_,p2,q.1.step (f1.trans f2),?_⟩
 rintro vi H3 _ O3 ⟨ts,k,m,rfl,ho,hm,p3⟩ f3 r3
 cases r2.raw_inv
 obtain⟨xs,hx,rx⟩:=f3.ok a ts ho
 have r1':=(r1.kp f2.kp f1.ok).kp f3.kp f2.ok
 have f:=f1.trans (f2.trans (f3.trans (Frm.put f3.ok ho (rx.set r1' m))))
 exact⟨a,xs,k,m,rfl,r3.int_inv,hx,by rw[rx.length];exact hm,q.2.nx ρ _ σ _ p3 (q.1.step f) f.kp⟩
def Lo(K:b5)(J:It)(O:AH)(H:Hp)(ts:List T):Prop:=∀O' H',Kp O H O' H'→OwnOk K O' H'→
 (∀i,i<ts.length→J.go i H')∧(∀i x H'',J.yld i H' x H''→∀t,ts[i]?=some t→Frm K O' H' O' H''∧Rep K O' H'' x t)∧∀i,ts.length≤i→J.stop i H'
def WI(Z:Zx)(ρ:List (Option T))(O:AH)(tg iter:Expr)(Φ:Lf):Prop:=PI Z.X tg iter fun σ H R=>Asr Z ρ O σ H∧∀J H' ts O',Φ ts O'→Frm Z.K O H O' H'→Lo Z.K J O' H' ts→R J H'
theorem PI.weak{X:Cx}{tg e:Expr}{t t':TI}(h:PI X tg e t)(w:∀σ H R,t' σ H R→t σ H R):PI X tg e t':=fun pins s σ H R I q=>h pins s σ H R I (w σ H R q)
theorem OT{K:b5}{a:Addr}{xs:List V}(ok:OwnOk K O H)(h:H a=some (.lst xs))(n:O a=none)(r:Reps K O H xs ts):Lo K (aw K a) O H ts:=fun O' H' k ok'=>by
 have h':=(k.lst h n).1
 have r':=r.kp k ok
 refine⟨fun i hi=>?_,fun i x H'' y t e=>?_,fun i hi=> ⟨xs,.inl (.inl h'),by rw[r.length];exact hi⟩⟩
 ·obtain⟨v,e,_⟩:=r'.get (i:=i) (t:=ts[i]) (by simp[hi])
  exact⟨xs,v,.inl (.inl h'),e⟩
 ·obtain⟨rfl,y⟩:=y
  obtain⟨v,e',q⟩:=r'.get e
  have:=y xs (.inl (.inl h'))
  rw[e'] at this;cases this
  exact⟨.refl ok',q⟩
theorem QT{K:b5}{a:Addr}{xs:List V}(ok:OwnOk K O H)(h:H a=some (.tup xs))(r:Reps K O H xs ts):Lo K (ax K a) O H ts:=fun O' H' k ok'=>by
 have h':II K H' a xs:=.inl (.inl (k.oth ok h fun _ z=>by cases z))
 have r':=r.kp k ok
 refine⟨fun i hi=>?_,fun i x H'' y t e=>?_,fun i hi=> ⟨xs,h',by rw[r.length];exact hi⟩⟩
 ·obtain⟨v,e,_⟩:=r'.get (i:=i) (t:=ts[i]) (by simp[hi])
  exact⟨xs,v,h',e⟩
 ·obtain⟨rfl,y⟩:=y
  obtain⟨v,e',q⟩:=r'.get e
  have:=y xs h'
  rw[e'] at this;cases this
  exact⟨.refl ok',q⟩
def FU(lo:Int)(n:Nat):List T:=(dE n).map fun(i:Nat)=>T.int (lo+i)
theorem BX{lo:Int}{n:Nat}:(FU lo n).length=n:=by simp[FU]
theorem DF{lo:Int}{n i:Nat}(h:(FU lo n)[i]?=some t):i<n∧t=.int (lo+i):=by
 unfold FU at h
 rw[b9] at h
 by_cases hi:i<n
 ·rw[fO hi] at h
  cases h
  exact⟨hi,rfl⟩
 ·rw[e7 (by simpa using hi)] at h
  cases h
theorem KJ{K:b5}{lo:Int}{n:Nat}:Lo K (YR lo n) O H (FU lo n):=fun O' H' k ok'=>by
 refine⟨fun i hi=>by rwa[BX] at hi,fun i x H'' y t e=>?_,fun i hi=>by rwa[BX] at hi⟩
 obtain⟨rfl,rfl⟩:=y
 obtain⟨_,rfl⟩:=DF e
 exact⟨.refl ok',.int _⟩
theorem NI{tg:Expr}{Φ:Lf}(h:WE Z ρ O e fun t O'=>∃ts,t=.lst ts∧Φ ts O'):WI Z ρ O tg e Φ:=PI.weak (Se h) fun σ H R q=> ⟨q.1,by
 rintro v H' _ O' ⟨ts,rfl,p⟩ f r
 obtain⟨a,xs,rfl,h1,n,r⟩:=r.lst_inv
 exact⟨a,rfl,⟨xs,.inl (.inl h1)⟩,q.2 _ H' ts O' p f (OT f.ok h1 n r)⟩⟩
theorem Wt{tg:Expr}{Φ:Lf}(h:WE Z ρ O e fun t O'=>∃ts,t=.tup ts∧Φ ts O'):WI Z ρ O tg e Φ:=PI.weak (Vt h) fun σ H R q=> ⟨q.1,by
 rintro v H' _ O' ⟨ts,rfl,p⟩ f r
 obtain⟨a,xs,rfl,h1,r⟩:=r.tup_inv
 exact⟨a,rfl,⟨xs,.inl (.inl h1)⟩,q.2 _ H' ts O' p f (QT f.ok h1 r)⟩⟩
theorem OU{tg:Expr}{Φ:Lf}(hm:Z.X.mg "range" =none)(h:WA Z ρ O [a] fun ts O'=>∃j:Int,ts=[.int j]∧-(2^62)≤j∧j<2^62∧Φ (FU 0 j.toNat) O')(hg:Gl Z.X "range":=by rfl)(hs:df [a] Z.X.env=[(false,eval a Z.X.env)]:=by rfl):WI Z ρ O tg (.Call (.Name "range" p) [a] [] pos) Φ:=
 PI.weak (Nr hg hm h hs) fun σ H R q=> ⟨q.1,by
  rintro vs H' _ O' ⟨j,rfl,h1,h2,p⟩ f r
  obtain⟨v,rfl,r'⟩:=r.one_inv
  exact⟨j,by rw[r'.int_inv],h1,h2,q.2 _ H' _ O' p f KJ⟩⟩
theorem OV{tg:Expr}{Φ:Lf}(hm:Z.X.mg "range" =none)(h:WA Z ρ O [a,b] fun ts O'=>∃i j:Int,ts=[.int i,.int j]∧(-(2^62)≤i∧i<2^62∧-(2^62)≤j∧j<2^62)∧Φ (FU i (j-i).toNat) O')(hg:Gl Z.X "range":=by rfl)(hs:df [a,b] Z.X.env=[(false,eval a Z.X.env),(false,eval b Z.X.env)]:=by rfl)(hs2:df [b] Z.X.env=[(false,eval b Z.X.env)]:=by rfl):WI Z ρ O tg (.Call (.Name "range" p) [a,b] [] pos) Φ:=
 PI.weak (Nt hg hm h hs hs2) fun σ H R q=> ⟨q.1,by
  rintro vs H' _ O' ⟨i,j,rfl,h1,p⟩ f r
  obtain⟨v,w,rfl,r1,r2⟩:=r.two_inv
  exact⟨i,j,by rw[r1.int_inv,r2.int_inv],h1,q.2 _ H' _ O' p f KJ⟩⟩
def EI(Z:Zx)(ρ:List (Option T))(O:AH)(tg iter:Expr)(ts:List T):Prop:=∀Φ:Lf,Φ ts O→WI Z ρ O tg iter Φ
theorem Ag{tg:Expr}(h:ET Z ρ O e (.lst ts)):EI Z ρ O tg e ts:=fun Φ p=>NI (h _ ⟨ts,rfl,p⟩)
theorem Ex{tg:Expr}(h:ET Z ρ O e (.tup ts)):EI Z ρ O tg e ts:=fun Φ p=>Wt (h _ ⟨ts,rfl,p⟩)
theorem Ak{tg:Expr}{k:Int}(hm:Z.X.mg "range" =none)(h:ET Z ρ O a (.int k))(h1: -(2^62)≤k∧k<2^62)(hg:Gl Z.X "range":=by rfl)(hs:df [a] Z.X.env=[(false,eval a Z.X.env)]:=by rfl):EI Z ρ O tg (.Call (.Name "range" p) [a] [] pos) (FU 0 k.toNat):=fun Φ q=>OU hm (AQ h AB hs _ ⟨k,rfl,h1.1,h1.2,q⟩) hg hs
theorem OW{tg:Expr}{k l:Int}(hm:Z.X.mg "range" =none)(h:ET Z ρ O a (.int k))(h2:ET Z ρ O b (.int l))(h1: -(2^62)≤k∧k<2^62∧-(2^62)≤l∧l<2^62)(hg:Gl Z.X "range":=by rfl)(hs:df [a,b] Z.X.env=[(false,eval a Z.X.env),(false,eval b Z.X.env)]:=by rfl)(hs2:df [b] Z.X.env=[(false,eval b Z.X.env)]:=by rfl):EI Z ρ O tg (.Call (.Name "range" p) [a,b] [] pos) (FU k (l-k).toNat):=
 fun Φ q=>OV hm (AQ h (AQ h2 AB hs2) (by rw[hs,hs2]) _ ⟨k,l,rfl,h1,q⟩) hg hs hs2
theorem Bc{tg iter:Expr}{body:List Stmt}(hp:kg (model Z.X.prog Z.X.w) Z.X.A Z.X.env Z.X.xe)(hc:Z.X.calm=true)
  (h:WI Z ρ O tg iter fun ts O1=>∃I:Nat→Ln,I 0 ρ O1∧(∀i t ρ' O',ts[i]?=some t→I i ρ' O'→∃ρ2,WG Z Z.X.N.length ρ' O' tg t ρ2∧Ew Z ρ2 O' body {nx:=I (i+1),rt:=Ψ.rt,bk:=Ψ.nx,ct:=I (i+1)})∧∀ρ' O',I ts.length ρ' O'→Ψ.nx ρ' O')
  (hs:∀x,fw iter Z.X.env x=pure x:=by intro _;rfl):WS Z ρ O (.For tg iter body [] pos) Ψ:=by
 refine PS.weak (Vu hp hc h (bO (n:=Z.X.N.length)) KI hs) fun D σ H q=> ⟨q.1,?_⟩
 rintro J H1 ts O1 ⟨I,i0,step,fin⟩ f1 it
 refine⟨fun i m σ' H'=>m=ts.length-i∧i≤ts.length∧∃ρ' O',I i ρ' O'∧Asr Z ρ' O' σ' H'∧Kp O1 H1 O' H',⟨ts.length,by simp,fb _,ρ,O1,i0,q.1.step f1,.refl⟩,?_⟩
 rintro i m σ2 H2 ⟨rfl,hi,ρ2,O2,i2,a2,k2⟩
 obtain⟨g1,g2,g3⟩:=it O2 H2 k2 a2.ok
 by_cases hlt:i<ts.length
 ·refine .inr ⟨g1 i hlt,fun σ' H'=>∃ρ' O',I (i+1) ρ' O'∧Asr Z ρ' O' σ' H'∧Kp O1 H1 O' H',fun σ' H' w=> ⟨_,by omega,rfl,by omega,w⟩,fun x H3 y=>?_⟩
  obtain⟨f3,r3⟩:=g2 i x H3 y ts[i] (by simp[hlt])
  obtain⟨ρ3,wg,wb⟩:=step i ts[i] ρ2 O2 (by simp[hlt]) i2
  refine⟨ρ2,O2,_,ρ3,wg,a2.step f3,r3,fun σ3 a3 _=> ⟨ρ3,O2,_,wb,a3,?_⟩⟩
  have kk:=(k2.trans f3.kp)
  exact⟨fun ρ' O' σ' H' w a k=> ⟨ρ',O',w,a,kk.trans k⟩,q.2.rt,fun ρ' O' σ' H' w a k=>q.2.nx ρ' O' σ' H' w a (f1.kp.trans (kk.trans k)),fun ρ' O' σ' H' w a k=> ⟨ρ',O',w,a,kk.trans k⟩⟩
 ·have:i=ts.length:=by omega
  subst this
  exact .inl ⟨g3 _ (dm _),q.2.nx ρ2 O2 σ2 H2 (fin ρ2 O2 i2) a2 (f1.kp.trans k2)⟩
end
def zc(X:Cx)(Oe:AH)(He:Hp):Zx:=⟨X,Oe,He,fun _ _=>False⟩
def HI(nc:List Str)(ρ:List (Option T))(cap:List (Str×Nat)):List (Option T):=e9 nc.length none++cap.map fun q=> (ρ[q.2]?).join
def aZ(Z:Zx)(ρ:List (Option T))(O:AH)(ifs:List Expr)(Φ:Jb):Prop:=WY Z.X ifs (YF Z ρ O Φ)
theorem Az{O:AH}{p:Addr}{ts:List T}(h:O p=none):Dg (Aj O p ts) p=O:=by
 funext b
 by_cases hb:b=p
 ·rw[hb,CV,h]
 ·rw[EE hb,AZ hb]
theorem DG{O:AH}{p a:Addr}{ts us:List T}(h:a≠p):Aj (Aj O p ts) a us=Aj (Aj O a us) p ts:=by
 funext b
 unfold Aj
 by_cases h1:b=a
 ·subst h1;rw[if_pos rfl,if_neg h,if_pos rfl]
 ·rw[if_neg h1,if_neg h1]
section
variable{Z:Zx}{ρ:List (Option T)}{O:AH}{elt tg iter:Expr}{ifs:List Expr}{csc:Scope}{nc:List Str}{cap:List (Str×Nat)}{Φ:BQ}{pos:Pos}
theorem Ik{Φ:Jb}(h:Φ true O):aZ Z ρ O [] Φ:=fun pins s σ H Q I q=>Sr pins s σ H Q I (q.2 true H O h q.1.refl)
theorem NJ{Φ:Jb}{c:Expr}(h:WT Z ρ O c Φ):aZ Z ρ O [c] Φ:=Ss h
theorem ZH{K:b5}{H:Hp}{σ:St}(r:Rl K O H σ ρ):Rl K O H (HG nc σ cap) (HI nc ρ cap):=by
 refine⟨by simp[Br,HI],fun i t e=>?_⟩
 unfold HI at e
 have hi:nc.length≤i:=by
  by_cases hi:i<nc.length
  ·rw[eF (by simpa using hi),gw] at e
   split at e<;>cases e
  ·omega
 rw[dQ (by simpa using hi),b9] at e
 simp only[fQ] at e
 cases hc:cap[i-nc.length]? with
 |none=>rw[hc] at e;cases e
 |some q=>
  rw[hc] at e
  have e:(ρ[q.2]?).join=some t:=dW.inj e
  have e':ρ[q.2]?=some (some t):=by
   cases h:ρ[q.2]? with
   |none=>rw[h] at e;cases e
   |some w=>rw[h] at e;exact congrArg some e
  obtain⟨v,h1,h2⟩:=r.2 q.2 t e'
  refine⟨v,?_,h2⟩
  show(e9 nc.length (none:Option V)++Br σ cap)[i]?=some (some v)
  rw[dQ (by simpa using hi)]
  simp only[fQ]
  unfold Br
  rw[b9,hc]
  show some (σ[q.2]?).join=_
  rw[h1]
  rfl
theorem Il{X X':Cx}{Oe:AH}{He:Hp}{Xi Xi':Value→AH→Prop}{σ:St}{H:Hp}(hK:X'.K=X.K)(a:Asr ⟨X,Oe,He,Xi⟩ ρ O σ H):Asr ⟨X',Oe,He,Xi'⟩ ρ O σ H:=by
 obtain⟨r,f⟩:=a
 refine⟨?_,?_⟩
 ·show Rl X'.K O H σ ρ
  rw[hK];exact r
 ·show Frm X'.K Oe He O H
  rw[hK];exact f
def gA(Z:Zx)(csc:Scope)(nc:List Str)(cap:List (Str×Nat))(tg:Expr):TG:=fun v σ H Q=>∃Oe He ρ O t ρ',(∀X',LcCx Z.X csc (Ab nc cap) X'→WG (zc X' Oe He) nc.length ρ O tg t ρ')∧tG (zc Z.X Oe He) nc.length ρ O t ρ' v σ H Q
def bP(Z:Zx)(csc:Scope)(nc:List Str)(cap:List (Str×Nat))(ifs:List Expr):TT:=fun σ H Q=>∃Oe He ρ O Φ,(∀X',LcCx Z.X csc (Ab nc cap) X'→aZ (zc X' Oe He) ρ O ifs Φ)∧YF (zc Z.X Oe He) ρ O Φ σ H Q
def eA(Z:Zx)(csc:Scope)(nc:List Str)(cap:List (Str×Nat))(e:Expr):TE:=fun σ H Q=>∃Oe He ρ O Φ,(∀X',LcCx Z.X csc (Ab nc cap) X'→WE (zc X' Oe He) ρ O e Φ)∧tW (zc Z.X Oe He) ρ O Φ σ H Q
theorem Wu{X X':Cx}{N':List Str}(h:LcCx X csc N' X'):X'.K=X.K:=by
 obtain⟨_,_,_,_,rfl⟩:=h
 rfl
theorem TV:∀X',LcCx Z.X csc (Ab nc cap) X'→PG X' tg (gA Z csc nc cap tg):=by
 rintro X' is pins s σ H v u Q I r ⟨Oe,He,ρ,O,t,ρ',w,a,rp,k⟩
 refine w X' is pins s σ H v u Q I r ⟨Il (Wu is) a,?_,fun σ' a' h=>k σ' (Il (Wu is).symm a') h⟩
 show Rep X'.K O H v t
 rw[Wu is];exact rp
theorem NK:∀X',LcCx Z.X csc (Ab nc cap) X'→WY X' ifs (bP Z csc nc cap ifs):=by
 rintro X' is pins s σ H Q I ⟨Oe,He,ρ,O,Φ,w,a,k⟩
 refine w X' is pins s σ H Q I ⟨Il (Wu is) a,?_⟩
 intro b H' O' p f
 refine k b H' O' p ?_
 have f:Frm X'.K O H O' H':=f
 rw[Wu is] at f;exact f
theorem TX:∀X',LcCx Z.X csc (Ab nc cap) X'→PE X' elt (eA Z csc nc cap elt):=by
 rintro X' is pins s σ H Q I ⟨Oe,He,ρ,O,Φ,w,a,k⟩
 refine w X' is pins s σ H Q I ⟨Il (Wu is) a,?_⟩
 intro v H' t O' p f r
 have f:Frm X'.K O H O' H':=f
 have r:Rep X'.K O' H' v t:=r
 rw[Wu is] at f r
 exact k v H' t O' p f r
def SU(Z:Zx)(ρ:List (Option T))(elt tg:Expr)(ifs:List Expr)(csc:Scope)(nc:List Str)(cap:List (Str×Nat))(F:List T→AH→Prop)(ts:List T)(O1:AH):Prop:=
 ∃I:Nat→List T→AH→Prop,I 0 [] O1∧(∀i t acc O' p,ts[i]?=some t→I i acc O'→O' p=none→∃ρ4,∀X' Oe He,LcCx Z.X csc (Ab nc cap) X'→WG (zc X' Oe He) nc.length (HI nc ρ cap) (Aj O' p acc) tg t ρ4∧
   aZ (zc X' Oe He) ρ4 (Aj O' p acc) ifs fun b O2=>if b=true then∀X' Oe He,LcCx Z.X csc (Ab nc cap) X'→WE (zc X' Oe He) ρ4 O2 elt fun y O3=>∃O4,O3=Aj O4 p acc∧O4 p=none∧acc.length<sizeLine∧I (i+1) (acc++[y]) O4
    else∃O4,O2=Aj O4 p acc∧O4 p=none∧I (i+1) acc O4)∧∀acc O',I ts.length acc O'→F acc O'
theorem Lp{F:List T→AH→Prop}{σ:St}{H:Hp}{Q:VK}(a:Asr Z ρ O σ H)(h:WI Z ρ O tg iter (SU Z ρ elt tg ifs csc nc cap F))
  (fin:∀acc O' p H',F acc O'→O' p=none→Frm Z.K O H (Aj O' p acc) H'→(∀b us,O b=some us→b≠p)→Q (.ref p) H'):
  aX (fun σ H R=>Asr Z ρ O σ H∧∀J H' ts O',SU Z ρ elt tg ifs csc nc cap F ts O'→Frm Z.K O H O' H'→Lo Z.K J O' H' ts→R J H') nc cap (gA Z csc nc cap tg) (bP Z csc nc cap ifs) (eA Z csc nc cap elt) σ H Q:=by
 refine⟨a,?_⟩
 rintro J H1 ts O1 ⟨I,i0,step,done⟩ f1 it p hp
 have np:O1 p=none:=f1.ok.none_of hp
 have nb:∀b us,O1 b=some us→b≠p:=fun b us e z=>by rw[z,np] at e;cases e
 have fn:=Frm.newO (ts:=[]) (xs:=[]) f1.ok hp .nil
 refine⟨fun i m H2=>m=ts.length-i∧i≤ts.length∧∃acc O',I i acc O'∧O' p=none∧Frm Z.K O1 H1 (Aj O' p acc) H2,⟨ts.length,by simp,fb _,[],O1,i0,np,fn⟩,?_⟩
 rintro i m H2 ⟨rfl,hi,acc,O2,i2,n2,f2⟩
 obtain⟨g1,g2,g3⟩:=it _ H2 f2.kp f2.ok
 by_cases hlt:i<ts.length
 ·refine .inr ⟨g1 i hlt,fun H'=>∃acc O',I (i+1) acc O'∧O' p=none∧Frm Z.K O1 H1 (Aj O' p acc) H',fun H' w=> ⟨_,by omega,rfl,by omega,w⟩,fun x H3 y=>?_⟩
  obtain⟨f3,r3⟩:=g2 i x H3 y ts[i] (by simp[hlt])
  obtain⟨ρ4,st⟩:=step i ts[i] acc O2 p (by simp[hlt]) i2 n2
  have a3:Asr (zc Z.X (Aj O2 p acc) H3) (HI nc ρ cap) (Aj O2 p acc) (HG nc σ cap) H3:=⟨ZH ((a.rl.kp f1.kp a.ok).kp (f2.kp.trans f3.kp) f1.ok),.refl f3.ok⟩
  refine⟨Aj O2 p acc,H3,HI nc ρ cap,Aj O2 p acc,ts[i],ρ4,fun X' is=> (st X' _ _ is).1,a3,r3,fun σ4 a4 hag=> ⟨?_,?_⟩⟩
  ·refine⟨σ4.take nc.length,?_,?_⟩
   ·rw[eH,hag.1]
    simp
   ·have e1:σ4.drop nc.length=Br σ cap:=by
     apply fo
     intro m
     rw[gm,hag.2 _ (by omega)]
     show(e9 nc.length (none:Option V)++Br σ cap)[nc.length+m]?=_
     rw[dQ (by simp)]
     simp
    rw[←e1,gI]
  ·refine⟨Aj O2 p acc,H3,ρ4,Aj O2 p acc,_,fun X' is=> (st X' _ _ is).2,a4,?_⟩
   intro b H5 O5 q5 f5
   cases b with
   |false=>
    rw[if_neg dc] at q5 ⊢
    obtain⟨O4,rfl,n4,i4⟩:=q5
    exact⟨acc,O4,i4,n4,f2.trans (f3.trans f5)⟩
   |true=>
    rw[if_pos rfl] at q5 ⊢
    refine⟨Aj O2 p acc,H3,ρ4,O5,_,fun X' is=>q5 X' _ _ is,a4.step f5,?_⟩
    rintro y H6 t6 O6 ⟨O4,rfl,n4,hlen,i4⟩ f6 r6
    obtain⟨ys,hys,rys⟩:=f6.ok p acc AG
    refine⟨ys,hys,by rw[rys.length];exact hlen,acc++[t6],O4,i4,n4,?_⟩
    have fp:=Frm.put (a:=p) f6.ok AG (rys.append (.one r6))
    rw[Bt] at fp
    exact f2.trans (f3.trans (f5.trans (f6.trans fp)))
 ·have:i=ts.length:=by omega
  subst this
  refine .inl ⟨g3 _ (dm _),fin acc O2 p H2 (done acc O2 i2) n2 (f1.trans f2) fun b us e=>?_⟩
  obtain⟨us',e'⟩:=f1.own b us e
  exact nb b us' e'
theorem VG{σ:St}{H:Hp}{Q:VK}(h:WI Z ρ O tg iter (SU Z ρ elt tg ifs csc nc cap fun acc O'=>Φ (.lst acc) O'))(q:tW Z ρ O Φ σ H Q):
  aX (fun σ H R=>Asr Z ρ O σ H∧∀J H' ts O',SU Z ρ elt tg ifs csc nc cap (fun acc O'=>Φ (.lst acc) O') ts O'→Frm Z.K O H O' H'→Lo Z.K J O' H' ts→R J H') nc cap (gA Z csc nc cap tg) (bP Z csc nc cap ifs) (eA Z csc nc cap elt) σ H Q:=by
 refine Lp q.1 h fun acc O' p H' p1 n f nb=>q.2 _ H' _ O' p1 ?_ ?_
 ·have e:=Az (ts:=acc) n
  refine⟨fun b o e1 e2=>?_,fun b us e1=>?_,?_⟩
  ·have:=f.kp.trans (CW (a:=p)) b o e1 e2
   rw[e] at this;exact this
  ·obtain⟨us',e2⟩:=f.own b us e1
   rw[AZ (nb b us e1)] at e2
   exact⟨us',e2⟩
  ·have:=f.ok.drop (a:=p)
   rw[e] at this;exact this
 ·have:=f.ok.rep (a:=p) AG
  rw[Az n] at this
  exact this
theorem VH(hc:Z.X.calm=true)(ok:LcOk Z.X csc nc cap)(h:WI Z ρ O tg iter (SU Z ρ elt tg ifs csc nc cap fun acc O'=>Φ (.lst acc) O'))
  (hs:∀x,fw iter Z.X.env x=pure x:=by intro _;rfl):WE Z ρ O (.ListComp elt [⟨tg,iter,ifs,0⟩] csc pos) Φ:=
 PE.weak (Ux hc ok h TV NK TX hs) fun σ H Q q=>VG h q
theorem EG{i:Nat}{x:Str}{px spos:Pos}{Ψ:Es}(hsw:kc (.ListComp elt [⟨tg,iter,ifs,0⟩] csc pos) (some (.Name x px)) spos.line Z.X.env=pure true)(hN:Z.X.N.Nodup)(hc:Z.X.calm=true)(ok:LcOk Z.X csc nc cap)
  (h:WI Z ρ O tg iter (SU Z ρ elt tg ifs csc nc cap fun acc O'=>Ψ.nx (ρ.set i (some (.lst acc))) O')) (hx:Z.X.N[i]?=some x:=by rfl) (hk:Z.X.env.scope.names.lookup x=some .local:=by rfl)
  (hs:∀x,fw iter Z.X.env x=pure x:=by intro _;rfl):WS Z ρ O (.Assign [.Name x px] (.ListComp elt [⟨tg,iter,ifs,0⟩] csc pos) spos) Ψ:=
 PS.weak (Jn hN hx hk hsw hc ok h TV NK TX hs) fun D σ H q=>VG (Φ:=fun t O'=>Ψ.nx (ρ.set i (some t)) O') h ⟨q.1,fun v H' t O' p f r=>q.2.nx _ O' _ H' p ⟨(q.1.step f).rl.set r,(q.1.step f).fr⟩ f.kp⟩
end
def bQ:T→String
 | .non=> "NoneType" | .bl _=> "bool" | .int _=> "int" | .str _=> "str" | .tup _=> "tuple" | .lst _=> "list" | .frz _=> "list" | .dct=> "dict" | .raw _=> "object"
def Ae:T→Bool
 | .raw _=>true
 |_=>false
def ZI:T→Bool
 | .int _=>true
 | .bl _=>true
 |_=>false
def Wv:T→Bool
 | .bl _=>true
 |_=>false
def QU(K:b5)(c:String)(g:T→Bool):Prop:=∀t,Ae t=false→eu K (.type (bQ t)) (.type c)=some (g t)
section
variable{K:b5}{O:AH}{H:Hp}{v:V}{t:T}
theorem Rep.ty(r:Rep K O H v t)(hp:Ae t=false):TyOf K H v (.type (bQ t)):=by
 cases r with
 |non=>exact .non
 |bl b=>exact .bl b
 |int i=>exact .int i
 |str i=>exact .str i
 |tup h=>exact .tup h
 |lst h=>exact .lst h
 |frz h=>exact .frz h
 |dct h=>exact .dK h
 |raw v=>cases hp
theorem cW(K:b5):eu K (.type "NoneType") (.type "int")=some false:=by kernel_rfl
theorem cX(K:b5):eu K (.type "bool") (.type "int")=some true:=by kernel_rfl
theorem cY(K:b5):eu K (.type "int") (.type "int")=some true:=by rfl
theorem cZ(K:b5):eu K (.type "str") (.type "int")=some false:=by kernel_rfl
theorem cb(K:b5):eu K (.type "tuple") (.type "int")=some false:=by kernel_rfl
theorem cC(K:b5):eu K (.type "list") (.type "int")=some false:=by kernel_rfl
theorem cc(K:b5):eu K (.type "dict") (.type "int")=some false:=by kernel_rfl
theorem TY:QU K "int" ZI:=fun t h=>by
 cases t with
 |non=>exact cW K
 |bl b=>exact cX K
 |int i=>exact cY K
 |str i=>exact cZ K
 |tup i=>exact cb K
 |lst i=>exact cC K
 |frz i=>exact cC K
 |dct=>exact cc K
 |raw v=>cases h
theorem cf(K:b5):eu K (.type "NoneType") (.type "bool")=some false:=by kernel_rfl
theorem cg(K:b5):eu K (.type "bool") (.type "bool")=some true:=by rfl
theorem cj(K:b5):eu K (.type "int") (.type "bool")=some false:=by kernel_rfl
theorem ck(K:b5):eu K (.type "str") (.type "bool")=some false:=by kernel_rfl
theorem cq(K:b5):eu K (.type "tuple") (.type "bool")=some false:=by kernel_rfl
theorem cD(K:b5):eu K (.type "list") (.type "bool")=some false:=by kernel_rfl
theorem cu(K:b5):eu K (.type "dict") (.type "bool")=some false:=by kernel_rfl
theorem QV:QU K "bool" Wv:=fun t h=>by
 cases t with
 |non=>exact cf K
 |bl b=>exact cg K
 |int i=>exact cj K
 |str i=>exact ck K
 |tup i=>exact cq K
 |lst i=>exact cD K
 |frz i=>exact cD K
 |dct=>exact cu K
 |raw v=>cases h
theorem Ww{c:String}{g:T→Bool}(hk:QU K c g)(hp:Ae t=false):CP K (Yu K) [t,.raw (.ty c)] O (.bl (g t)):=fun Φ p H vs Q ok r q=>by
 obtain⟨v,w,rfl,r1,r2⟩:=r.two_inv
 cases r2.raw_inv
 exact⟨v,.ty c,.type (bQ t),.type c,g t,rfl,rfl,.inl (r1.ty hp),hk t hp,q _ H _ O p (.refl ok) (.bl _)⟩
theorem ZJ:eC "int" =some (.type "int"):=by decide+kernel
theorem ZK:eC "bool" =some (.type "bool"):=by decide+kernel
theorem Wx:eC "tuple" =some (.type "tuple"):=by decide+kernel
theorem VI:eC "list" =some (.type "list"):=by decide+kernel
theorem bR:eC "set" =some (.type "set"):=by decide+kernel
theorem bS:eC "isinstance" =some (.builtin "isinstance"):=by decide+kernel
theorem Wy:eC "max" =some (.builtin "max"):=by decide+kernel
theorem Wz:eC "min" =some (.builtin "min"):=by decide+kernel
theorem XA:eC "len" =some (.builtin "len"):=by decide+kernel
theorem bT:eC "all" =some (.builtin "all"):=by decide+kernel
theorem Im:eC "sorted" =some (.builtin "sorted"):=by decide+kernel
theorem Reps.bls:∀{vs:List V} {ns:List Bool},Reps K O H vs (ns.map T.bl)→vs=ns.map V.bl
 |_,[],r=>r.nil_inv
 |_,n::ns,r=>by
  obtain⟨v,vs',rfl,h,r⟩:=Reps.cons_inv r
  rw[h.bl_inv,Reps.bls r]
  rfl
end
section
variable{Z:Zx}{ρ:List (Option T)}{O:AH}{e a b c:Expr}{es:List Expr}{Φ:BQ}{pos p:Pos}{t ta tb:T}{ts us:List T}{i j:Int}{x:Str}{lo hi:Expr}
theorem XB{cn:String}{g:T→Bool}(mI:Z.X.mg "isinstance" =none)(mC:Z.X.mg x=none)(bC:eC x=some (.type cn))(hk:QU Z.K cn g)(h:ET Z ρ O e t)(hp:Ae t=false){p1:Pos}(hgi:Gl Z.X "isinstance":=by rfl)(hgc:Gl Z.X x:=by rfl)
  (hn:x≠"__name__":=by decide) (hd:(x==("__debug__" :Str))=false:=by decide)
  (he:df [e,.Name x p1] Z.X.env=(false,eval e Z.X.env)::df [.Name x p1] Z.X.env:=by rfl):ET Z ρ O (.Call (.Name "isinstance" p) [e,.Name x p1] [] pos) (.bl (g t)):=
 BN Pj mI bS (AQ h (AQ (ZD mC bC hgc hn hd) AB) he) (Ww hk hp) hgi (by decide) (by decide) he
theorem QW{cn:String}{g:T→Bool}(mI:Z.X.mg "isinstance" =none)(mC:Z.X.mg x=none)(bC:eC x=some (.type cn))(hk:QU Z.K cn g)(h:ET Z ρ O e t)(hp:Ae t=false){p1:Pos}(hgi:Gl Z.X "isinstance":=by rfl)(hgc:Gl Z.X x:=by rfl)
  (hn:x≠"__name__":=by decide) (hd:(x==("__debug__" :Str))=false:=by decide)
  (he:df [e,.Name x p1] Z.X.env=(false,eval e Z.X.env)::df [.Name x p1] Z.X.env:=by rfl):EB Z ρ O (.Call (.Name "isinstance" p) [e,.Name x p1] [] pos) (g t):=
 Hm (XB mI mC bC hk h hp hgi hgc hn hd he)
theorem Io(m:Z.X.mg "len" =none)(h:ET Z ρ O e (.tup ts))(hg:Gl Z.X "len":=by rfl)(he:df [e] Z.X.env=(false,eval e Z.X.env)::df [] Z.X.env:=by rfl):ET Z ρ O (.Call (.Name "len" p) [e] [] pos) (.int ts.length):=
 BN CM m XA (AQ h AB he) (fun Φ q H vs Q ok r k=>by
  obtain⟨v,rfl,r1⟩:=r.one_inv
  obtain⟨a,xs,rfl,h1,r1⟩:=r1.tup_inv
  refine⟨a,xs,rfl,.inr (.inl (.inl h1)),?_⟩
  rw[r1.length]
  exact k _ H _ O q (.refl ok) (.int _)) hg (by decide) (by decide) he
theorem TZ(m:Z.X.mg "len" =none)(h:ET Z ρ O e (.lst ts))(hg:Gl Z.X "len":=by rfl)(he:df [e] Z.X.env=(false,eval e Z.X.env)::df [] Z.X.env:=by rfl):ET Z ρ O (.Call (.Name "len" p) [e] [] pos) (.int ts.length):=
 BN CM m XA (AQ h AB he) (fun Φ q H vs Q ok r k=>by
  obtain⟨v,rfl,r1⟩:=r.one_inv
  obtain⟨a,xs,rfl,h1,_,r1⟩:=r1.lst_inv
  refine⟨a,xs,rfl,.inl (.inl (.inl h1)),?_⟩
  rw[r1.length]
  exact k _ H _ O q (.refl ok) (.int _)) hg (by decide) (by decide) he
theorem XC{bs:List Bool}(m:Z.X.mg "all" =none)(hc:Z.X.calm=true)(h:ET Z ρ O e (.lst (bs.map T.bl)))(hg:Gl Z.X "all":=by rfl)(he:df [e] Z.X.env=(false,eval e Z.X.env)::df [] Z.X.env:=by rfl):ET Z ρ O (.Call (.Name "all" p) [e] [] pos) (.bl (bs.all id)):=
 BN (QG hc) m bT (AQ h AB he) (fun Φ q H vs Q ok r k=>by
  obtain⟨v,rfl,r1⟩:=r.one_inv
  obtain⟨a,xs,rfl,h1,_,r1⟩:=r1.lst_inv
  cases r1.bls
  exact⟨a,bs,rfl,.inl (.inl (.inl h1)),k _ H _ O q (.refl ok) (.bl _)⟩) hg (by decide) (by decide) he
theorem NL(m:Z.X.mg "min" =none)(hc:Z.X.calm=true)(h:ET Z ρ O a (.int i))(h2:ET Z ρ O b (.int j))(hg:Gl Z.X "min":=by rfl)(he:df [a,b] Z.X.env=(false,eval a Z.X.env)::df [b] Z.X.env:=by rfl)(he2:df [b] Z.X.env=(false,eval b Z.X.env)::df [] Z.X.env:=by rfl)(hpl:(gU pos (df [b] Z.X.env)).any (·.1)=false:=by rfl):ET Z ρ O (.Call (.Name "min" p) [a,b] [] pos) (.int (min i j)):=
 BN (Nw hc) m Wz (AQ h (AQ h2 AB he2) he) (fun Φ q H vs Q ok r k=>by
  obtain⟨v,w,rfl,r1,r2⟩:=r.two_inv
  cases r1.int_inv;cases r2.int_inv
  refine⟨i,j,rfl,?_⟩
  have:(if j<i then j else i)=min i j:=by split<;>omega
  rw[this]
  exact k _ H _ O q (.refl ok) (.int _)) hg (by decide) (by decide) he hpl
theorem EH(m:Z.X.mg "max" =none)(hc:Z.X.calm=true)(h:ET Z ρ O a (.int i))(h2:ET Z ρ O b (.int j))(hg:Gl Z.X "max":=by rfl)(he:df [a,b] Z.X.env=(false,eval a Z.X.env)::df [b] Z.X.env:=by rfl)(he2:df [b] Z.X.env=(false,eval b Z.X.env)::df [] Z.X.env:=by rfl)(hpl:(gU pos (df [b] Z.X.env)).any (·.1)=false:=by rfl):ET Z ρ O (.Call (.Name "max" p) [a,b] [] pos) (.int (max i j)):=
 BN (Nv hc) m Wy (AQ h (AQ h2 AB he2) he) (fun Φ q H vs Q ok r k=>by
  obtain⟨v,w,rfl,r1,r2⟩:=r.two_inv
  cases r1.int_inv;cases r2.int_inv
  refine⟨i,j,rfl,?_⟩
  have:(if j>i then j else i)=max i j:=by split<;>omega
  rw[this]
  exact k _ H _ O q (.refl ok) (.int _)) hg (by decide) (by decide) he hpl
theorem Ta{k:Bool}(m:Z.X.mg "int" =none)(h:ET Z ρ O e (.bl k))(hg:Gl Z.X "int":=by rfl)(he:df [e] Z.X.env=(false,eval e Z.X.env)::df [] Z.X.env:=by rfl):ET Z ρ O (.Call (.Name "int" p) [e] [] pos) (.int (if k then 1 else 0)):=
 Hn Nx m ZJ (AQ h AB he) (fun Φ q H vs Q ok r k=>by
  obtain⟨v,rfl,r1⟩:=r.one_inv
  cases r1.bl_inv
  exact .inr ⟨_,rfl,k _ H _ O q (.refl ok) (.int _)⟩) hg (by decide) (by decide) he
theorem KL(m:Z.X.mg "tuple" =none)(h:WE Z ρ O e fun t O'=>∃ts,t=.lst ts∧Φ (.tup ts) O')(hg:Gl Z.X "tuple":=by rfl)(he:df [e] Z.X.env=(false,eval e Z.X.env)::df [] Z.X.env:=by rfl):WE Z ρ O (.Call (.Name "tuple" p) [e] [] pos) Φ:=
 Et KE m Wx (DT (DS h (by
  rintro t O' ⟨ts,rfl,q⟩
  refine Ba fun H vs Q ok r k=>?_
  obtain⟨v,rfl,r1⟩:=r.one_inv
  obtain⟨a,xs,rfl,h1,_,r1⟩:=r1.lst_inv
  exact⟨a,xs,rfl,.inl (.inl h1),fun p hp=>k _ _ _ O' q (.new ok hp) (.tup AX (r1.kp (BZ ok hp) ok))⟩)) he) hg (by decide) (by decide) he
theorem GX(m:Z.X.mg "tuple" =none)(h:ET Z ρ O e (.lst ts))(hg:Gl Z.X "tuple":=by rfl)(he:df [e] Z.X.env=(false,eval e Z.X.env)::df [] Z.X.env:=by rfl):ET Z ρ O (.Call (.Name "tuple" p) [e] [] pos) (.tup ts):=fun Φ q=>KL m (h _ ⟨ts,rfl,q⟩) hg he
theorem QX(m:Z.X.mg "list" =none)(h:ET Z ρ O e (.tup ts))(hg:Gl Z.X "list":=by rfl)(he:df [e] Z.X.env=(false,eval e Z.X.env)::df [] Z.X.env:=by rfl):ET Z ρ O (.Call (.Name "list" p) [e] [] pos) (.lst ts):=
 Hn GQ m VI (AQ h AB he) (fun Φ q H vs Q ok r k=>by
  obtain⟨v,rfl,r1⟩:=r.one_inv
  obtain⟨a,xs,rfl,h1,r1⟩:=r1.tup_inv
  exact⟨a,xs,rfl,.inr (.inl (.inl h1)),fun p hp=>k _ _ _ O q (.new ok hp) (.lst AX (ok.none_of hp) (r1.kp (BZ ok hp) ok))⟩) hg (by decide) (by decide) he
end
def HJ(ts:List T)(lo hi:Option Int):List T:=(ts.drop (HT.BG ts.length 0 lo)).take (HT.BG ts.length ts.length hi-HT.BG ts.length 0 lo)
section
variable{K:b5}{O:AH}{H:Hp}
theorem Reps.cut{vs:List V}{ts:List T}{lo hi:Option Int}(r:Reps K O H vs ts):Reps K O H (Eh vs lo hi) (HJ ts lo hi):=by
 unfold Eh HJ
 rw[r.length]
 exact(r.drop _).take _
end
section
variable{Z:Zx}{ρ:List (Option T)}{O:AH}{e a b c:Expr}{es:List Expr}{Φ:BQ}{pos p p2:Pos}{t ta tb:T}{ts us:List T}{i j:Int}{x:Str}{lo hi:Expr}
theorem Tc{H1 H:Hp}{Q:VK}{o1 o2:Option Int}{v:V}(k:Acc Z.K O H (fun t O'=>Φ t O') Q)(f:Frm Z.K O H O H1)(r:Rep Z.K O H1 v (.tup ts))(p:Φ (.tup (HJ ts o1 o2)) O):ZA Z.K v o1 o2 H1 Q:=by
 obtain⟨a,xs,rfl,h1,r1⟩:=r.tup_inv
 refine⟨a,xs,rfl,.inl (.inl h1),fun q H' hq=>?_⟩
 rcases hq with⟨rfl,rfl,e⟩| ⟨hq,rfl⟩
 ·have rc:=r1.cut (lo:=o1) (hi:=o2)
  rw[e] at rc
  exact k _ _ _ O p f (.tup h1 rc)
 ·exact k _ _ _ O p (f.trans (.new f.ok hq)) (.tup AX ((r1.cut).kp (BZ f.ok hq) f.ok))
theorem QY(h:ET Z ρ O e (.tup ts))(hl:ET Z ρ O hi (.int i)):ET Z ρ O (.Subscript e (.Slice none (some hi) none p2) pos) (.tup (HJ ts none (some i))):=fun Φ q=>by
 refine PE.weak (Fy TN (BR (ρ:=ρ)) Mr (FX (BR (ρ:=ρ)))) fun σ H Q k=>?_
 refine⟨O,_,h (fun t O'=>t=.tup ts∧O'=O) ⟨rfl,rfl⟩,k.1,?_⟩
 rintro v H1 _ _ ⟨rfl,rfl⟩ f1 r1
 refine⟨_,_,hl (fun t O'=>t=.int i∧O'=_) ⟨rfl,rfl⟩,k.1.step f1,?_⟩
 rintro w H2 _ _ ⟨rfl,rfl⟩ f2 r2
 exact⟨i,r2.int_inv,Tc k.2 (f1.trans f2) (r1.kp f2.kp f1.ok) q⟩
theorem Ip(hl:ts.length+us.length≤sizeLine){K:b5}:RP K Yn (.lst ts) (.lst us) O (.lst (ts++us)):=fun Φ p H v w Q ok r1 r2 q=>by
 obtain⟨a,xs,rfl,h1,_,r1⟩:=r1.lst_inv
 obtain⟨b,ys,rfl,h2,_,r2⟩:=r2.lst_inv
 exact⟨a,b,xs,ys,rfl,rfl,h1,h2,by rw[r1.length,r2.length];exact hl,fun l hq=>q _ _ _ O p (.new ok hq) (.lst AX (ok.none_of hq) ((r1.append r2).kp (BZ ok hq) ok))⟩
theorem Fe(ha:ET Z ρ O a (.lst ts))(hb:ET Z ρ O b (.lst us))(hl:ts.length+us.length≤sizeLine):ET Z ρ O (.BinOp a .Add b pos) (.lst (ts++us)):=GR LH (Ip hl) ha hb
end
def AL(p:Int×Int):T:=.tup [.int p.1,.int p.2]
def Oz(p q:Int×Int):Prop:=p.1<q.1∨(p.1=q.1∧p.2<q.2)
section
variable{K:b5}{O:AH}{H:Hp}
theorem GY:∀{ps:List (Int×Int)} {xs:List V},Reps K O H xs (ps.map AL)→∃qs:List (List Int×Addr),xs=qs.map (fun p=>V.ref p.2)∧qs.map (·.1)=ps.map (fun p=> [p.1,p.2])∧∀k x,(k,x)∈qs→H x=some (.tup (k.map V.int))
 | [],xs,r=> ⟨[],r.nil_inv,rfl,fun _ _ h=>by cases h⟩
 |p::ps,xs,r=>by
  obtain⟨v,vs',rfl,h,r'⟩:=Reps.cons_inv r
  obtain⟨a,ys,rfl,ha,r2⟩:=h.tup_inv
  cases Reps.ints (ns:=[p.1,p.2]) r2
  obtain⟨qs,rfl,e,hk⟩:=GY r'
  refine⟨([p.1,p.2],a)::qs,rfl,by rw[dM,dM,e],fun k x h=>?_⟩
  rcases dh.mp h with h|h
  ·cases h;exact ha
  ·exact hk k x h
theorem GZ:∀{qs:List (List Int×Addr)} {ps:List (Int×Int)},qs.map (·.1)=ps.map (fun p=> [p.1,p.2])→(∀k x,(k,x)∈qs→H x=some (.tup (k.map V.int)))→Reps K O H (qs.map fun p=>V.ref p.2) (ps.map AL)
 | [],[],_,_=> .nil
 | [],p::ps,e,_=>by cases e
 |q::qs,[],e,_=>by cases e
 | (k,x)::qs,p::ps,e,h=>by
  rw[dM,dM] at e
  injection e with e1 e2
  have e1:k=[p.1,p.2]:=e1
  have hx:=h k x (dP ..)
  rw[e1] at hx
  exact .cons (.tup hx (.cons (.int _) (.cons (.int _) .nil))) (GZ e2 fun k x hk=>h k x (dw _ hk))
end
theorem NM:∀{ys:List (List Int×Addr)},(∀k x,(k,x)∈ys→∃i j:Int,k=[i,j])→∃ps:List (Int×Int),ys.map (·.1)=ps.map (fun p=> [p.1,p.2])
 | [],_=> ⟨[],rfl⟩
 | (k,x)::ys,h=>by
  obtain⟨i,j,e⟩:=h k x (dP ..)
  obtain⟨ps,e2⟩:=NM fun k x hk=>h k x (dw _ hk)
  exact⟨(i,j)::ps,by rw[dM,dM,e,e2]⟩
section
variable{Z:Zx}{ρ:List (Option T)}{O:AH}{e:Expr}{Φ:BQ}{pos p p1 pos1:Pos}
theorem Iq{ps:List (Int×Int)}(m:Z.X.mg "sorted" =none)(m2:Z.X.mg "set" =none)(hc:Z.X.calm=true)(hu:Z.X.A.units+8<cLine)(h:ET Z ρ O e (.lst (ps.map AL)))(hl:ps.length≤300)(hb:∀q∈ps,0≤q.2∧q.2<65536)
  (k:∀qs:List (Int×Int),qs.Pairwise Oz→(∀q,q∈qs↔q∈ps)→qs.length≤ps.length→Φ (.lst (qs.map AL)) O) (hg:Gl Z.X "sorted":=by rfl) (hg2:Gl Z.X "set":=by rfl) (he:df [e] Z.X.env=(false,eval e Z.X.env)::df [] Z.X.env:=by rfl)
  (he2:df [Expr.Call (.Name "set" p1) [e] [] pos1] Z.X.env=(false,eval (.Call (.Name "set" p1) [e] [] pos1) Z.X.env)::df [] Z.X.env:=by rfl):WE Z ρ O (.Call (.Name "sorted" p) [.Call (.Name "set" p1) [e] [] pos1] [] pos) Φ:=by
 refine PE.weak (Fu (Ic hc) hg m Im (IM (HW (OQ hc hu) hg2 m2 bR (Lg (ρ:=ρ)) (by decide) (by decide) he) LB he2) (by decide) (by decide) he2) fun σ H Q q=>?_
 refine⟨O,_,AQ h AB he (fun ts O'=>ts=[.lst (ps.map AL)]∧O'=O) ⟨rfl,rfl⟩,q.1,?_⟩
 rintro vs H1 _ _ ⟨rfl,rfl⟩ f r
 obtain⟨v,rfl,r1⟩:=r.one_inv
 obtain⟨a,xs,rfl,h1,_,r1⟩:=r1.lst_inv
 obtain⟨qs,rfl,eq,hk⟩:=GY r1
 have lq:qs.length=ps.length:=by
  have:=congrArg List.length eq
  simpa using this
 refine⟨a,qs,rfl,.inl (.inl h1),fun k x hx=> .inl (.inl (hk k x hx)),by omega,fun l xs hl1 so nd=>?_⟩
 obtain⟨s1,s2,s3⟩:=so
 have f1:=Frm.new (o:=SetO Z.X.prog Z.X.w l xs) f.ok hl1
 have hk2:∀k x,(k,x)∈xs→upd H1 l (SetO Z.X.prog Z.X.w l xs) x=some (.tup (k.map V.int)):=fun k x hx=>by
  have:=hk k x (s1 _ hx)
  rw[AR (AN this hl1)];exact this
 have mem1:∀k x,(k,x)∈qs→∃q∈ps,k=[q.1,q.2]:=fun k x hx=>by
  have:k∈qs.map (·.1):=dy.mpr ⟨(k,x),hx,rfl⟩
  rw[eq] at this
  obtain⟨q,h1,h2⟩:=dy.mp this
  exact⟨q,h1,h2.symm⟩
 have two:∀k x,(k,x)∈xs→∃i j,k=[i,j]∧0≤j∧j<65536:=fun k x hx=>by
  obtain⟨q,h1,h2⟩:=mem1 k x (s1 _ hx)
  exact⟨q.1,q.2,h2,hb q h1⟩
 refine⟨l,xs,rfl,AX,fun k x hx=> .inl (.inl (hk2 k x hx)),by omega,two,fun d ys hd pm pw=>?_⟩
 obtain⟨rs,er⟩:=NM (ys:=ys) fun k x hx=>by
  obtain⟨i,j,e,_⟩:=two k x (pm.mem_iff.mp hx)
  exact⟨i,j,e⟩
 have f2:=Frm.new (o:=.lst (ys.map fun p=>V.ref p.2)) f1.ok hd
 have hk3:∀k x,(k,x)∈ys→upd (upd H1 l (SetO Z.X.prog Z.X.w l xs)) d (.lst (ys.map fun p=>V.ref p.2)) x=some (.tup (k.map V.int)):=fun k x hx=>by
  have:=hk2 k x (pm.mem_iff.mp hx)
  rw[AR (AN this hd)];exact this
 have memr:∀z,z∈rs↔∃x,([z.1,z.2],x)∈ys:=fun z=>by
  constructor
  ·intro hz
   have:[z.1,z.2]∈ys.map (·.1):=by rw[er];exact dy.mpr ⟨z,hz,rfl⟩
   obtain⟨⟨k,x⟩,h1,h2⟩:=dy.mp this
   have h2:k=_:=h2
   subst h2
   exact⟨x,h1⟩
  ·rintro⟨x,hx⟩
   have:[z.1,z.2]∈ys.map (·.1):=dy.mpr ⟨_,hx,rfl⟩
   rw[er] at this
   obtain⟨w,h1,h2⟩:=dy.mp this
   injection h2 with e1 e2
   injection e2 with e2 _
   have:w=z:=fK e1 e2
   rw[←this];exact h1
 have ndy:(ys.map (·.1)).Nodup:=(pm.map _).nodup_iff.mpr nd
 refine q.2 _ _ _ _ (k rs ?_ (fun z=>?_) ?_) (f.trans (f1.trans f2)) (.lst AX (f1.ok.none_of hd) (GZ er hk3))
 ·--strictly rising
  have pw':rs.Pairwise fun x y=>65536*x.1+x.2≤65536*y.1+y.2:=by
   have h3:(ys.map (·.1)).Pairwise fun x y=>65536*x.getD 0 0+x.getD 1 0≤65536*y.getD 0 0+y.getD 1 0:=gC.mpr pw
   rw[er] at h3
   exact(gC (f:=fun(p:Int×Int)=> [p.1,p.2]) (R:=fun x y=>65536*x.getD 0 0+x.getD 1 0≤65536*y.getD 0 0+y.getD 1 0)).mp h3
  have nd':rs.Pairwise fun x y=>x≠y:=by
   have h3:(ys.map (·.1)).Pairwise (·≠·):=ndy
   rw[er] at h3
   exact(gC.mp h3).imp fun hxy z=>hxy (by rw[z])
  refine(pw'.and nd').imp_of_mem fun{x y} hx hy ⟨h1,h2⟩=>?_
  have bnd:∀z,z∈rs→0≤z.2∧z.2<65536:=fun z hz=>by
   obtain⟨v,hv⟩:=(memr z).mp hz
   obtain⟨i,j,e,hj⟩:=two _ v (pm.mem_iff.mp hv)
   injection e with e1 e2
   injection e2 with e2 _
   omega
  have b1:=bnd x hx
  have b2:=bnd y hy
  unfold Oz
  have:¬(x.1=y.1∧x.2=y.2):=fun z=>h2 (fK z.1 z.2)
  omega
 ·rw[memr]
  constructor
  ·rintro⟨x,hx⟩
   obtain⟨w,h1,h2⟩:=mem1 _ x (s1 _ (pm.mem_iff.mp hx))
   injection h2 with e1 e2
   injection e2 with e2 _
   have:z=w:=fK e1 e2
   rw[this];exact h1
  ·intro hz
   have:[z.1,z.2]∈qs.map (·.1):=by rw[eq];exact dy.mpr ⟨z,hz,rfl⟩
   obtain⟨⟨k,x⟩,h1,h2⟩:=dy.mp this
   have h2:k=_:=h2
   subst h2
   obtain⟨x',hx'⟩:=s2 _ _ h1
   exact⟨x',pm.mem_iff.mpr hx'⟩
 ·have e1:rs.length=ys.length:=by
   have:=congrArg List.length er
   simpa using this.symm
  have e2:=pm.length_eq
  omega
end
theorem XFly.mono{X:Cx}{W W':St→XK}(x:XFly X W)(h:∀σ cls H',W' σ cls none H'→W σ cls none H'):XFly X W':=⟨fun pins σ H s e s' I c=>x.fly pins σ H s e s' I (by
 obtain⟨y,cls,H',e1,f,q⟩:=c
 exact⟨y,cls,H',e1,f,h σ cls H' q⟩)⟩
theorem BW{X:Cx}{Oe:AH}{He:Hp}:XFly X (zc X Oe He).W:=⟨fun pins σ H s e s' I c=>by
 obtain⟨y,cls,H',e1,f,_,O',z,_⟩:=c
 exact z.elim⟩
abbrev zB(P:Program)(w:World)(K:b5)(mg:Str→Option Value)(base:Heap)(N:List Str)(qual:Str)(sc:Scope)(f:Addr)(cdv:Value)(A:dH)(outer:List Env)(s:b6)(H:Hp)(E:XK)(O:AH)(Ξ:Value→AH→Prop):Zx:=
 ⟨Bv (CXe P w) P w K mg base N qual sc f cdv A outer s H E,O,H,Ξ⟩
def Do(N:List Str)(ts:List T):List (Option T):=ts.map some++e9 (N.length-ts.length) none
theorem Gc{K:b5}{O:AH}{H:Hp}{N:List Str}{vs:List V}{ts:List T}(r:Reps K O H vs ts):Rl K O H (start N vs) (Do N ts):=by
 refine⟨by simp[start,Do,r.length],fun i t e=>?_⟩
 unfold Do at e
 by_cases hi:i<ts.length
 ·rw[eF (by simpa using hi),b9] at e
  cases ht:ts[i]? with
  |none=>rw[ht] at e;cases e
  |some u=>
   rw[ht] at e
   cases e
   obtain⟨v,h1,h2⟩:=r.get ht
   refine⟨v,?_,h2⟩
   unfold start
   rw[eF (by simpa[r.length] using hi),b9,h1]
   rfl
 ·rw[dQ (by simpa using hi),gw] at e
  split at e<;>cases e
theorem AU{P:Program}{w:World}{K:b5}{mg:Str→Option Value}{base:Heap}{x qual:Str}{st:Stmt}{f:Addr}{fd:dD}{N ps:List Str}{k:Nat}{sp:Bf}(F:Fun K x qual st f fd)(S:FnScope N ps (AA st))(len:∀ts O Φ Ξ,sp ts O Φ Ξ→ts.length=ps.length)
  (h:∀(cdv:Value) (A:dH) (outer:List Env) (s:b6) (H:Hp) (E:XK) (O:AH) (Ξ:Value→AH→Prop),Room k (A.deeper (je qual (AA st) s.heap.objs.size f cdv))→XFly (zB P w K mg base N qual (AA st) f cdv A outer s H E O Ξ).X (zB P w K mg base N qual (AA st) f cdv A outer s H E O Ξ).W→
   ∀ts Φ,sp ts O Φ Ξ→Ew (zB P w K mg base N qual (AA st) f cdv A outer s H E O Ξ) (Do N ts) O (BA st) {nx:=fun _ O'=>Φ .non O',rt:=Φ}):FnOk P w K mg base (CXe P w) (k+1) f fd ps (Bq K sp):=by
 refine F.okX S (fun vs H Q E h=>?_) (fun cdv A outer s H vs Q E hr h1=>?_)
 ·obtain⟨ts,O,Φ,Ξ,r,_,q,_⟩:=h
  rw[r.length];exact len ts O Φ Ξ q
 ·obtain⟨ts,O,Φ,Ξ,r,ok,q,acc,ex⟩:=h1
  refine⟨_,h cdv A outer s H E O Ξ hr (XFly.mono Aq.f ?_) ts Φ q,⟨Gc r,.refl ok⟩,?_⟩
  ·rintro σ cls H' ⟨_,O',x,f⟩
   exact ex cls O' H' x f
  ·exact⟨fun ρ' O' σ' H' p a _=>acc _ _ _ O' p a.fr .non,fun v H' t O' p f r=>acc v H' t O' p f r,fun _ _ _ _ z=>z.elim,fun _ _ _ _ z=>z.elim⟩
def VJ(S:Scope)(N:List Str)(csc:Scope)(cap:List (Str×Nat)):Bool:=
 decide (csc.kind=.function)&&csc.names.all (fun y=>decide (y.2=.cell→csc.names.lookup y.1=some .cell))&&csc.names.all (fun y=>decide (y.2=.local→csc.names.lookup y.1=some .local))&&csc.names.all (fun y=>decide (y.2=.free→S.names.lookup y.1=some .cell∨S.names.lookup y.1=some .free))&&cap.all (fun p=>decide (N[p.2]?=some p.1∧csc.names.lookup p.1=some .free))
theorem BP{X:Cx}{csc:Scope}{nc:List Str}{cap:List (Str×Nat)}(S:Scope)(N:List Str)(chk:VJ S N csc cap=true)(h1:X.env.scope=S:=by rfl)(h2:X.N=N:=by rfl):LcOk X csc nc cap:=by
 unfold VJ at chk
 simp only[gO,gx,decide_eq_true_eq] at chk
 obtain⟨⟨⟨⟨c1,c2⟩,c3⟩,c4⟩,c5⟩:=chk
 exact⟨c1,c2,c3,by rw[h1];exact c4,by rw[h2];exact c5⟩
section
variable{Z:Zx}{ρ:List (Option T)}{O:AH}{elt tg iter:Expr}{ifs:List Expr}{csc:Scope}{nc:List Str}{cap:List (Str×Nat)}{Φ:BQ}{pos:Pos}{α:Type}
theorem Gd{F:List T→AH→Prop}(xs:List α)(f g:α→T)(hl:xs.length≤sizeLine)(h:∀x,x∈xs→∃ρ4,∀X' Oe He,LcCx Z.X csc (Ab nc cap) X'→∀O',(WG (zc X' Oe He) nc.length (HI nc ρ cap) O' tg (f x) ρ4∧ET (zc X' Oe He) ρ4 O' elt (g x)))(fin:F (xs.map g) O):SU Z ρ elt tg [] csc nc cap F (xs.map f) O:=by
 refine⟨fun i acc O'=>O'=O∧acc=(xs.take i).map g,⟨rfl,by simp⟩,?_,?_⟩
 ·rintro i t acc O' p e ⟨rfl,rfl⟩ np
  rw[b9] at e
  cases ex:xs[i]? with
  |none=>rw[ex] at e;cases e
  |some x=>
   rw[ex] at e
   cases e
   obtain⟨ρ4,w⟩:=h x (dj ex)
   have hi:=(dt.mp ex).1
   refine⟨ρ4,fun X' Oe He is=> ⟨(w X' Oe He is _).1,Ik (LI fun X' Oe He is=> (w X' Oe He is _).2 _ ⟨_,rfl,np,?_,rfl,?_⟩)⟩⟩
   ·simp;omega
   ·rw[gh,ex];simp
 ·rintro acc O' ⟨rfl,rfl⟩
  rw[c9,fM]
  exact fin
theorem DH{F:List T→AH→Prop}{c:Expr}(xs:List α)(f g:α→T)(q:α→Bool)(hl:xs.length≤sizeLine)(h:∀x,x∈xs→∃ρ4,∀X' Oe He,LcCx Z.X csc (Ab nc cap) X'→∀O',(WG (zc X' Oe He) nc.length (HI nc ρ cap) O' tg (f x) ρ4∧EB (zc X' Oe He) ρ4 O' c (q x)∧(q x=true→ET (zc X' Oe He) ρ4 O' elt (g x))))(fin:F ((xs.filter q).map g) O):SU Z ρ elt tg [c] csc nc cap F (xs.map f) O:=by
 refine⟨fun i acc O'=>O'=O∧acc=((xs.take i).filter q).map g,⟨rfl,by simp⟩,?_,?_⟩
 ·rintro i t acc O' p e ⟨rfl,rfl⟩ np
  rw[b9] at e
  cases ex:xs[i]? with
  |none=>rw[ex] at e;cases e
  |some x=>
   rw[ex] at e
   cases e
   obtain⟨ρ4,w⟩:=h x (dj ex)
   have hi:=(dt.mp ex).1
   refine⟨ρ4,fun X' Oe He is=> ⟨(w X' Oe He is _).1,NJ ((w X' Oe He is _).2.1 _ ?_)⟩⟩
   cases hq:q x with
   |true=>
    refine LI fun X' Oe He is=> (w X' Oe He is _).2.2 hq _ ⟨_,rfl,np,?_,rfl,?_⟩
    ·have:=iy q (xs.take i)
     simp at this ⊢;omega
    ·rw[gh,ex];simp[hq]
   |false=>
    refine Pd ⟨_,rfl,np,rfl,?_⟩
    rw[gh,ex];simp[hq]
 ·rintro acc O' ⟨rfl,rfl⟩
  rw[c9,fM]
  exact fin
theorem BU(nc:List Str)(cap:List (Str×Nat))(xs:List α)(f g:α→T)(hc:Z.X.calm=true)(ok:LcOk Z.X csc nc cap)(hi:EI Z ρ O tg iter (xs.map f))(hl:xs.length≤sizeLine)(h:∀x,x∈xs→∃ρ4,∀X' Oe He,LcCx Z.X csc (Ab nc cap) X'→∀O',(WG (zc X' Oe He) nc.length (HI nc ρ cap) O' tg (f x) ρ4∧ET (zc X' Oe He) ρ4 O' elt (g x)))
  (hs:∀x,fw iter Z.X.env x=pure x:=by intro _;rfl):ET Z ρ O (.ListComp elt [⟨tg,iter,[],0⟩] csc pos) (.lst (xs.map g)):=fun Φ p=>VH hc ok (hi _ (Gd xs f g hl h p)) hs
theorem DI(nc:List Str)(cap:List (Str×Nat)){c:Expr}(xs:List α)(f g:α→T)(q:α→Bool)(hc:Z.X.calm=true)(ok:LcOk Z.X csc nc cap)(hi:EI Z ρ O tg iter (xs.map f))(hl:xs.length≤sizeLine)(h:∀x,x∈xs→∃ρ4,∀X' Oe He,LcCx Z.X csc (Ab nc cap) X'→∀O',(WG (zc X' Oe He) nc.length (HI nc ρ cap) O' tg (f x) ρ4∧EB (zc X' Oe He) ρ4 O' c (q x)∧(q x=true→ET (zc X' Oe He) ρ4 O' elt (g x))))
  (hs:∀x,fw iter Z.X.env x=pure x:=by intro _;rfl):ET Z ρ O (.ListComp elt [⟨tg,iter,[c],0⟩] csc pos) (.lst ((xs.filter q).map g)):=fun Φ p=>VH hc ok (hi _ (DH xs f g q hl h p)) hs
end
section
variable{Z:Zx}{ρ:List (Option T)}{O:AH}{e:Expr}{es:List Expr}{Φ:BQ}{Ψ:Es}{pos p:Pos}{ts:List T}{x:Str}
theorem EA.wa{Φ:Lf}(h:EA Z ρ O es ts)(p:Φ ts O):WA Z ρ O es Φ:=h Φ p
theorem EI.wi{tg iter:Expr}{Φ:Lf}(h:EI Z ρ O tg iter ts)(p:Φ ts O):WI Z ρ O tg iter Φ:=h Φ p
theorem QZ{k:Nat}{f:Addr}{fd:dD}{ps:List Str}{sp:Sp}(F:FnOk Z.X.prog Z.X.w Z.X.K Z.X.mg Z.X.base (CXe Z.X.prog Z.X.w) k f fd ps sp)(hm:Z.X.mg x=some (.ref f))(hk:iu Z.X.K (.ref f)=true)(hb:Binds Z.X.K fd ps [])(hr:Room k Z.X.A)(xf:XFly Z.X Z.W)(h:EA Z ρ O (e::es) ts)
  (w:∀σ H vs Q,Asr Z ρ O σ H→Reps Z.K O H vs ts→Acc Z.K O H Φ Q→sp vs H Q (Z.W σ)) (hg:Gl Z.X x:=by rfl)
  (hdb:(x==("__debug__" :Str))=false:=by decide) (he:df (e::es) Z.X.env=(false,eval e Z.X.env)::df es Z.X.env:=by rfl) (hpl:(gU pos (df es Z.X.env)).any (·.1)=false:=by rfl):WE Z ρ O (.Call (.Name x p) (e::es) [] pos) Φ:=by
 refine PE.weak (Jq xf F hr hg hm hk hb (Lg (ρ:=ρ)) hdb he hpl) fun σ H Q q=>?_
 refine⟨O,_,h (fun us O'=>us=ts∧O'=O) ⟨rfl,rfl⟩,q.1,?_⟩
 rintro vs H1 _ _ ⟨rfl,rfl⟩ f r
 exact w σ H1 vs Q (q.1.step f) r (q.2.step f)
end
def Bg:Expr→Bool
 | .Starred .. =>false
 |_=>true
theorem DU{e:Expr}{es:List Expr}{env:Env}(h:Bg e=true):df (e::es) env=(false,eval e env)::df es env:=by
 cases e<;>first|rfl|cases h
section
variable{Z:Zx}{ρ:List (Option T)}{O:AH}{e:Expr}{es:List Expr}{t:T}{ts:List T}
theorem AE(h:ET Z ρ O e t)(hr:EA Z ρ O es ts)(hn:Bg e=true:=by rfl):EA Z ρ O (e::es) (t::ts):=AQ h hr (DU hn)
theorem Ir{Φ:Lf}(h:WE Z ρ O e fun t O1=>WA Z ρ O1 es fun ts O2=>Φ (t::ts) O2)(hn:Bg e=true:=by rfl):WA Z ρ O (e::es) Φ:=DT h (DU hn)
theorem EJ{a b:Expr}{i j:Int}{k:Nat}{pos:Pos}(ha:ET Z ρ O a (.int i))(hb:ET Z ρ O b (.int j))(h1:Bg a=true:=by rfl)(h2:Bg b=true:=by rfl):ET Z ρ O (.Tuple [a,b] k pos) (AL (i,j)):=Ih (AE ha (AE hb AB h2) h1) (by show 2≤sizeLine;decide)
end
theorem Qa{O:AH}{p:Addr}{xs:List T}(h:O p=some xs):Aj O p xs=O:=by
 funext b
 by_cases hb:b=p
 ·rw[hb,AG,h]
 ·rw[AZ hb]
theorem XD{O:AH}{p l:Addr}{xs:List T}(h:O p=some xs)(hl:O l=none):p≠l:=fun z=>by rw[z,hl] at h;cases h
section
variable{Z:Zx}{ρ:List (Option T)}{O:AH}{e:Expr}{es:List Expr}{t:T}{ts:List T}{Φ:BQ}{Ψ:Es}{pos p2:Pos}{x:Str}
structure HS(Z:Zx)(ρ:List (Option T))(O:AH)(ss:List Stmt)(Ψ:Es):Prop where
 out:Ew Z ρ O ss Ψ
theorem DV{s:Stmt}{ss:List Stmt}(h:WS Z ρ O s {Ψ with nx:=fun ρ' O'=>HS Z ρ' O' ss Ψ}):HS Z ρ O (s::ss) Ψ:=
 ⟨AD (Fd h (fun _ _ z=>z.out) (fun _ _ z=>z) (fun _ _ z=>z) (fun _ _ z=>z))⟩
theorem Lq{s:Stmt}(h:WS Z ρ O s Ψ):HS Z ρ O [s] Ψ:=⟨AF h⟩
end
section
variable{X:Cx}{a b c d:Expr}{ta tb tc td:TE}{pos:Pos}
end
section
variable{Z:Zx}{ρ:List (Option T)}{O:AH}{a b c d:Expr}{pos:Pos}{i j k l:Int}
end
end L2.TL
namespace L2
open PySem PySem.Spec PySem.Calls PyProof.Rows
section
variable{prog:Program}{w:World}{A:dH}{E:Value→b6→Prop}{s:b6}
theorem Lr{l:Addr}{o:Obj}{vs:List Value}{n:Nat}{ns:List Int}{Q:Value→b6→Prop}(ho:s.heap.get? l=some o)(hc:o.cls=.type "tuple")(hd:o.data=.seq vs.toArray n)(hI:j9 vs ns)(h64:vs.length<64)
  (h:∀(h':Heap) (a:Addr) (out:List Value) (ms:List Int) (c:Nat),s.heap.get? a=none→h'.get? a=some (fe "list" out.toArray c)→(∀b o,s.heap.get? b=some o→h'.get? b=some o)→j9 out ms→ms.Perm ns→ms.Pairwise (·≤·)→Q (.ref a) {s with heap:=h'}):
  wpAny (model prog w) A (call (.builtin "sorted") [.ref l]) Q E s:=by
 refine Calls.call_function_entry mY mq mx (mB _) ?_
 unfold Builtin.«sorted»
 refine b4 (m:=checkCount "sorted" 1 1 _) (b7 ?_)
 refine b4 (wpAny_collect_seq l (.inr rfl) ho hc hd (fun h1 hk1=>?_) (by rw[dv,fh];omega))
 show wpAny _ _ (newList vs>>=_) _ _ _
 refine b4 (jL ?_ (by rw[fh];omega))
 have hoL:(h1.push (fe "list" vs.toArray 0)).get? h1.objs.size=some (fe "list" vs.toArray 0):=dF _ rfl
 show wpAny _ _ _ _ _ {s with heap:=h1.push (fe "list" vs.toArray 0)}
 refine b4 (ef (gq lH ⟨_,hoL,rfl⟩ lz (list_sort_tree hoL hI h64 fun out ms a1 a2 a3=> ⟨_,rfl,?_⟩) (lN _)))
 refine b7 ⟨_,rfl,?_⟩
 obtain⟨c,hcat⟩:=sortedHeap_at (out:=out) hoL
 refine h _ h1.objs.size out.toList ms c ?_ hcat (fun b o e=>?_) a1 a2 a3
 ·cases e:s.heap.get? h1.objs.size with
  |none=>rfl
  |some o'=>exact absurd (du (hk1 _ _ e)) (e6 _)
 ·have hlt:=du (hk1 b o e)
  rw[sortedHeap_old (dN hlt) (by rw[size_push'];exact fA hlt)]
  exact da _ (hk1 b o e)
end
section
variable{X:Cx}
def XE(K:b5):List V→Hp→VK→Prop:=fun xs H Q=>∃(a:Addr) (ns:List Int),xs=[.ref a]∧II K H a (ns.map V.int)∧ns.length<64∧∀(p:Addr) (ms:List Int),H p=none→ms.Perm ns→ms.Pairwise (·≤·)→Q (.ref p) (upd H p (.lst (ms.map V.int)))
theorem Iu:BD X (.builtin "sorted") (XE X.K):=by
 intro pins s σ H xs us Q I r h
 obtain⟨a,ns,rfl,hS,hl,q⟩:=h
 obtain⟨u,rfl,ru⟩:=Vals.one r
 cases ru
 obtain⟨its,rv,⟨o,e1,e2,n,e3⟩,_⟩:=I.tuple hS
 have hi:=Fw rv
 have hlen:its.length<64:=by have:=rv.length;simp at this;omega
 refine Lr e1 e2 e3 hi hlen fun h' b out ms c hb hg hk hI pm pw=>?_
 have hf:H b=none:=I.hok.none_of hb
 refine⟨.ref b,upd H b (.lst (ms.map V.int)),I.laidF (t':=s.toks) hk hb ⟨?_,out,c,DR hI,hg⟩,rfl,q b ms hf pm pw⟩
 rw[c9,pm.length_eq,fh]
 omega
theorem Ho:∀{ns ms:List Int},LO (ns.map V.int) (ms.map V.int)=decide (ns=ms)
 | [],[]=>rfl
 | [],_::_=>rfl
 |_::_,[]=>rfl
 |n::ns,m::ms=>by
  show(SR (V.int n) (V.int m)&&LO (ns.map V.int) (ms.map V.int))=_
  rw[Ho (ns:=ns) (ms:=ms)]
  have:SR (V.int n) (V.int m)=(n==m):=rfl
  rw[this]
  by_cases h1:n=m
  ·subst h1
   by_cases h2:ns=ms
   ·subst h2;simp
   ·simp[h2]
  ·simp[h1]
theorem Hq{ns:List Int}:(ns.map V.int).all Fz=true:=by
 rw[gx]
 intro x hx
 obtain⟨n,_,rfl⟩:=dy.mp hx
 rfl
def cE(K:b5)(g:Bool→Bool):R2:=fun x y H Q=>∃(a b:Addr) (ns ms:List Int),x=.ref a∧y=.ref b∧Cr K H a (ns.map V.int)∧Cr K H b (ms.map V.int)∧Q (.bl (g (decide (ns=ms)))) H
theorem XF(hu:X.A.units<cLine):Cs X (fE .NotEq) (cE X.K (!·)):=by
 intro pins s σ H x y v u Q I rx ry h
 obtain⟨a,b,ns,ms,rfl,rfl,ha,hb,q⟩:=h
 by_cases hl:ns.length=ms.length
 ·refine Wd hu pins s σ H _ _ v u Q I rx ry ⟨a,b,_,_,rfl,rfl,ha,hb,Hq,Hq,by simpa using hl,?_⟩
  rw[Ho];exact q
 ·cases rx;cases ry
  obtain⟨its,r1,p1,z1⟩:=I.list ha
  obtain⟨its2,r2,p2,z2⟩:=I.list hb
  have l1:=r1.length
  have l2:=r2.length
  refine SeqAt.RcNeAt.lists_lengths p1.isList p2.isList ?_ hu _ _ _ _ ⟨.bl _,H,I,rfl,?_⟩
  ·simp only[dv,bne_iff_ne,ne_eq]
   simp at l1 l2
   omega
  ·have:decide (ns=ms)=false:=decide_eq_false fun z=>hl (by rw[z])
   rw[this] at q
   exact q
end
end L2
namespace L2.TL
open PySem PySem.Spec PySem.Calls PyProof.Rows
mutual
def dT:T→fP
 | .non=> .none
 | .bl b=> .bool b
 | .int i=> .int i
 | .str x=> .str x
 | .tup ts=> .tuple (dTs ts)
 | .lst ts=> .list (dTs ts)
 | .frz _=> .none
 | .dct=> .none
 | .raw _=> .none
def dTs:List T→List fP
 | []=> []
 |t::ts=>dT t::dTs ts
end
section
variable{K:b5}{O:AH}{H:Hp}{P:Program}{w:World}{h:Heap}
end
section
variable{X:Cx}
end
theorem XOk.mono{X:Cx}{W W':St→XK}(x:XOk X W)(h:∀σ cls H',W' σ cls none H'→W σ cls none H'):XOk X W':=
 ⟨fun pins σ H s h' y C I m q=>x.made pins σ H s h' y C I m (h σ _ H q),(XFly.mono x.f h).fly,x.own,fun pins σ H s y C t dx fs I a b c d q=>x.madeF pins σ H s y C t dx fs I a b c d (h σ _ H q)⟩
theorem Ff{P:Program}{w:World}{K:b5}{mg:Str→Option Value}{base:Heap}{x qual:Str}{st:Stmt}{f:Addr}{fd:dD}{N ps:List Str}{k:Nat}{sp:Bf}(F:Fun K x qual st f fd)(S:FnScope N ps (AA st))(len:∀ts O Φ Ξ,sp ts O Φ Ξ→ts.length=ps.length)
  (h:∀(cdv:Value) (A:dH) (outer:List Env) (s:b6) (H:Hp) (E:XK) (O:AH) (Ξ:Value→AH→Prop),Room k (A.deeper (je qual (AA st) s.heap.objs.size f cdv))→XOk (zB P w K mg base N qual (AA st) f cdv A outer s H E O Ξ).X (zB P w K mg base N qual (AA st) f cdv A outer s H E O Ξ).W→
   ∀ts Φ,sp ts O Φ Ξ→Ew (zB P w K mg base N qual (AA st) f cdv A outer s H E O Ξ) (Do N ts) O (BA st) {nx:=fun _ O'=>Φ .non O',rt:=Φ}):FnOk P w K mg base (CXe P w) (k+1) f fd ps (Bq K sp):=by
 refine F.okX S (fun vs H Q E h=>?_) (fun cdv A outer s H vs Q E hr h1=>?_)
 ·obtain⟨ts,O,Φ,Ξ,r,_,q,_⟩:=h
  rw[r.length];exact len ts O Φ Ξ q
 ·obtain⟨ts,O,Φ,Ξ,r,ok,q,acc,ex⟩:=h1
  refine⟨_,h cdv A outer s H E O Ξ hr (XOk.mono Aq ?_) ts Φ q,⟨Gc r,.refl ok⟩,?_⟩
  ·rintro σ cls H' ⟨_,O',x,f⟩
   exact ex cls O' H' x f
  ·exact⟨fun ρ' O' σ' H' p a _=>acc _ _ _ O' p a.fr .non,fun v H' t O' p f r=>acc v H' t O' p f r,fun _ _ _ _ z=>z.elim,fun _ _ _ _ z=>z.elim⟩
theorem DW{K:b5}{O:AH}{H:Hp}:∀(ns:List Int),Reps K O H (ns.map V.int) (ns.map T.int)
 | []=> .nil
 |n::ns=> .cons (.int n) (DW ns)
section
variable{Z:Zx}{ρ:List (Option T)}{O:AH}{e a b:Expr}{es:List Expr}{Ψ:Es}{Φ:BQ}{pos p:Pos}{t:T}{ts:List T}
theorem DX{x:Str}{C:Addr}{np cpos:Pos}(xo:XOk Z.X Z.W)(hc:Z.X.calm=true)(hm:Z.X.mg x=some (.ref C))(q:gk Z.X.K C HH "ValueError.__new__" =true)(h:Z.Xi (.ref C) O)(hg:Gl Z.X x:=by rfl)
  (hd:(x==("__debug__" :Str))=false:=by decide):WS Z ρ O (.Raise (some (.Call (.Name x np) [] [] cpos)) none pos) Ψ:=
 PS.weak (OF xo hc hg hm q hd) fun D σ H k=> ⟨rfl,O,h,k.1.fr⟩
theorem Lu{ns:List Int}(m:Z.X.mg "sorted" =none)(h:ET Z ρ O e (.tup (ns.map T.int)))(hl:ns.length<64)(k:∀ms:List Int,ms.Perm ns→ms.Pairwise (·≤·)→Φ (.lst (ms.map T.int)) O)(hg:Gl Z.X "sorted":=by rfl)
  (he:df [e] Z.X.env=(false,eval e Z.X.env)::df [] Z.X.env:=by rfl):WE Z ρ O (.Call (.Name "sorted" p) [e] [] pos) Φ:=
 GU Iu m Im (AQ h AB he _ (fun H vs Q ok r q=>by
  obtain⟨v,rfl,r1⟩:=r.one_inv
  obtain⟨a,xs,rfl,h1,r1⟩:=r1.tup_inv
  cases r1.ints
  exact⟨a,ns,rfl,.inl (.inl h1),hl,fun p ms hp pm pw=>q _ _ _ O (k ms pm pw) (.new ok hp) (.lst AX (ok.none_of hp) (DW ms))⟩)) hg (by decide) (by decide) he
end
section
variable{Z:Zx}{ρ:List (Option T)}{O:AH}{e:Expr}{es:List Expr}{t:T}{ts us:List T}{Φ:BQ}{Ψ:Es}{pos p2 p3 p4:Pos}{x:Str}
end
section
variable{Z:Zx}{ρ:List (Option T)}{O:AH}{es:List Expr}{ts:List T}{Ψ:Es}{pos p:Pos}{tg iter:Expr}{body:List Stmt}
structure HWE(Z:Zx)(ρ:List (Option T))(O:AH)(e:Expr)(Φ:BQ):Prop where
 out:WE Z ρ O e Φ
theorem Td(hp:kg (model Z.X.prog Z.X.w) Z.X.A Z.X.env Z.X.xe)(hc:Z.X.calm=true)(h:HWE Z ρ O iter fun t O'=>∃ts,t=.lst ts∧∃I:Nat→Ln,I 0 ρ O'∧
  (∀i t ρ' O',ts[i]?=some t→I i ρ' O'→∃ρ2,WG Z Z.X.N.length ρ' O' tg t ρ2∧HS Z ρ2 O' body {nx:=I (i+1),rt:=Ψ.rt,bk:=Ψ.nx,ct:=I (i+1)})∧∀ρ' O',I ts.length ρ' O'→Ψ.nx ρ' O')
  (hs:∀x,fw iter Z.X.env x=pure x):WS Z ρ O (.For tg iter body [] pos) Ψ:=
 Bc hp hc (NI (DS h.out (by
  rintro t O' ⟨ts,e,I,i0,st,fin⟩
  refine⟨ts,e,I,i0,fun i t ρ' O' e x=>?_,fin⟩
  obtain⟨ρ2,a,b⟩:=st i t ρ' O' e x
  exact⟨ρ2,a,b.out⟩))) hs
theorem ZL{P:Program}{w:World}{K:b5}{mg:Str→Option Value}{base:Heap}{x qual:Str}{st:Stmt}{f:Addr}{fd:dD}{N ps:List Str}{k:Nat}{sp:Sp}(F:Fun K x qual st f fd)(S:FnScope N ps (AA st))(len:∀vs H Q E,sp vs H Q E→vs.length=ps.length)
  (h:∀(cdv:Value) (A:dH) (outer:List Env) (s:b6) (H:Hp) (vs:List V) (Q:VK) (E:XK),Room k (A.deeper (je qual (AA st) s.heap.objs.size f cdv))→sp vs H Q E→
   ∃ts O Φ Ξ,Reps K O H vs ts∧OwnOk K O H∧(XFly (zB P w K mg base N qual (AA st) f cdv A outer s H E O Ξ).X (zB P w K mg base N qual (AA st) f cdv A outer s H E O Ξ).W→HS (zB P w K mg base N qual (AA st) f cdv A outer s H E O Ξ) (Do N ts) O (BA st) {nx:=fun _ O'=>Φ .non O',rt:=Φ})∧Acc K O H Φ Q∧∀cls O' H',Ξ cls O'→Frm K O H O' H'→E cls none H'):FnOk P w K mg base (CXe P w) (k+1) f fd ps sp:=by
 refine F.okX S len (fun cdv A outer s H vs Q E hr h1=>?_)
 obtain⟨ts,O,Φ,Ξ,r,ok,q,acc,ex⟩:=h cdv A outer s H vs Q E hr h1
 refine⟨_,(q (XFly.mono Aq.f ?_)).out,⟨Gc r,.refl ok⟩,?_⟩
 ·rintro σ cls H' ⟨_,O',x,f⟩
  exact ex cls O' H' x f
 ·exact⟨fun ρ' O' σ' H' p a _=>acc _ _ _ O' p a.fr .non,fun v H' t O' p f r=>acc v H' t O' p f r,fun _ _ _ _ z=>z.elim,fun _ _ _ _ z=>z.elim⟩
end
def VL:AH:=fun _=>none
theorem Qb{K:b5}{H:Hp}:OwnOk K VL H:=fun a ts e=>by cases e
theorem VM{K:b5}{H H':Hp}{O':AH}{a:Addr}{xs:List V}(k:Kp VL H O' H')(h:Cr K H a xs):Cr K H' a xs:=by
 rcases h with h|h
 ·refine .inl ?_
  rcases h with h| ⟨o,h⟩
  ·exact .inl (k a _ h rfl).1
  ·exact .inr ⟨o,(k a _ h rfl).1⟩
 ·exact .inr h
section
variable{Z:Zx}{ρ:List (Option T)}{O:AH}{e lo hi:Expr}{p p2 pos:Pos}{Φ:BQ}
theorem XG{a:Addr}{ns:List Int}{i j:Int}(ho:Z.Oe=VL)(hS:Cr Z.K Z.He a (ns.map V.int))(h:ET Z ρ O e (.raw (.ref a)))(h1:ET Z ρ O lo (.int i))(h2:ET Z ρ O hi (.int j))
  (k:∀ms:List Int,ms.length≤ns.length→Φ (.lst (ms.map T.int)) O):WE Z ρ O (.Subscript e (.Slice (some lo) (some hi) none p2) pos) Φ:=by
 refine PE.weak (Fy Mu (BR (ρ:=ρ)) (FX (BR (ρ:=ρ))) (FX (BR (ρ:=ρ)))) fun σ H0 Q q=>?_
 refine⟨O,_,h (fun t O'=>t=.raw (.ref a)∧O'=O) ⟨rfl,rfl⟩,q.1,?_⟩
 rintro v H1 _ _ ⟨rfl,rfl⟩ f1 r1
 refine⟨_,_,h1 (fun t O'=>t=.int i∧O'=_) ⟨rfl,rfl⟩,q.1.step f1,?_⟩
 rintro v2 H2 _ _ ⟨rfl,rfl⟩ f2 r2
 refine⟨i,r2.int_inv,_,_,h2 (fun t O'=>t=.int j∧O'=_) ⟨rfl,rfl⟩,q.1.step (f1.trans f2),?_⟩
 rintro v3 H3 _ _ ⟨rfl,rfl⟩ f3 r3
 refine⟨j,r3.int_inv,a,ns.map V.int,r1.raw_inv,VM (ho▸(q.1.step (f1.trans (f2.trans f3))).fr.kp) hS,fun l hl=>?_⟩
 have ff:=f1.trans (f2.trans f3)
 have e:Eh (ns.map V.int) (some i) (some j)=((ns.drop (HT.BG (ns.map V.int).length 0 (some i))).take (HT.BG (ns.map V.int).length (ns.map V.int).length (some j)-HT.BG (ns.map V.int).length 0 (some i))).map V.int:=by
  unfold Eh
  rw[←List.map_drop,←me]
 rw[e]
 refine q.2 _ _ _ _ (k _ ?_) (ff.trans (.new ff.ok hl)) (.lst AX (ff.ok.none_of hl) ((DW _).kp (BZ ff.ok hl) ff.ok))
 rw[eH,ie]
 omega
theorem ZM{K:b5}{g:Bool→Bool}{ns ms:List Int}:RP K (cE K g) (.lst (ns.map T.int)) (.lst (ms.map T.int)) O (.bl (g (decide (ns=ms)))):=fun Φ p H v w Q ok r1 r2 q=>by
 obtain⟨a,xs,rfl,h1,_,r1⟩:=r1.lst_inv
 obtain⟨b,ys,rfl,h2,_,r2⟩:=r2.lst_inv
 cases r1.ints
 cases r2.ints
 exact⟨a,b,ns,ms,rfl,rfl,.inl (.inl h1),.inl (.inl h2),q _ H _ O p (.refl ok) (.bl _)⟩
end
mutual
def Cd:T→Bool
 | .non=>true
 | .bl _=>true
 | .int _=>true
 | .str x=>fP.strOk x
 | .tup ts=>rdBs ts
 | .lst ts=>rdBs ts
 | .frz _=>false
 | .dct=>false
 | .raw _=>false
def rdBs:List T→Bool
 | []=>true
 |t::ts=>Cd t&&rdBs ts
end
mutual
theorem Dp:∀(t:T),Cd t=true→(dT t).canLay0=true
 | .non,_=>rfl
 | .bl _,_=>rfl
 | .int _,_=>rfl
 | .str x,h=>by unfold Cd at h;exact h
 | .tup ts,h=>rds_lay ts (by unfold Cd at h;exact h)
 | .lst ts,h=>rds_lay ts (by unfold Cd at h;exact h)
 | .frz _,h=>by unfold Cd at h;cases h
 | .dct,h=>by unfold Cd at h;cases h
 | .raw _,h=>by unfold Cd at h;cases h
theorem rds_lay:∀(ts:List T),rdBs ts=true→fP.canLayAll0 (dTs ts)=true
 | [],_=>rfl
 |t::ts,h=>by
  unfold rdBs at h
  rw[gO] at h
  show(fP.canLay0 (dT t)&&fP.canLayAll0 (dTs ts))=true
  rw[Dp t h.1,rds_lay ts h.2];rfl
end
section
variable{K:b5}{O:AH}{H:Hp}{P:Program}{w:World}{h:Heap}
mutual
theorem Rep.rd (hok:HOk P w H h):∀{v:V} {t:T} {u:Value},Rep K O H v t→Cd t=true→RelV v u→∃as,Reads h u (dT t) as
 |_,_,_,.non,_,r=>by cases r;exact⟨_,.none⟩
 |_,_,_,.bl b,_,r=>by cases r;exact⟨_,.bool b⟩
 |_,_,_,.int i,_,r=>by obtain⟨t,rfl⟩:=r;exact⟨_,.int i t⟩
 |_,_,_,.str x,_,r=>by obtain⟨t,rfl⟩:=r;exact⟨_,.str x t⟩
 |_,_,_,.tup (ts:=ts) e q,g,r=>by
  cases r
  obtain⟨_,its,rv,⟨o,e1,e2,n,e3⟩⟩:=(show ObjOk P w H h _ (.tup _) from hok _ _ e)
  obtain⟨as,ra⟩:=Reps.rd hok q (by unfold Cd at g;exact g) rv
  exact⟨_,.tuple (vs:=its.toArray) e1 e2 e3 (by simpa using ra)⟩
 |_,_,_,.lst (ts:=ts) e _ q,g,r=>by
  cases r
  obtain⟨_,its,n,rv,e1⟩:=(show ObjOk P w H h _ (.lst _) from hok _ _ e)
  obtain⟨as,ra⟩:=Reps.rd hok q (by unfold Cd at g;exact g) rv
  exact⟨_,.list (vs:=its.toArray) e1 rfl rfl (by simpa using ra)⟩
 |_,_,_,.frz _ _,g,_=>by unfold Cd at g;cases g
 |_,_,_,.dct _,g,_=>by unfold Cd at g;cases g
 |_,_,_,.raw v,g,_=>by unfold Cd at g;cases g
theorem Reps.rd (hok:HOk P w H h):∀{vs:List V} {ts:List T} {us:List Value},Reps K O H vs ts→rdBs ts=true→Vals vs us→∃as,ReadsAll h us (dTs ts) as
 |_,_,_,.nil,_,r=>by cases r;exact⟨_,.nil⟩
 |_,_,_,.cons a b,g,.cons r1 r2=>by
  unfold rdBs at g
  rw[gO] at g
  obtain⟨as,x⟩:=Rep.rd hok a g.1 r1
  obtain⟨bs,y⟩:=Reps.rd hok b g.2 r2
  exact⟨_,.cons x y⟩
end
end
section
variable{X:Cx}
def rD(K:b5)(g:fP→fP→Bool):R2:=fun x y H Q=>∃O t u,Rep K O H x t∧Rep K O H y u∧Cd t=true∧Cd u=true∧(dT t).depth≤100∧Q (.bl (g (dT t) (dT u))) H
theorem Lv(hu:X.A.units+101<cLine):Cs X (fE .Eq) (rD X.K fun a b=>gX a b):=by
 intro pins s σ H x y v u Q I rx ry h
 obtain⟨O,t,t',r1,r2,g1,g2,hd,q⟩:=h
 obtain⟨as,ra⟩:=Rep.rd I.hok r1 g1 rx
 obtain⟨bs,rb⟩:=Rep.rd I.hok r2 g2 ry
 exact SeqAt.compareEq_reads ra rb (Dp t g1) (Dp t' g2) (by omega) ⟨.bl _,H,I,rfl,q⟩
theorem Iv(hu:X.A.units+101<cLine):Cs X (fE .NotEq) (rD X.K fun a b=>!gX a b):=by
 intro pins s σ H x y v u Q I rx ry h
 obtain⟨O,t,t',r1,r2,g1,g2,hd,q⟩:=h
 obtain⟨as,ra⟩:=Rep.rd I.hok r1 g1 rx
 obtain⟨bs,rb⟩:=Rep.rd I.hok r2 g2 ry
 exact SeqAt.compareNe_reads ra rb (Dp t g1) (Dp t' g2) (by omega) ⟨.bl _,H,I,rfl,q⟩
def cF(K:b5)(g:Bool→Bool):R2:=fun x y H Q=>∃O t us,Rep K O H x t∧(Rep K O H y (.tup us)∨Rep K O H y (.lst us))∧Cd t=true∧rdBs us=true∧(dT t).depth≤100∧Q (.bl (g ((dTs us).any fun y=>gX y (dT t)))) H
theorem VN(hu:X.A.units+102<cLine):Cs X (fE .In) (cF X.K id):=by
 intro pins s σ H x y v u Q I rx ry h
 obtain⟨O,t,us,r1,r2,g1,g2,hd,q⟩:=h
 obtain⟨as,ra⟩:=Rep.rd I.hok r1 g1 rx
 rcases r2 with r2|r2
 ·obtain⟨bs,rb⟩:=Rep.rd I.hok r2 (by unfold Cd;exact g2) ry
  exact SeqAt.in_tuple_reads rb ra (rds_lay us g2) (Dp t g1) (by omega) ⟨.bl _,H,I,rfl,q⟩
 ·obtain⟨bs,rb⟩:=Rep.rd I.hok r2 (by unfold Cd;exact g2) ry
  exact SeqAt.in_list_reads rb ra (rds_lay us g2) (Dp t g1) (by omega) ⟨.bl _,H,I,rfl,q⟩
end
section
variable{K:b5}{O:AH}{t u:T}{us:List T}
theorem Lw{g:fP→fP→Bool}(h1:Cd t=true)(h2:Cd u=true)(hd:(dT t).depth≤100):RP K (rD K g) t u O (.bl (g (dT t) (dT u))):=fun Φ p H v w Q ok r1 r2 q=>
 ⟨O,t,u,r1,r2,h1,h2,hd,q _ H _ O p (.refl ok) (.bl _)⟩
theorem Qc{g:Bool→Bool}(h1:Cd t=true)(h2:rdBs us=true)(hd:(dT t).depth≤100):RP K (cF K g) t (.tup us) O (.bl (g ((dTs us).any fun y=>gX y (dT t)))):=fun Φ p H v w Q ok r1 r2 q=>
 ⟨O,t,us,r1,.inl r2,h1,h2,hd,q _ H _ O p (.refl ok) (.bl _)⟩
end
theorem NN(p:Int×Int):Cd (AL p)=true:=by simp[AL,Cd,rdBs]
theorem KM:∀{ps:List (Int×Int)},rdBs (ps.map AL)=true
 | []=>rfl
 |p::ps=>by
  show(Cd (AL p)&&rdBs (ps.map AL))=true
  rw[NN,KM];rfl
theorem Lx(p:Int×Int):(dT (AL p)).depth≤100:=by simp[AL,dT,dTs,fP.depth,i7]
theorem Qd(p q:Int×Int):gX (dT (AL p)) (dT (AL q))=decide (p=q):=by
 show((p.1==q.1)&&((p.2==q.2)&&true))=decide (p=q)
 rw[gG]
 simp only[Bool.and_true,gO,beq_iff_eq,decide_eq_true_eq]
 exact⟨fun h=>fK h.1 h.2,fun h=>by rw[h];exact⟨rfl,rfl⟩⟩
theorem Hr{q:Int×Int}:∀{ps:List (Int×Int)},((dTs (ps.map AL)).any fun y=>gX y (dT (AL q)))=decide (q∈ps)
 | []=>by simp[dTs]
 |p::ps=>by
  show(gX (dT (AL p)) (dT (AL q))|| (dTs (ps.map AL)).any fun y=>gX y (dT (AL q)))=_
  rw[Qd,Hr,gG,Bool.or_eq_true,decide_eq_true_eq,decide_eq_true_eq,decide_eq_true_eq,dh]
  exact⟨fun h=>h.elim (fun e=> .inl e.symm) .inr,fun h=>h.elim (fun e=> .inl e.symm) .inr⟩
abbrev Au(n:Int)(ps:List (Int×Int)):T:=.tup [.int n,.tup (ps.map AL)]
end L2.TL
namespace L2
open PySem PySem.Spec PySem.Calls PyProof.Rows
section
variable{X:Cx}
def VO(K:b5):R2:=fun x y H Q=>∃(a:Addr) (i:Int) (v:V),x=.ref a∧y=.int i∧Cr K H a [v]∧(i=0∨i=1)∧∀p,H p=none→Q (.ref p) (upd H p (.lst (e9 i.toNat v)))
theorem Te:Cs X (jl .Mult) (VO X.K):=by
 intro pins s σ H x y v u Q I rx ry h
 obtain⟨a,i,e,rfl,rfl,ha,hi,q⟩:=h
 cases rx
 obtain⟨tk,rfl⟩:=ry
 obtain⟨its,rv,p,_⟩:=I.list ha
 obtain⟨⟨cls,d,data,sl⟩,k,ho,hc,hdd,hd⟩:=id p
 simp only at hc hd
 subst hc hd
 obtain⟨u1,rfl,ru⟩:=Vals.one rv
 have hf:=I.hok.fresh (dm s.heap.objs.size)
 refine wpAny_binaryOp_repeat_ref (T:="list") (U:="int") (by decide) ⟨_,ho,rfl⟩ (fun s'=>typeIs_int s' i tk) noFill_list_mul F.fills_int_mul F.slot_int_rmul repeat_list F.slot_int_index.lookup
  (mj F.slot_int_rmul (typeIs_int s i tk) F.entry_int_rmul (F.args_int_rmul_2 _ _) (lm_int_rmul_list_any i tk a [u1].toArray k d sl)
   ⟨ho,rfl,⟨_,ho,rfl⟩,mj F.slot_list_mul ⟨_,ho,rfl⟩ F.entry_list_mul (F.args_list_mul_2 _ _)
    (lm_list_mul_any a [u1].toArray k d sl i tk (by simp[Builtin.List.listFitsIndex];omega) (by simp;omega) (by simp[iO,sizeLine];omega)) ⟨ho,?_⟩⟩)
 rcases hi with rfl|rfl
 ·exact⟨.ref _,_,I.laid (t':=s.toks) (o:=.lst []) (fun b ob q=>da _ q) (dm _) ⟨fb _,[],0,.nil,dF _ rfl⟩,rfl,q _ hf⟩
 ·exact⟨.ref _,_,I.laid (t':=s.toks) (o:=.lst [e]) (fun b ob q=>da _ q) (dm _) ⟨by show 1≤sizeLine;rw[fh];decide,[u1],0,.cons ru .nil,dF _ rfl⟩,rfl,q _ hf⟩
variable{e:Expr}{te:TE}{p2 p3 p4 pos:Pos}
end
end L2
namespace L2.TL
open PySem PySem.Spec PySem.Calls PyProof.Rows
section
variable{Z:Zx}{ρ:List (Option T)}{O:AH}{e a b:Expr}{es:List Expr}{Ψ:Es}{Φ:BQ}{pos p p1 pos1 p2 p3 p4:Pos}{t ta tb:T}{ts us:List T}{x:Str}
theorem WW.wt{Φ:Jb}(h:WW Z ρ O e Φ):WT Z ρ O e Φ:=h.pt
theorem Tf{K:b5}{i:Int}(hi:i=0∨i=1):RP K (VO K) (.lst [t]) (.int i) O (.lst (e9 i.toNat t)):=fun Φ p H v w Q ok r1 r2 q=>by
 obtain⟨a,xs,rfl,h1,_,r1⟩:=r1.lst_inv
 obtain⟨v,rfl,g⟩:=r1.one_inv
 refine⟨a,i,v,rfl,r2.int_inv,.inl (.inl h1),hi,fun l hl=>q _ _ _ O p (.new ok hl) (.lst AX (ok.none_of hl) ?_)⟩
 rcases hi with rfl|rfl
 ·exact .nil
 ·exact .one (g.kp (BZ ok hl) ok)
theorem OX{o:Expr}{apos cpos:Pos}(h:WE Z ρ O o fun t O1=>∃a,t=.raw (.ref a)∧(∃ts,O1 a=some ts)∧WE Z ρ O1 e fun u O2=>∃ts us,u=.lst us∧O2 a=some ts∧ts.length+us.length≤sizeLine∧Φ .non (Aj O2 a (ts++us)))
  (hbase:kO o "extend" Z.X.env (eval o Z.X.env)=eval o Z.X.env:=by rfl)
  (hfew:((gU cpos (df [e] Z.X.env)).all (fun x=>!x.1)&&(nj cpos (lL [] Z.X.env)).all (fun x=>x.1.isSome)
   &&decide ([e].length+([]:List kM).length+(if([]:List kM).isEmpty then 0 else 1)<30))=true:=by rfl)
  (hline:(apos.endLine==cpos.line)=true:=by rfl) (hs:df [e] Z.X.env=(false,eval e Z.X.env)::df [] Z.X.env:=by rfl) (hplain:(gU cpos (df [] Z.X.env)).any (·.1)=false:=by rfl):WE Z ρ O (.Call (.Attribute o "extend" apos) [e] [] cpos) Φ:=by
 refine VF PySem.F.plainAttrs_list PySem.F.slot_list_extend PySem.F.type_list_extend OB (DS h ?_) hbase hfew hline hs hplain
 rintro t O1 ⟨a,rfl,⟨ts,hts⟩,w⟩
 refine⟨NH hts,DT (DS w ?_) hs⟩
 rintro u O2 ⟨us,vs,rfl,h1,h2,p⟩
 refine Ba fun H v ws Q ok r1 r2 q=>?_
 cases r1.raw_inv
 obtain⟨w,rfl,r3⟩:=r2.one_inv
 obtain⟨c,ys,rfl,hc,_,r3⟩:=r3.lst_inv
 obtain⟨xs,hx,r⟩:=ok a us h1
 exact⟨a,c,xs,ys,rfl,rfl,hx,hc,by rw[r.length,r3.length];exact h2,q _ _ _ _ p (.put ok h1 (r.append r3)) .non⟩
def FM:T→Bool
 | .non=>true
 |_=>false
theorem Ey{j:Nat}(hr:Ae t=false)(ha:ET Z ρ O a t):EB Z ρ O (.Compare a [.Is] [.Constant .none j p1] pos) (FM t):=BH WB (Ah _) (fun Φ p H v w Q ok r1 r2 q=>by
 refine⟨r2.non_inv,?_⟩
 have e:decide (v=V.non)=FM t:=by
  cases r1<;>first|rfl|cases hr
 rw[e]
 exact q _ H _ O p (.refl ok) (.bl _)) ha Dl
end
section
variable{Z:Zx}{ρ:List (Option T)}{O O1 O2:AH}{c:Expr}{body ss:List Stmt}{Ψ:Es}{pos:Pos}
def bU(Z:Zx)(e:Expr):TT:=fun σ H Q=>∃ρ O Φ,WT Z ρ O e Φ∧YF Z ρ O Φ σ H Q
theorem ZN{e:Expr}:PT Z.X e (bU Z e):=fun pins s σ H Q I ⟨_,_,_,w,q⟩=>w pins s σ H Q I q
theorem Qe(hp:kg (model Z.X.prog Z.X.w) Z.X.A Z.X.env Z.X.xe)(I:Nat→Ln)(i0:∃m,I m ρ O)
  (step:∀m ρ' O',I m ρ' O'→WT Z ρ' O' c fun b O1=>if b=true then Ew Z ρ' O1 body {nx:=fun ρ2 O2=>∃m',m'<m∧I m' ρ2 O2,rt:=Ψ.rt,bk:=Ψ.nx,ct:=fun ρ2 O2=>∃m',m'<m∧I m' ρ2 O2} else Ψ.nx ρ' O1):WS Z ρ O (.While c body [] pos) Ψ:=by
 refine PS.weak (PJ hp ZN KI) fun D σ H q=>?_
 obtain⟨m0,i0⟩:=i0
 refine⟨fun m σ' H'=>∃ρ' O',I m ρ' O'∧Asr Z ρ' O' σ' H'∧Kp O H O' H',⟨m0,ρ,O,i0,q.1,.refl⟩,?_⟩
 rintro m σ1 H1 ⟨ρ1,O1,i1,a1,k1⟩
 refine⟨ρ1,O1,_,step m ρ1 O1 i1,a1,fun b H2 O2 p f=>?_⟩
 have kk:=k1.trans f.kp
 cases b with
 |true=>
  rw[if_pos rfl] at p
  show if true=true then _ else _
  rw[if_pos rfl]
  refine⟨fun σ2 H3=>∃ρ2 O3,(∃m',m'<m∧I m' ρ2 O3)∧Asr Z ρ2 O3 σ2 H3∧Kp O H O3 H3,?_,ρ1,O2,_,p,a1.step f,?_⟩
  ·rintro σ2 H3 ⟨ρ2,O3,⟨m',hm,i2⟩,a2,k2⟩
   exact⟨m',hm,ρ2,O3,i2,a2,k2⟩
  ·exact⟨fun ρ' O' σ' H' w a k=> ⟨ρ',O',w,a,kk.trans k⟩,q.2.rt,fun ρ' O' σ' H' w a k=>q.2.nx ρ' O' σ' H' w a (kk.trans k),fun ρ' O' σ' H' w a k=> ⟨ρ',O',w,a,kk.trans k⟩⟩
 |false=>
  rw[if_neg dc] at p
  show if false=true then _ else _
  rw[if_neg dc]
  exact q.2.nx ρ1 O2 σ1 H2 p (a1.step f) kk
theorem Tg(hk:∀H,OwnOk Z.K O1 H→Kp O1 H O2 H∧OwnOk Z.K O2 H)(hf:∀b us vs,Z.Oe b=some us→O1 b=some vs→∃us',O2 b=some us')(h:Ew Z ρ O2 ss Ψ):Ew Z ρ O1 ss Ψ:=PSs.weak h fun D σ H q=>by
 obtain⟨k,ok⟩:=hk H q.1.ok
 exact⟨⟨q.1.rl.kp k q.1.ok,⟨q.1.fr.kp.trans k,fun b us e=>by
  obtain⟨vs,e'⟩:=q.1.fr.own b us e
  exact hf b us vs e e',ok⟩⟩,q.2.step k⟩
end
section
variable{O:AH}{rs:List (Addr×List T)}{r:Addr×List T}{p q l:Addr}{us vs:List T}
def Jc(O:AH)(rs:List (Addr×List T)):AH:=rs.foldl (fun O r=>Aj O r.1 r.2) O
theorem BY:Jc O (r::rs)=Jc (Aj O r.1 r.2) rs:=rfl
theorem Qf:Jc O (rs++[r])=Aj (Jc O rs) r.1 r.2:=by unfold Jc;rw[List.foldl_append];rfl
theorem DY(h:∀r∈rs,r.1≠p):Jc O rs p=O p:=by
 induction rs generalizing O with
 |nil=>rfl
 |cons r rs ih=>
  rw[BY,ih fun s hs=>h s (dw _ hs),AZ (fun z=>h r (dP ..) z.symm)]
theorem Qg(h:∀r∈rs,r.1≠p):Aj (Jc O rs) p vs=Jc (Aj O p vs) rs:=by
 induction rs generalizing O with
 |nil=>rfl
 |cons r rs ih=>
  rw[BY,ih fun s hs=>h s (dw _ hs),BY,DG (h r (dP ..))]
theorem Dq(hn:(rs.map gB).Nodup)(h:r∈rs):Jc O rs r.1=some r.2:=by
 induction rs generalizing O with
 |nil=>cases h
 |cons s rs ih=>
  rw[dM,dO] at hn
  rw[BY]
  rcases dh.mp h with rfl|h
  ·rw[DY fun s hs z=>hn.1 (dy.mpr ⟨s,hs,z⟩),AG]
  ·exact ih hn.2 h
theorem Th{i:Nat}(hn:(rs.map gB).Nodup)(h:rs[i]?=some (p,us)):Aj (Jc O rs) p vs=Jc O (rs.set i (p,vs)):=by
 induction rs generalizing O i with
 |nil=>simp at h
 |cons s rs ih=>
  rw[dM,dO] at hn
  cases i with
  |zero=>
   simp at h
   subst h
   rw[List.set_cons_zero,BY,BY,Qg fun s hs z=>hn.1 (dy.mpr ⟨s,hs,z⟩),Bt]
  |succ i=>
   rw[List.set_cons_succ,BY,BY]
   exact ih hn.2 (by simpa using h)
theorem Ti{i:Nat}(h:rs[i]?=some (p,us)):(rs.set i (p,vs)).map gB=rs.map gB:=by
 rw[lj]
 apply fo
 intro m
 by_cases hm:i=m
 ·subst hm
  have hl:=(dt.mp h).1
  rw[eD (by simpa using hl),b9,h];rfl
 ·rw[dX hm]
def HK(r:Addr×List T):T:=.raw (.ref r.1)
theorem KN{K:b5}{H:Hp}{O:AH}:∀{rs:List (Addr×List T)} {xs:List V},Reps K O H xs (rs.map HK)→xs=rs.map fun r=>V.ref r.1
 | [],_,h=>h.nil_inv
 |r::rs,_,h=>by
  obtain⟨v,vs',rfl,h1,h2⟩:=h.cons_inv
  cases h1.raw_inv
  rw[KN h2];rfl
theorem KO{K:b5}{H:Hp}{O:AH}:∀{rs:List (Addr×List T)},(∀r∈rs,Rep K O H (.ref r.1) (.lst r.2))→Reps K O H (rs.map fun r=>V.ref r.1) (rs.map fun r=>T.lst r.2)
 | [],_=> .nil
 |r::rs,h=> .cons (h r (dP ..)) (KO fun s hs=>h s (dw _ hs))
theorem Qh{Z:Zx}{ρ:List (Option T)}{ss:List Stmt}{Ψ:Es}(hn:(rs.map gB).Nodup)(hl:∀r∈rs,r.1≠l)(ho:∀r∈rs,O r.1=none)(he:∀r∈rs,Z.Oe r.1=none)
  (h:Ew Z ρ (Aj O l (rs.map fun r=>T.lst r.2)) ss Ψ):Ew Z ρ (Aj (Jc O rs) l (rs.map HK)) ss Ψ:=by
 refine Tg (fun H ok=>?_) (fun b us vs e1 e2=>?_) h
 ·have k:Kp (Aj (Jc O rs) l (rs.map HK)) H (Aj O l (rs.map fun r=>T.lst r.2)) H:=fun b o hb n=> ⟨hb,by
   by_cases h1:b=l
   ·rw[h1,AG] at n;cases n
   ·rw[AZ h1] at n ⊢
    by_cases h2:∃r∈rs,r.1=b
    ·obtain⟨r,hr,rfl⟩:=h2
     exact ho r hr
    ·rw[DY fun r hr z=>h2 ⟨r,hr,z⟩] at n
     exact n⟩
  refine⟨k,fun a ts e=>?_⟩
  by_cases h1:a=l
  ·subst h1
   rw[AG] at e
   cases e
   obtain⟨xs,hx,rx⟩:=ok a _ AG
   have:=KN rx
   subst this
   refine⟨_,hx,KO fun r hr=>?_⟩
   obtain⟨ys,hy,ry⟩:=ok r.1 r.2 (by rw[AZ (hl r hr)];exact Dq hn hr)
   exact .lst hy (by rw[AZ (hl r hr)];exact ho r hr) (ry.kp k ok)
  ·rw[AZ h1] at e
   have hz:∀r∈rs,r.1≠a:=fun r hr z=>by rw[←z,ho r hr] at e;cases e
   obtain⟨xs,hx,rx⟩:=ok a ts (by rw[AZ h1,DY hz];exact e)
   exact⟨xs,hx,rx.kp k ok⟩
 ·by_cases h1:b=l
  ·rw[h1];exact⟨_,AG⟩
  ·rw[AZ h1] at e2 ⊢
   by_cases h2:∃r∈rs,r.1=b
   ·obtain⟨r,hr,rfl⟩:=h2
    rw[he r hr] at e1;cases e1
   ·rw[DY fun r hr z=>h2 ⟨r,hr,z⟩] at e2
    exact⟨_,e2⟩
end
theorem Hs{Z:Zx}{ρ:List (Option T)}{O:AH}{elt tg iter:Expr}{ifs:List Expr}{csc:Scope}{nc:List Str}{cap:List (Str×Nat)}{pos:Pos}{i:Nat}{x:Str}{px spos:Pos}{Ψ:Es}(hsw:kc (.ListComp elt [⟨tg,iter,ifs,0⟩] csc pos) (some (.Name x px)) spos.line Z.X.env=pure true)(hN:Z.X.N.Nodup)(hc:Z.X.calm=true)(ok:LcOk Z.X csc nc cap)
  (h:WI Z ρ O tg iter (SU Z ρ elt tg ifs csc nc cap fun acc O'=>∀a,O' a=none→Ψ.nx (ρ.set i (some (.raw (.ref a)))) (Aj O' a acc))) (hx:Z.X.N[i]?=some x:=by rfl) (hk:Z.X.env.scope.names.lookup x=some .local:=by rfl)
  (hs:∀x,fw iter Z.X.env x=pure x:=by intro _;rfl):WS Z ρ O (.Assign [.Name x px] (.ListComp elt [⟨tg,iter,ifs,0⟩] csc pos) spos) Ψ:=
 PS.weak (Jn hN hx hk hsw hc ok h TV NK TX hs) fun D σ H q=>Lp q.1 h fun acc O' p H' p1 n f nb=>q.2.nx _ _ _ H' (p1 p n) ⟨(q.1.step f).rl.set (.raw _),(q.1.step f).fr⟩ f.kp
end L2.TL
namespace Gr
open L2.TL
variable{ps:List (Int×Int)}{n:Int}{S:List Int}{v u:Int}{d e s k:Nat}{fs gs:List (Option Nat)}{BC ds:List Int}
def Adj(ps:List (Int×Int))(u v:Int):Prop:=(u,v)∈ps∨(v,u)∈ps
theorem Adj.symm(h:Adj ps u v):Adj ps v u:=Or.symm h
inductive W(ps:List (Int×Int))(S:List Int):Nat→Int→Prop
 |at{v:Int}:v∈S→W ps S 0 v
 |go {k:Nat} {u v:Int}:W ps S k u→Adj ps u v→W ps S (k+1) v
def IsD(ps:List (Int×Int))(S:List Int)(v:Int)(d:Nat):Prop:=W ps S d v∧∀j,j<d→¬W ps S j v
theorem IsD.uniq(a:IsD ps S v d)(b:IsD ps S v e):d=e:=by
 rcases gT d e with h|h|h
 ·exact absurd a.1 (b.2 d h)
 ·exact h
 ·exact absurd b.1 (a.2 e h)
theorem W.least(h:W ps S k v):∃d,d≤k∧IsD ps S v d:=by
 induction k using lC with
 |_ k ih=>
  by_cases hx:∃j,j<k∧W ps S j v
  ·obtain⟨j,hj,w⟩:=hx
   obtain⟨d,hd,i⟩:=ih j hj w
   exact⟨d,by omega,i⟩
  ·exact⟨k,dm _,h,fun j hj w=>hx ⟨j,hj,w⟩⟩
theorem IsD.prev(h:IsD ps S v (s+1)):∃u,IsD ps S u s∧Adj ps u v:=by
 obtain⟨w,m⟩:=h
 cases w with
 |go w a=>exact⟨_,⟨w,fun j hj w'=>m (j+1) (by omega) (.go w' a)⟩,a⟩
def HD(n:Int)(ps:List (Int×Int)):Prop:=∀p∈ps,0≤p.1∧p.1<p.2∧p.2<n
theorem Adj.inb(hw:HD n ps)(h:Adj ps u v):0≤v∧v<n∧u≠v:=by
 rcases h with h|h
 ·have:=hw _ h
  simp only at this
  omega
 ·have:=hw _ h
  simp only at this
  omega
theorem W.inb(hw:HD n ps)(hS:∀z∈S,0≤z∧z<n)(h:W ps S k v):0≤v∧v<n:=by
 cases h with
 |«at» h=>exact hS _ h
 |go _ a=>exact⟨(a.inb hw).1,(a.inb hw).2.1⟩
theorem IsD.lt(hw:HD n ps)(hS:∀z∈S,0≤z∧z<n)(h:IsD ps S v s):(s:Int)<n:=by
 have key:∃L:List Nat,L.length=s+1∧L.Nodup∧∀u∈L,∃i,i≤s∧IsD ps S (u:Int) i:=by
  induction s generalizing v with
  |zero=>
   have:=h.1.inb hw hS
   refine⟨[v.toNat],rfl,by simp,fun u hu=> ⟨0,dm _,?_⟩⟩
   rw[b8.mp hu,gD this.1]
   exact h
  |succ s ih=>
   obtain⟨u,hu,_⟩:=h.prev
   obtain⟨L,l1,l2,l3⟩:=ih hu
   have hb:=h.1.inb hw hS
   refine⟨v.toNat::L,by simp[l1],dO.mpr ⟨fun hm=>?_,l2⟩,fun z hz=>?_⟩
   ·obtain⟨i,hi,q⟩:=l3 _ hm
    rw[gD hb.1] at q
    have:=q.uniq h
    omega
   ·rcases dh.mp hz with rfl|hz
    ·exact⟨s+1,dm _,by rw[gD hb.1];exact h⟩
    ·obtain⟨i,hi,q⟩:=l3 z hz
     exact⟨i,by omega,q⟩
 obtain⟨L,l1,l2,l3⟩:=key
 have:=StT.Bj n.toNat L l2 (fun x hx=>by
  obtain⟨i,_,q⟩:=l3 x hx
  have:=q.1.inb hw hS
  omega)
 omega
structure All(n:Int)(ps:List (Int×Int))(S:List Int)(fs:List (Option Nat)):Prop where
 len:(fs.length:Int)=n
 eq:∀v:Int,0≤v→v<n→∀d,fs[v.toNat]?=some (some d)↔IsD ps S v d
theorem All.uniq(a:All n ps S fs)(b:All n ps S gs):fs=gs:=by
 have l1:=a.len
 have l2:=b.len
 apply fo
 intro i
 by_cases hi:i<fs.length
 ·have hg:i<gs.length:=by omega
  have e:=a.eq i (by omega) (by omega)
  have f:=b.eq i (by omega) (by omega)
  rw[eE,di hi] at e
  rw[eE,di hg] at f
  rw[di hi,di hg]
  cases x:fs[i] with
  |some d=>
   rw[x] at e
   exact((f d).mpr ((e d).mp rfl)).symm
  |none=>
   cases y:gs[i] with
   |none=>rfl
   |some d=>
    rw[y] at f
    rw[x] at e
    have:=(e d).mpr ((f d).mp rfl)
    cases this
 ·rw[e7 (by omega),e7 (by omega)]
theorem Iw{L:List Int}(h:L.Nodup)(hb:∀z∈L,0≤z∧z<n):L.length≤n.toNat:=by
 have key:∀L:List Int,L.Nodup→(∀z∈L,0≤z∧z<n)→(L.map nC).Nodup:=by
  intro L
  induction L with
  |nil=>intro _ _;simp
  |cons a L ih=>
   intro h hb
   rw[dO] at h
   rw[dM,dO]
   refine⟨fun hm=>?_,ih h.2 fun z hz=>hb z (dw _ hz)⟩
   obtain⟨z,hz,e⟩:=dy.mp hm
   have h1:=hb z (dw _ hz)
   have h2:=hb a (dP ..)
   have:z=a:=by omega
   subst this
   exact h.1 hz
 have:=StT.Bj n.toNat (L.map nC) (key L h hb) (fun x hx=>by
  obtain⟨z,hz,rfl⟩:=dy.mp hx
  have:=hb z hz
  omega)
 rw[c9] at this
 exact this
end Gr
namespace L2.TL
open PySem PySem.Spec PyProof.Rows
section
variable{X:Cx}
end
section
variable{Z:Zx}{ρ:List (Option T)}{O:AH}{a b:Expr}{t:T}{Φ:BQ}{pos:Pos}{i:Int}
end
section
variable{Z:Zx}{ρ:List (Option T)}{O:AH}{body:List Stmt}{Ψ:Es}{pos:Pos}
end
end L2.TL
namespace L2
open PySem PySem.Spec PyProof.Rows
def bV(K:b5)(a:Addr):It:=⟨fun i H=>∃xs x,Cr K H a xs∧xs[i]?=some x,
 fun i H v H'=>∃p x,H p=none∧v=.ref p∧H'=upd H p (.tup [.int i,x])∧∀xs,Cr K H a xs→xs[i]?=some x,fun i H=>∃xs,Cr K H a xs∧xs.length≤i⟩
section
variable{X:Cx}
theorem OY{P:Program}{w:World}{K:b5}{es:List Expr}{k:Nat}{pos:Pos}{e it a:Addr}(hne:e≠it):
  Turn P w K (.Tuple es k pos) (bV K a) [e,it] e (fun i h=> (∃old,IsEnum h e it (i:Int) old)∧h.IsListIter it a i) where
 mem:=by simp
 obj:=fun i h st b hb=>by
  obtain⟨⟨old,s1⟩,⟨o2,e2,c2,d2⟩⟩:=st
  simp only[dh,dI,or_false] at hb
  rcases hb with rfl|rfl
  ·exact⟨_,s1,fun v q=>by have q:Data.fields _=Data.cell v:=q;cases q⟩
  ·exact⟨o2,e2,fun v q=>by rw[d2] at q;cases q⟩
 keep:=fun i h h' st kk=>by
  obtain⟨⟨old,s1⟩,s2⟩:=st
  exact⟨⟨old,kk e (by simp) _ s1⟩,s2.at fun o q=>kk it (by simp) o q⟩
 item:=by
  intro X hP hw hK hc i pins s σ H E I hf st hg
  subst hP hw hK
  obtain⟨xs,x,hq,hx⟩:=hg
  obtain⟨its,rv,p,hz⟩:=I.list hq
  obtain⟨u,hu,ru⟩:=rv.get hx
  obtain⟨⟨old,s1⟩,s2⟩:=st
  refine wpAny_pyNext_enum_item s1 s2 p.isList (x:=u) (by simpa using hu) hne fun h1 z1 a1 n1 sz1 k1=>?_
  refine⟨_,rfl,wpAny_letOwnedTupleGo_enum (s:={s with heap:=h1,toks:=s.toks+1}) z1 fun h2 z2 sb2=>?_⟩
  have hlt:∀v o,s.heap.get? v=some o→v≠s.heap.objs.size:=fun v o q=>dN (du q)
  have zs:e≠s.heap.objs.size:=hlt e _ s1
  have up2:∀v o,v≠e→h1.get? v=some o→h2.get? v=some o:=fun v o hv q=> (sb2.2 v hv).trans q
  have hT:H s.heap.objs.size=none:=I.hok.fresh (dm _)
  have kk:∀v o,v∉[e,it]→s.heap.get? v=some o→h2.get? v=some o:=fun v o hv q=>by
   simp only[dh,dI,or_false,not_or] at hv
   exact up2 v o hv.1 (k1 v o hv.1 hv.2 q)
  have I1:Inv X pins σ (upd H s.heap.objs.size (.tup [.int i,x])) {s with heap:=h2,toks:=s.toks+1}:=by
   have ne:∀v o,s.heap.get? v=some o→upd H s.heap.objs.size (.tup [.int i,x]) v=H v:=fun v o q=>AR (hlt v o q)
   refine I.call' (s':={s with heap:=h2,toks:=s.toks+1}) (ch:=[e,it]) rfl ⟨fun v o q _ _ hv=>kk v o hv q,fun v o q _ _ hv=> ⟨o.slots,kk v o hv q⟩,fun v o q n _=>by rw[ne v o q];exact n,fun v o q hv=> ⟨o,kk v o hv q⟩,fun v xs q=>?_,fun v o xs q=>?_,fun v ps q=>?_⟩ ?_ I.bare fun v hv=>?_
   ·rw[AR (AN q hT)];exact q
   ·rw[AR (AN q hT)];exact q
   ·exact⟨#[],by rw[AR (AN q hT),q];simp⟩
   ·intro v o q
    by_cases hv:v=s.heap.objs.size
    ·subst hv
     rw[AX] at q;cases q
     exact⟨by show 2≤sizeLine;decide,[.int i s.toks,u],.cons ⟨_,rfl⟩ (.cons ru .nil),⟨_,up2 _ _ (Ne.symm zs) n1,rfl,_,rfl⟩⟩
    ·rw[AR hv] at q
     refine(I.hok v o q).stay (fun c w' hc' r=>kk c w' (fun hm=>?_) r) (fun c r=>by rw[AR (AN r hT)];exact r) fun c xs r=>by rw[AR (AN r hT)];exact r
     have hn:=(hf c hm).1
     rcases hc' with rfl|hc'
     ·rw[q] at hn;cases hn
     ·rw[hc'] at hn;cases hn
   ·obtain⟨_,q2,q3,q4,q5,q6⟩:=hf v hv
    exact⟨q4,q2,q5,q6⟩
  refine⟨.ref s.heap.objs.size,_,I1,rfl,⟨_,x,hT,rfl,rfl,fun xs' q=>by rw[I.list_inj q hq];exact hx⟩,⟨⟨_,z2⟩,a1.at fun o q=>up2 it o (Ne.symm hne) q⟩,fun v hv=>?_⟩
  have hvo:∃o,s.heap.get? v=some o:=by
   simp only[dh,dI,or_false] at hv
   rcases hv with rfl|rfl
   ·exact⟨_,s1⟩
   ·obtain⟨o,q,_⟩:=s2;exact⟨o,q⟩
  obtain⟨o,q⟩:=hvo
  rw[AR (hlt v o q)]
  exact(hf v hv).1
 done:=by
  intro X hP hw hK hc i pins s σ H E I hf st hg
  subst hP hw hK
  obtain⟨xs,hq,hl⟩:=hg
  obtain⟨its,rv,p,hz⟩:=I.list hq
  have l1:=rv.length
  obtain⟨⟨old,s1⟩,s2⟩:=st
  refine wpAny_pyNext_enum_end (I.ok.hd hc) s1 s2 p.isList (by simp;omega) fun h' k1=> ⟨rfl,I.turns (t':=s.toks) hf fun v o hv q=>?_⟩
  simp only[dh,dI,or_false,not_or] at hv
  exact k1 v o hv.2 q
 self:=fun _ _ _ _ _ st h=>by obtain⟨⟨old,s1⟩,_⟩:=st;exact wpAny_pyIter_enum s1 h
theorem OZ:eC "enumerate" =some (.type "enumerate"):=by decide+kernel
def ZO(K:b5)(ta:TA):TI:=fun σ H R=>ta σ H fun vs H1=>∃t,vs=[.ref t]∧(∃xs,Cr K H1 t xs)∧R (bV K t) H1
theorem Tj{a:Expr}{ta:TA}{p pos tpos:Pos}{es:List Expr}{k:Nat}(hg:Gl X "enumerate")(hm:X.mg "enumerate" =none)(ha:PA X [a] ta)(hs:df [a] X.env=[(false,eval a X.env)]:=by rfl):
  PI X (.Tuple es k tpos) (.Call (.Name "enumerate" p) [a] [] pos) (ZO X.K ta):=by
 intro pins s σ H R I h
 refine Call_ (Cw I hg hm OZ (g0 (Ay (ha pos pins s σ H _ I h) fun us s1 ⟨vs,H1,I1,r1,q1⟩=>?_) (by rw[hs];rfl) rfl))
 obtain⟨t,rfl,⟨xs,h1⟩,q⟩:=q1
 obtain⟨v1,rfl,e1⟩:=De r1
 cases e1
 obtain⟨its,rv,p1,_⟩:=I1.list h1
 refine call_enumerate_list p1.isList fun h' z1 z2 hsz kp=>?_
 refine wpAny_pyIter_enum z1 ?_
 refine⟨_,_,_,_,H1,rfl,I1.kept (t':=s1.toks) kp,OY (Nat.succ_ne_self _),⟨⟨_,z1⟩,z2⟩,fun b hb=>?_,q⟩
 have hge:s1.heap.objs.size≤b:=by
  simp only[dh,dI,or_false] at hb
  rcases hb with rfl|rfl<;>omega
 exact I1.fpOk hge (I1.hok.fresh hge)
end
end L2
namespace L2.TL
open PySem PySem.Spec PyProof.Rows
section
variable{Z:Zx}{ρ:List (Option T)}{O:AH}{a:Expr}{ts:List T}{p pos:Pos}
def EK(ts:List T):List T:=ts.zipIdx.map fun x=> .tup [.int (x.2:Nat),x.1]
theorem Oa{K:b5}{H:Hp}{l:Addr}{xs:List V}(ok:OwnOk K O H)(h1:H l=some (.lst xs))(n:O l=none)(r1:Reps K O H xs ts):Lo K (bV K l) O H (EK ts):=fun O' H' k ok'=>by
 have g1:Cr K H' l xs:=.inl (.inl (k.lst h1 n).1)
 have q1:=r1.kp k ok
 have hl:(EK ts).length=ts.length:=by simp[EK]
 refine⟨fun i hi=>?_,fun i x H'' y t e=>?_,fun i hi=> ⟨xs,g1,?_⟩⟩
 ·rw[hl] at hi
  obtain⟨v,e1,_⟩:=q1.get (i:=i) (t:=ts[i]'hi) (by simp)
  exact⟨xs,v,g1,e1⟩
 ·obtain⟨p,v,hp,rfl,rfl,a1⟩:=y
  unfold EK at e
  rw[b9,jS] at e
  cases et:ts[i]? with
  |none=>rw[et] at e;cases e
  |some t1=>
   rw[et] at e
   have e:T.tup [.int ((0+i:Nat):Int),t1]=t:=dW.inj e
   rw[hV] at e
   subst e
   obtain⟨v',e1,rv⟩:=q1.get et
   have z1:=a1 xs g1
   rw[e1] at z1;cases z1
   exact⟨.new ok' hp,.tup AX ((Reps.cons (.int _) (.one rv)).kp (BZ ok' hp) ok')⟩
 ·rw[hl] at hi
  rw[r1.length]
  omega
theorem NO{tes:List Expr}{tk:Nat}{tpos:Pos}(hm:Z.X.mg "enumerate" =none)(h1:ET Z ρ O a (.lst ts))(hg:Gl Z.X "enumerate":=by rfl)(hs:df [a] Z.X.env=[(false,eval a Z.X.env)]:=by rfl):EI Z ρ O (.Tuple tes tk tpos) (.Call (.Name "enumerate" p) [a] [] pos) (EK ts):=fun Φ q=>
 PI.weak (Tj hg hm (AQ h1 AB hs (fun vs O'=>vs=[.lst ts]∧O'=O) ⟨rfl,rfl⟩) hs) fun σ H R k=> ⟨k.1,by
  rintro vs H' _ _ ⟨rfl,rfl⟩ f r
  obtain⟨v,rfl,r1⟩:=r.one_inv
  obtain⟨l,xs,rfl,g1,n,r1⟩:=r1.lst_inv
  exact⟨l,rfl,⟨xs,.inl (.inl g1)⟩,k.2 _ H' _ _ q f (Oa f.ok g1 n r1)⟩⟩
end
section
variable{Z:Zx}{ρ:List (Option T)}{O:AH}{elt tg iter:Expr}{csc:Scope}{nc:List Str}{cap:List (Str×Nat)}{pos:Pos}
end
end L2.TL
namespace K12
open PySem L2 L2.TL PySem.Spec PyProof.Rows
def top(i:Nat):Stmt:=dS.main.body.getD i (.Pass ⟨0,0,0,0⟩)
abbrev Ly:Stmt:=top 7
abbrev Lz:Stmt:=top 13
abbrev Qi:Stmt:=top 14
abbrev NP:Stmt:=top 15
abbrev Gg:Stmt:=top 51
abbrev Iy:Stmt:=top 52
abbrev Co:Stmt:=top 53
abbrev Qj:Stmt:=top 27
abbrev Qk:Stmt:=top 28
abbrev bW:Stmt:=top 29
abbrev XH:Stmt:=top 30
abbrev MA:Stmt:=top 31
abbrev XI:Stmt:=top 32
abbrev XJ:Stmt:=top 41
abbrev MB:Stmt:=top 42
abbrev Iz:Stmt:=top 43
abbrev JA:Stmt:=top 44
abbrev EL:Stmt:=top 45
abbrev XM:Stmt:=top 34
abbrev DJ:Stmt:=top 35
abbrev Gh:Stmt:=top 36
abbrev MC:Stmt:=top 37
abbrev JB:Stmt:=top 38
abbrev JC:Stmt:=top 9
abbrev Tn:Stmt:=top 21
abbrev Fg:Stmt:=top 39
abbrev JD:Stmt:=top 40
abbrev Ce:Stmt:=top 54
abbrev JE:Stmt:=top 22
abbrev VP:Stmt:=top 55
abbrev MD:Stmt:=top 56
abbrev bX:Stmt:=top 57
abbrev Ob:Stmt:=top 58
structure Txt(mg:Str→Option Value):Prop where
 nInt:mg "int" =none
 nBool:mg "bool" =none
 nTuple:mg "tuple" =none
 nList:mg "list" =none
 nSet:mg "set" =none
 nRange:mg "range" =none
 nIsi:mg "isinstance" =none
 nMax:mg "max" =none
 nMin:mg "min" =none
 nLen:mg "len" =none
 nAll:mg "all" =none
 nSorted:mg "sorted" =none
 nRepr:mg "repr" =none
 nVE:mg "ValueError" =none
 nEnum:mg "enumerate" =none
 nSum:mg "sum" =none
 iMP:∃t:Tok,mg "MOST_PLACES" =some (.int 16 t)
 iLR:∃t:Tok,mg "LEAST_RING" =some (.int 3 t)
 iLT:∃t:Tok,mg "LEAST_TIES" =some (.int 2 t)
 iMT:∃t:Tok,mg "MOST_TIES" =some (.int 15 t)
 iMR:∃t:Tok,mg "MOST_RING" =some (.int 16 t)
def CF(t:T)(a b:Int):Bool:=match t with
 | .int i=>decide (a≤i)&&decide (i≤b)
 |_=>false
def KP(n:Int)(p:Int×Int):Prop:=0≤p.1∧p.1<p.2∧p.2<n
theorem EW.cast{Z:Zx}{ρ:List (Option T)}{O:AH}{e:Expr}{k l:Bool}(h:EW Z ρ O e k)(z:k=l):EW Z ρ O e l:=z▸h
theorem EB.cast{Z:Zx}{ρ:List (Option T)}{O:AH}{e:Expr}{k l:Bool}(h:EB Z ρ O e k)(z:k=l):EB Z ρ O e l:=z▸h
theorem ET.cast{Z:Zx}{ρ:List (Option T)}{O:AH}{e:Expr}{k l:T}(h:ET Z ρ O e k)(z:k=l):ET Z ρ O e l:=z▸h
section
variable{P:Program}{w:World}{K:b5}{mg:Str→Option Value}{base:Heap}
def JF:Bf:=Ij fun ts r=>∃t a b,ts=[t,.int a,.int b]∧Ae t=false∧r=.bl (CF t a b)
theorem To:FnScope ["thing","least","most"] ["thing","least","most"] (AA Ly):=⟨rfl,rfl,rfl,by decide+kernel,rfl,by decide+kernel,by decide+kernel⟩
theorem Ql{f:Addr}{fd:dD}(F:Fun K "is_whole" "is_whole" Ly f fd)(T:Txt mg):FnOk P w K mg base (CXe P w) 1 f fd ["thing","least","most"] (Bq K JF):=by
 refine AU F To ?_ ?_
 ·rintro ts O Φ Ξ ⟨r,⟨t,a,b,rfl,_⟩,_⟩
  rfl
 ·rintro cdv A outer s H E O Ξ hr xf _ Φ ⟨_,⟨t,a,b,rfl,ht,rfl⟩,q⟩
  refine AD (As (EW.eb (QR (Ep (QW T.nIsi T.nInt ZJ TY (ev 0) ht)) fun _=>Lk (QW T.nIsi T.nBool ZK QV (ev 0) ht))) (fun h=>AF (AO (VD _ ?_))) (fun h=>Ap ?_))
  ·have:CF t a b=false:=by
    cases t<;>first|rfl|cases h
   rw[this] at q;exact q
  ·cases t with
   |int i=>exact AF (AO (TR (ev 1) (ev 0) (ev 2) (by with_unfolding_all rfl) _ q))
   |bl i=>cases h
   |raw i=>cases ht
   |_=>cases h
theorem JG{t:T}{a b:Int}(h:CF t a b=true):∃i,t=.int i:=by
 cases t<;>first|exact⟨_,rfl⟩|cases h
end
abbrev Qm:Stmt:=top 47
abbrev Qn:Stmt:=top 48
abbrev XN:Stmt:=top 49
abbrev Qo:Stmt:=top 50
def KQ(xs:List T):Prop:=∃a b c:Int,xs=[.int a,.int b,.int c]∧0≤a∧0≤c∧c<2147483648
section
variable{P:Program}{w:World}{K:b5}{mg:Str→Option Value}{base:Heap}
def Gi(K:b5):Sp:=fun vs H Q _=>∃(a:Addr) (ns:List Int),vs=[.ref a,.int 0]∧Cr K H a (ns.map V.int)∧∀i,Q (.int i) H
theorem XO:FnScope ["_law_script","_law_k"] ["_law_script","_law_k"] (AA Qm):=⟨rfl,rfl,rfl,by decide+kernel,rfl,by decide+kernel,by decide+kernel⟩
theorem Tp{f:Addr}{fd:dD}(F:Fun K "_law_cell_at" "_law_cell_at" Qm f fd)(T:Txt mg):FnOk P w K mg base (CXe P w) 1 f fd ["_law_script","_law_k"] (Gi K):=by
 refine F.okX XO (fun vs H Q E h=>?_) (fun cdv A outer s H vs Q E hr h=>?_)
 ·obtain⟨a,ns,rfl,_⟩:=h
  rfl
 ·obtain⟨a,ns,rfl,hS,k⟩:=h
  refine⟨_,Jf (Us (Mo Uu (pv 1) (Fu CM (by rfl) T.nLen XA (IM (pv 0) LB)) (Ah _)) (IJ (Kw (Uv Du (pv 0) (pv 1) (fun _ _=>rfl)))) Mj) (IJ (Kw PF)),?_⟩
  refine⟨_,rfl,_,rfl,a,_,rfl,.inl hS,_,_,rfl,rfl,_,rfl,?_⟩
  refine WU (fun h1=>?_) (fun h1=>?_)
  ·have h1:(0:Int)< ((ns.map V.int).length:Int):=by simpa using h1
   cases ns with
   |nil=>simp at h1
   |cons n ns=>exact⟨_,rfl,_,rfl,a,_,0,.int n,rfl,rfl,hS,BJ (j:=0) rfl,k n⟩
  ·exact k 0
def Qp:Bf:=fun ts O Φ _=>∃n:Int,ts=[.int n]∧∀m:Int,0≤m→m<2147483629→Φ (.int m) O
theorem Qq:FnScope ["_law_seed"] ["_law_seed"] (AA Qn):=⟨rfl,rfl,rfl,by decide+kernel,rfl,by decide+kernel,by decide+kernel⟩
theorem Tq{f:Addr}{fd:dD}(F:Fun K "_law_next" "_law_next" Qn f fd):FnOk P w K mg base (CXe P w) 1 f fd ["_law_seed"] (Bq K Qp):=by
 refine AU F Qq ?_ ?_
 ·rintro ts O Φ Ξ ⟨n,rfl,_⟩
  rfl
 ·rintro cdv A outer s H E O Ξ hr xf _ Φ ⟨n,rfl,q⟩
  have b1:=iE (n+7919) (show(2147483647:Int)≠0 by decide)
  have b2:=gN (n+7919) (show(0:Int)<2147483647 by decide)
  refine AD (AK 0 (ET.we (Dm (BM (ev 0) AC) AC (by decide)) ?_) Qq.nd)
  exact AF (AO (ET.we (Dm (BM (BM (CZ (ev 0) (ev 0) (.inl ⟨by omega,by omega⟩)) (CZ AC (ev 0) (.inl ⟨by decide,by decide⟩))) AC) AC (by decide)) (q _ (iE _ (by decide)) (gN _ (by decide)))))
def VQ:Bf:=fun ts O Φ _=>∃c:Int,ts=[.int c]∧∀(p:Addr) (xs:List T),O p=none→KQ xs→Φ (.raw (.ref p)) (Aj O p xs)
theorem VR:FnScope ["_law_cell","_law_left"] ["_law_cell"] (AA XN):=⟨rfl,rfl,rfl,by decide+kernel,rfl,by decide+kernel,by decide+kernel⟩
theorem XQ{f:Addr}{fd:dD}(F:Fun K "_law_pen_of" "_law_pen_of" XN f fd)(T:Txt mg):FnOk P w K mg base (CXe P w) 1 f fd ["_law_cell"] (Bq K VQ):=by
 refine AU F VR ?_ ?_
 ·rintro ts O Φ Ξ ⟨n,rfl,_⟩
  rfl
 ·rintro cdv A outer s H E O Ξ hr xf _ Φ ⟨n,rfl,q⟩
  refine AD (AK 1 (ET.we (EH T.nMax rfl (ev 0) (BS AC (ev 0))) ?_) VR.nd)
  refine AF (AO (Fb (EA.wa (AQ (ev 1) (AQ (Ta T.nInt (QL (ev 1) (Wm AC AC ⟨by decide,by decide,by decide⟩))) (AQ (Dm (ev 1) AC (by decide)) AB))) ⟨by show 3≤sizeLine;decide,fun a ha=>q a _ ha ?_⟩)))
  have b1:=iE (max n (0-n)) (show(1000003:Int)≠0 by decide)
  have b2:=gN (max n (0-n)) (show(0:Int)<1000003 by decide)
  exact⟨_,_,_,rfl,by omega,b1,by omega⟩
def DL:Bf:=fun ts O Φ _=>∃(p:Addr) (xs:List T) (m:Int),ts=[.raw (.ref p),.int m]∧O p=some xs∧KQ xs∧0<m∧m≤1000000000∧∀(r:Int) (xs':List T),0≤r→r<m→KQ xs'→Φ (.int r) (Aj O p xs')
theorem Qr:FnScope ["_law_pen","_law_many","_law_found"] ["_law_pen","_law_many"] (AA Qo):=⟨rfl,rfl,rfl,by decide+kernel,rfl,by decide+kernel,by decide+kernel⟩
theorem Tr{f:Addr}{fd:dD}(F:Fun K "_law_draw" "_law_draw" Qo f fd)(G:FnT P w K mg base "_law_next" 1 ["_law_seed"] Qp):FnOk P w K mg base (CXe P w) 2 f fd ["_law_pen","_law_many"] (Bq K DL):=by
 refine AU F Qr ?_ ?_
 ·rintro ts O Φ Ξ ⟨p,xs,m,rfl,_⟩
  rfl
 ·rintro cdv A outer s H E O Ξ hr xf _ Φ ⟨p,_,m,rfl,hp,⟨a,b,c,rfl,a0,c0,c1⟩,m0,m1,q⟩
  refine AD (As (Dn (DD hp (ev 0) AC) AC) (fun h=>?_) (fun h=>Ap ?_))
  ·refine AD (AK 2 (ET.we (Dm (DD hp (ev 0) AC) (ev 1) m0) ?_) Qr.nd)
   refine AD (GW (ET.we (Ca (DD hp (ev 0) AC) (ev 1) ⟨m0,by omega⟩) (ET.we (ev 0) ⟨p,rfl,ET.we AC ⟨_,0,0,rfl,hp,rfl,?_⟩⟩)))
   exact AF (AO (ET.we (ev 2) (q _ _ (iE _ (by omega)) (gN _ m0) ⟨a/m,b,c,rfl,Int.ediv_nonneg a0 (by omega),c0,c1⟩)))
  ·refine AD (GW (AJ G hr xf (DT (EF Eg (AJ G hr xf (EA.wa (AQ (DD hp (ev 0) AC) AB) ⟨c,rfl,fun u u0 u1=>?_⟩))))))
   refine ET.we AC (GS _ (Ba ⟨u+7,rfl,fun r r0 r1=>ET.we (ev 0) ⟨p,rfl,ET.we AC ⟨_,2,2,rfl,hp,rfl,?_⟩⟩⟩))
   exact AF (AO (ET.we (Dm (Ca (DD AG (ev 0) AC) AC ⟨by decide,by decide⟩) (ev 1) m0) (q _ _ (iE _ (by omega)) (gN _ m0) ⟨a,b,r,rfl,a0,r0,by omega⟩)))
end
theorem AS:(1000:Nat)<sizeLine:=by decide
def PO(O0:AH)(p:Addr)(O:AH):Prop:=∃xs,O=Aj O0 p xs∧KQ xs
theorem PO.at{O0 O:AH}{p:Addr}(h:PO O0 p O):∃xs,O p=some xs∧KQ xs:=by
 obtain⟨xs,rfl,px⟩:=h
 exact⟨xs,AG,px⟩
theorem PO.step{O0 O:AH}{p:Addr}{xs:List T}(h:PO O0 p O)(px:KQ xs):PO O0 p (Aj O p xs):=by
 obtain⟨ys,rfl,_⟩:=h
 exact⟨xs,Bt,px⟩
theorem PO.start{O:AH}{p:Addr}{xs:List T}(h:O p=some xs)(px:KQ xs):PO O p O:=⟨xs,(Qa h).symm,px⟩
section
variable{P:Program}{w:World}{K:b5}{mg:Str→Option Value}{base:Heap}
section
variable{Z:Zx}{ρ:List (Option T)}{O O0 O1:AH}{a b:Expr}{Φ:BQ}{pos q:Pos}{p c:Addr}{m:Int}{acc:List T}
theorem Bh(G:FnT Z.X.prog Z.X.w Z.X.K Z.X.mg Z.X.base "_law_draw" 2 ["_law_pen","_law_many"] DL)(hr:Room 2 Z.X.A)(xf:XFly Z.X Z.W)(po:PO O0 p O)(ha:ET Z ρ O a (.raw (.ref p)))(hb:ET Z ρ O b (.int m))(m0:0<m)(m1:m≤1000000000)(k:∀r O',0≤r→r<m→PO O0 p O'→Φ (.int r) O')(hg:Gl Z.X "_law_draw":=by rfl)
  (he:df [a,b] Z.X.env=(false,eval a Z.X.env)::df [b] Z.X.env:=by rfl) (he2:df [b] Z.X.env=(false,eval b Z.X.env)::df [] Z.X.env:=by rfl) (hpl:(gU pos (df [b] Z.X.env)).any (·.1)=false:=by rfl):WE Z ρ O (.Call (.Name "_law_draw" q) [a,b] [] pos) Φ:=by
 obtain⟨xs,hp,px⟩:=po.at
 exact AJ G hr xf (EA.wa (AQ ha (AQ hb AB he2) he) ⟨p,xs,m,rfl,hp,px,m0,m1,fun r xs' r0 r1 px'=>k r _ r0 r1 (po.step px')⟩) hg (by decide) he hpl
theorem Qs(G:FnT Z.X.prog Z.X.w Z.X.K Z.X.mg Z.X.base "_law_draw" 2 ["_law_pen","_law_many"] DL)(hr:Room 2 Z.X.A)(xf:XFly Z.X Z.W)(po:PO O0 p O)(hc:O c=none)(ha:ET Z ρ (Aj O c acc) a (.raw (.ref p)))(hb:ET Z ρ (Aj O c acc) b (.int m))(m0:0<m)(m1:m≤1000000000)(k:∀r O',0≤r→r<m→PO O0 p O'→O' c=none→Φ (.int r) (Aj O' c acc))(hg:Gl Z.X "_law_draw":=by rfl)
  (he:df [a,b] Z.X.env=(false,eval a Z.X.env)::df [b] Z.X.env:=by rfl) (he2:df [b] Z.X.env=(false,eval b Z.X.env)::df [] Z.X.env:=by rfl) (hpl:(gU pos (df [b] Z.X.env)).any (·.1)=false:=by rfl):WE Z ρ (Aj O c acc) (.Call (.Name "_law_draw" q) [a,b] [] pos) Φ:=by
 obtain⟨xs,hp,px⟩:=po.at
 have hpc:p≠c:=XD hp hc
 refine AJ G hr xf (EA.wa (AQ ha (AQ hb AB he2) he) ⟨p,xs,m,rfl,by rw[AZ hpc];exact hp,px,m0,m1,fun r xs' r0 r1 px'=>?_⟩) hg (by decide) he hpl
 rw[DG hpc]
 exact k r _ r0 r1 (po.step px') (by rw[AZ (Ne.symm hpc)];exact hc)
end
end
def mm(p:Int×Int):Int×Int:=(min p.1 p.2,max p.1 p.2)
section
variable{P:Program}{w:World}{K:b5}{mg:Str→Option Value}{base:Heap}{CP CL:Addr}
def NQ:Bf:=Ij fun ts r=>∃n u t,ts=[.tup [.int n,u],t]∧Ae t=false∧r=.bl (CF t 0 (n-1))
theorem Ts:FnScope ["web","thing"] ["web","thing"] (AA Lz):=⟨rfl,rfl,rfl,by decide+kernel,rfl,by decide+kernel,by decide+kernel⟩
theorem Qt{f:Addr}{fd:dD}(F:Fun K "is_place" "is_place" Lz f fd)(G:FnT P w K mg base "is_whole" 1 ["thing","least","most"] JF):FnOk P w K mg base (CXe P w) 2 f fd ["web","thing"] (Bq K NQ):=by
 refine AU F Ts ?_ ?_
 ·rintro ts O Φ Ξ ⟨r,⟨n,u,t,rfl,_⟩,_⟩
  rfl
 ·rintro cdv A outer s H E O Ξ hr xf _ Φ ⟨_,⟨n,u,t,rfl,ht,rfl⟩,q⟩
  exact AF (AO (ET.we (Aa G hr xf (AE (ev 1) (AE AC (AE (BS (Aw (ev 0) AC) AC) AB))) ⟨t,0,n-1,rfl,ht,rfl⟩) q))
def Ez(CP:Addr):Bf:=fun ts O Φ Ξ=>∃n u t,ts=[.tup [.int n,u],t]∧Ae t=false∧(CF t 0 (n-1)=true→Φ .non O)∧(CF t 0 (n-1)=false→Ξ (.ref CP) O)
theorem XR:FnScope ["web","thing"] ["web","thing"] (AA Qi):=⟨rfl,rfl,rfl,by decide+kernel,rfl,by decide+kernel,by decide+kernel⟩
theorem Tt{f:Addr}{fd:dD}(F:Fun K "need_place" "need_place" Qi f fd)(mP:mg "NoPlace" =some (.ref CP))(xP:gk K CP HH "ValueError.__new__" =true)(G:FnT P w K mg base "is_place" 2 ["web","thing"] NQ):FnOk P w K mg base (CXe P w) 3 f fd ["web","thing"] (Bq K (Ez CP)):=by
 refine Ff F XR ?_ ?_
 ·rintro ts O Φ Ξ ⟨n,u,t,rfl,_⟩
  rfl
 ·rintro cdv A outer s H E O Ξ hr xo _ Φ ⟨n,u,t,rfl,ht,q1,q2⟩
  refine AF (As (Ep (Hm (Aa G hr xo.f (AE (ev 0) (AE (ev 1) AB)) ⟨n,u,t,rfl,ht,rfl⟩))) (fun h=>AF (DX xo rfl mP xP (q2 ?_))) (fun h=>Ap (q1 ?_)))
  ·cases z:CF t 0 (n-1) with
   |true=>rw[z] at h;cases h
   |false=>rfl
  ·cases z:CF t 0 (n-1) with
   |true=>rfl
   |false=>rw[z] at h;cases h
def NR(ps:List (Int×Int))(a b:Int):Bool:=decide (mm (a,b)∈ps)
def Qu:Bf:=Ij fun ts r=>∃n ps a b,ts=[Au n ps,.int a,.int b]∧r=.bl (NR ps a b)
theorem XS:FnScope ["web","a","b"] ["web","a","b"] (AA NP):=⟨rfl,rfl,rfl,by decide+kernel,rfl,by decide+kernel,by decide+kernel⟩
theorem Tu{f:Addr}{fd:dD}(F:Fun K "are_tied" "are_tied" NP f fd)(Tx:Txt mg):FnOk P w K mg base (CXe P w) 1 f fd ["web","a","b"] (Bq K Qu):=by
 refine AU F XS ?_ ?_
 ·rintro ts O Φ Ξ ⟨r,⟨n,ps,a,b,rfl,_⟩,_⟩
  rfl
 ·rintro cdv A outer s H E O Ξ hr xf _ Φ ⟨_,⟨n,ps,a,b,rfl,rfl⟩,q⟩
  have hu:(A.deeper (je "are_tied" (AA NP) s.heap.objs.size f cdv)).units+102<cLine:=by have:=hr.un;omega
  refine AF (AO (ET.we (ET.cast (Eo (VN hu) rfl (Qc (NN (mm (a,b))) KM (Lx _)) (EJ (NL Tx.nMin rfl (ev 1) (ev 2)) (EH Tx.nMax rfl (ev 1) (ev 2))) (Aw (ev 0) AC)) ?_) q))
  show T.bl ((dTs (ps.map AL)).any fun y=>gX y (dT (AL (mm (a,b)))))=T.bl (NR ps a b)
  rw[Hr]
  rfl
def bY(p:Int×Int):Prop:=(0≤p.1∧p.1<65536)∧0≤p.2∧p.2<65536
end
abbrev JH:Stmt:=top 8
abbrev JI:Stmt:=top 16
abbrev Qv:Stmt:=top 17
abbrev Ht:Stmt:=top 18
abbrev ME:Stmt:=top 19
abbrev NS:Stmt:=top 20
section
variable{P:Program}{w:World}{K:b5}{mg:Str→Option Value}{base:Heap}
end
open Gr
section
variable{P:Program}{w:World}{K:b5}{mg:Str→Option Value}{base:Heap}{CP:Addr}
def AV(qs:List (Int×Int))(i:Nat):List Int:=qs.filterMap fun p=>if p.1=(i:Int) then some p.2 else if p.2=(i:Int) then some p.1 else none
theorem KR{qs:List (Int×Int)}{p:Int×Int}{i:Nat}:AV (qs++[p]) i=AV qs i++(if p.1=(i:Int) then[p.2] else if p.2=(i:Int) then[p.1] else[]):=by
 unfold AV
 rw[List.filterMap_append]
 congr 1
 by_cases h:p.1=(i:Int)
 ·simp[h]
 ·by_cases h2:p.2=(i:Int)
  ·simp[h,h2]
  ·simp[h,h2]
theorem BI{qs:List (Int×Int)}{i:Nat}:(AV qs i).length≤qs.length:=List.length_filterMap_le ..
def FA(n:Int)(ps:List (Int×Int)):T:=.lst ((dE n.toNat).map fun i=> .lst ((AV ps i).map T.int))
structure Nst(n:Int)(O:AH)(l:Addr)(qs:List (Int×Int))(rs:List (Addr×List T)):Prop where
 len:(rs.length:Int)=n
 nd:(rs.map gB).Nodup
 ne:∀r∈rs,r.1≠l
 fr:∀r∈rs,O r.1=none
 val:∀(i:Nat) r,rs[i]?=some r→r.2=(AV qs i).map T.int
theorem EM{rs:List (Addr×List T)}{i:Nat}{r:Addr×List T}{vs:List T}(h:rs[i]?=some r):(rs.set i (r.1,vs)).map gB=rs.map gB:=Ti (us:=r.2) h
theorem ZP{O:AH}{rs:List (Addr×List T)}{l:Addr}{i:Nat}{r:Addr×List T}{us:List T}(e:rs[i]?=some r)(hn:(rs.map gB).Nodup)(hl:∀r∈rs,r.1≠l):
  Aj (Aj (Jc O rs) l (rs.map HK)) r.1 us=Aj (Jc O (rs.set i (r.1,us))) l ((rs.set i (r.1,us)).map HK):=by
 rw[DG (hl r (dj e)),Th (us:=r.2) hn e]
 congr 1
 have:=EM (vs:=us) e
 have e1:∀rs:List (Addr×List T),rs.map HK=(rs.map gB).map fun a=>T.raw (.ref a):=fun rs=>by rw[eK];rfl
 rw[e1,e1,this]
theorem Nst.set2{n:Int}{O:AH}{l:Addr}{qs:List (Int×Int)}{rs:List (Addr×List T)}(h:Nst n O l qs rs){a b:Nat}(hab:a≠b){ra rb:Addr×List T}(ea:rs[a]?=some ra)(eb:rs[b]?=some rb):
  Nst n O l (qs++[((a:Int),(b:Int))]) ((rs.set a (ra.1,ra.2++[T.int b])).set b (rb.1,rb.2++[T.int a])):=by
 have eb':(rs.set a (ra.1,ra.2++[T.int b]))[b]?=some rb:=by rw[dX hab];exact eb
 have m1:=EM (vs:=ra.2++[T.int b]) ea
 have m2:=EM (vs:=rb.2++[T.int a]) eb'
 have hm:∀r∈((rs.set a (ra.1,ra.2++[T.int b])).set b (rb.1,rb.2++[T.int a])),∃r'∈rs,r'.1=r.1:=fun r hr=>by
  have:r.1∈(((rs.set a (ra.1,ra.2++[T.int b])).set b (rb.1,rb.2++[T.int a])).map gB):=jZ hr
  rw[m2,m1] at this
  obtain⟨r',h1,h2⟩:=dy.mp this
  exact⟨r',h1,h2⟩
 refine⟨by rw[iC,iC];exact h.len,by rw[m2,m1];exact h.nd,fun r hr=>?_,fun r hr=>?_,fun i r e=>?_⟩
 ·obtain⟨r',h1,h2⟩:=hm r hr
  rw[←h2];exact h.ne r' h1
 ·obtain⟨r',h1,h2⟩:=hm r hr
  rw[←h2];exact h.fr r' h1
 ·have la:=(dt.mp ea).1
  have lb:=(dt.mp eb).1
  rw[KR,e8]
  by_cases h1:i=b
  ·subst h1
   rw[eD (by rw[iC];exact lb)] at e
   cases e
   have:¬((a:Int)=(i:Int)):=by omega
   show rb.2++[T.int a]=_
   rw[h.val i rb eb]
   simp[this]
  ·rw[dX (fun z=>h1 z.symm)] at e
   by_cases h2:i=a
   ·subst h2
    rw[eD la] at e
    cases e
    show ra.2++[T.int b]=_
    rw[h.val i ra ea]
    simp
   ·rw[dX (fun z=>h2 z.symm)] at e
    have n1:¬((a:Int)=(i:Int)):=by omega
    have n2:¬((b:Int)=(i:Int)):=by omega
    rw[h.val i r e]
    simp[n1,n2]
theorem Nst.tree{n:Int}{O:AH}{l:Addr}{ps:List (Int×Int)}{rs:List (Addr×List T)}(h:Nst n O l ps rs):T.lst (rs.map fun r=>T.lst r.2)=FA n ps:=by
 have hl:=h.len
 unfold FA
 congr 1
 apply fo
 intro i
 rw[b9,b9]
 by_cases hi:i<rs.length
 ·rw[di hi,fO (by omega)]
  show some (T.lst rs[i].2)=_
  rw[h.val i rs[i] (di hi)]
  rfl
 ·rw[e7 (by omega),e7 (by rw[eP];omega)]
  rfl
def Bu:Bf:=Ij fun ts r=>∃n ps,ts=[Au n ps]∧0≤n∧n≤200∧HD n ps∧ps.length≤200∧r=FA n ps
theorem JJ:FnScope ["web","nears","a","b"] ["web"] (AA JI):=⟨rfl,rfl,rfl,by decide+kernel,rfl,by decide+kernel,by decide+kernel⟩
theorem ZQ:(Ab ["place"] []).Nodup:=by decide+kernel
theorem Qw{f:Addr}{fd:dD}(F:Fun K "nears_of" "nears_of" JI f fd)(Tx:Txt mg):FnOk P w K mg base (CXe P w) 1 f fd ["web"] (Bq K Bu):=by
 refine AU F JJ ?_ ?_
 ·rintro ts O Φ Ξ ⟨r,⟨n,ps,rfl,_⟩,_⟩
  rfl
 ·rintro cdv A outer s H E O Ξ hr xf _ Φ ⟨_,⟨n,ps,rfl,n0,n1,hw,hl,rfl⟩,q⟩
  have sb:=AS
  refine AD (Hs (i:=1) (nc:=["place"]) (cap:=[]) (by rfl) JJ.nd rfl (BP (AA JI) ["web","nears","a","b"] (by decide+kernel)) (EI.wi (Ak Tx.nRange (Aw (ev 0) AC) ⟨by omega,by omega⟩) ?_))
  refine⟨fun i acc O'=>i≤200∧∃as:List Addr,acc=(as.map fun a=> (a,([]:List T))).map HK∧as.length=i∧as.Nodup∧(∀a∈as,O a=none)∧O'=Jc O (as.map fun a=> (a,[])),⟨by omega,[],rfl,rfl,by simp,(fun _ h=>by cases h),rfl⟩,?_,?_⟩
  ·rintro i t acc O' c e ⟨_,as,rfl,hal,hnd,hfr,rfl⟩ hc
   obtain⟨hi,rfl⟩:=DF e
   refine⟨[some (.int (0+(i:Int)))],fun X' Oe He is=> ⟨?_,Ik (LI fun X' Oe He is=>?_)⟩⟩
   ·obtain⟨cl,s',H',fp,rfl⟩:=is
    exact AM 0 ZQ (by decide)
   ·obtain⟨cl,s',H',fp,rfl⟩:=is
    refine Fb (Ba ⟨fb _,fun p hp=>?_⟩)
    have hpc:p≠c:=fun z=>by rw[z,AG] at hp;cases hp
    rw[AZ hpc] at hp
    have hpa:p∉as:=fun z=>by
     rw[Dq (rs:=as.map fun a=> (a,[])) (r:=(p,[])) (by rw[eK];simpa[Function.comp_def] using hnd) (jZ z)] at hp
     cases hp
    have hpO:O p=none:=by
     rw[DY fun r hr=>by
      obtain⟨a,ha,rfl⟩:=dy.mp hr
      exact fun z=>hpa (z▸ha)] at hp
     exact hp
    refine⟨Aj (Jc O (as.map fun a=> (a,[]))) p [],DG hpc,by rw[AZ hpc.symm];exact hc,by rw[c9,c9];omega,by omega,as++[p],by rw[e8,e8];rfl,by simp;omega,?_,fun a ha=>?_,?_⟩
    ·rw[eY]
     refine⟨hnd,by simp,fun a ha b hb z=>?_⟩
     rw[b8.mp hb] at z
     exact hpa (z▸ha)
    ·rcases dJ.mp ha with ha|ha
     ·exact hfr a ha
     ·rw[b8.mp ha];exact hpO
    ·rw[e8];exact(Qf (r:=(p,[]))).symm
  ·rintro acc O' ⟨_,as,rfl,hal,hnd,hfr,rfl⟩ l hlO
   rw[BX] at hal
   have hkeys:((as.map fun a=> (a,([]:List T))).map gB)=as:=by rw[eK];simp[Function.comp_def]
   have nst0:Nst n O l [] (as.map fun a=> (a,([]:List T))):=by
    refine⟨by rw[c9];omega,by rw[hkeys];exact hnd,fun r hr z=>?_,fun r hr=>?_,fun i r e=>?_⟩
    ·rw[←z,Dq (by rw[hkeys];exact hnd) hr] at hlO
     cases hlO
    ·obtain⟨a,ha,rfl⟩:=dy.mp hr
     exact hfr a ha
    ·have:=dj e
     obtain⟨a,ha,rfl⟩:=dy.mp this
     rfl
   have hlO':O l=none:=by
    rw[DY nst0.ne] at hlO
    exact hlO
   refine AD (Bc Aq.own rfl (EI.wi (Ex (Aw (ev 0) AC)) ⟨fun j ρ' O'=>∃rs v2 v3,ρ'=[some (Au n ps),some (.raw (.ref l)),v2,v3]∧O'=Aj (Jc O rs) l (rs.map HK)∧Nst n O l (ps.take j) rs,⟨_,none,none,rfl,rfl,by rw[ku];exact nst0⟩,?_,?_⟩))
   ·rintro j t _ _ e ⟨rs,v2,v3,rfl,rfl,nst⟩
    rw[b9] at e
    cases ec:ps[j]? with
    |none=>rw[ec] at e;cases e
    |some z=>
     rw[ec] at e
     cases e
     have hb:=hw z (dj ec)
     have hlen:=nst.len
     have htl:(ps.take j).length≤200:=by rw[eH];omega
     obtain⟨a,ea⟩:=dZ hb.1
     obtain⟨b,eb⟩:=dZ (show 0≤z.2 by omega)
     have ha:a<rs.length:=by omega
     have hb':b<rs.length:=by omega
     have hab:a≠b:=by omega
     have ga:=di ha
     have gb:(rs.set a (rs[a].1,rs[a].2++[T.int b]))[b]?=some rs[b]:=by rw[dX hab];exact di hb'
     have m1:=EM (vs:=rs[a].2++[T.int b]) ga
     have nd1:((rs.set a (rs[a].1,rs[a].2++[T.int b])).map gB).Nodup:=by rw[m1];exact nst.nd
     have ne1:∀r∈rs.set a (rs[a].1,rs[a].2++[T.int b]),r.1≠l:=fun r hr=>by
      have:r.1∈(rs.set a (rs[a].1,rs[a].2++[T.int b])).map gB:=jZ hr
      rw[m1] at this
      obtain⟨r',h1,h2⟩:=dy.mp this
      rw[←h2];exact nst.ne r' h1
     have la:rs[a].2.length≤200:=by rw[nst.val a rs[a] ga,c9];exact fI BI htl
     have lb:rs[b].2.length≤200:=by rw[nst.val b rs[b] (di hb'),c9];exact fI BI htl
     have ez:z=((a:Int),(b:Int)):=by rw[←ea,←eb]
     subst ez
     refine⟨[some (Au n ps),some (.raw (.ref l)),some (.int a),some (.int b)],Cc 2 3 rfl JJ.nd (by show 2<4;decide) (by show 3<4;decide),?_⟩
     refine AD (Ac (Eu (ET.we (DD (ts:=rs.map HK) AG (ev 1) (ev 2) (BJ (by rw[b9,ga];rfl))) ⟨rs[a].1,rfl,⟨rs[a].2,?_⟩,ET.we (ev 3) ⟨rs[a].2,?_,by omega,?_⟩⟩)))
     ·rw[AZ (nst.ne _ (fu ha))];exact Dq nst.nd (fu ha)
     ·rw[AZ (nst.ne _ (fu ha))];exact Dq nst.nd (fu ha)
     ·rw[ZP ga nst.nd nst.ne]
      refine AF (Ac (Eu (ET.we (DD (ts:=(rs.set a (rs[a].1,rs[a].2++[T.int b])).map HK) AG (ev 1) (ev 3) (BJ (by rw[b9,gb];rfl))) ⟨rs[b].1,rfl,⟨rs[b].2,?_⟩,ET.we (ev 2) ⟨rs[b].2,?_,by omega,?_⟩⟩)))
      ·rw[AZ (ne1 _ (dj gb))];exact Dq nd1 (dj gb)
      ·rw[AZ (ne1 _ (dj gb))];exact Dq nd1 (dj gb)
      ·rw[ZP gb nd1 ne1]
       refine⟨_,_,_,rfl,rfl,?_⟩
       have:ps.take (j+1)=ps.take j++[((a:Int),(b:Int))]:=by
        rw[gh,ec];rfl
       rw[this]
       exact nst.set2 hab ga (di hb')
   ·rintro _ _ ⟨rs,v2,v3,rfl,rfl,nst⟩
    rw[c9,fM] at nst
    refine Qh nst.nd nst.ne nst.fr nst.fr ?_
    refine DE (p:=l) (n:=1) (ts:=rs.map fun r=>T.lst r.2) AG hlO' rfl ?_
    rw[Az hlO']
    refine AF (AO (ET.we (ev 1) ?_))
    show Φ (T.lst (rs.map fun r=>T.lst r.2)) O
    rw[nst.tree]
    exact q
end
section
variable{P:Program}{w:World}{K:b5}{mg:Str→Option Value}{base:Heap}{CP:Addr}
theorem CG{n:Int}{ps:List (Int×Int)}(hw:HD n ps){i:Nat}{v:Int}:v∈AV ps i↔Adj ps (i:Int) v:=by
 unfold AV Adj
 rw[gM]
 constructor
 ·rintro⟨p,hp,e⟩
  by_cases h:p.1=(i:Int)
  ·rw[if_pos h] at e
   cases e
   exact .inl (by rw[←h];exact hp)
  ·rw[if_neg h] at e
   by_cases h2:p.2=(i:Int)
   ·rw[if_pos h2] at e
    cases e
    exact .inr (by rw[←h2];exact hp)
   ·rw[if_neg h2] at e;cases e
 ·rintro(h|h)
  ·exact⟨_,h,by simp⟩
  ·have:=hw _ h
   simp only at this
   exact⟨_,h,by rw[if_neg (by omega)];simp⟩
theorem Qx{n:Int}{ps:List (Int×Int)}{i:Nat}(h:(i:Int)<n):atI ((dE n.toNat).map fun i=>T.lst ((AV ps i).map T.int)) (i:Int)=some (.lst ((AV ps i).map T.int)):=
 BJ (by rw[b9,fO (by omega)];rfl)
theorem JK{m:Nat}{i:Nat}(h:i<m):PZ m (i:Int)=some i:=by
 unfold PZ
 rw[if_pos (by omega),if_pos (by omega)]
 rfl
structure WebN(n:Int)(ps:List (Int×Int)):Prop where
 n0:0≤n
 n1:n≤200
 hw:HD n ps
 hl:ps.length≤200
def JL(CP:Addr):Bf:=fun ts O Φ Ξ=>∃n ps t,ts=[Au n ps,t]∧Ae t=false∧WebN n ps∧(∀i:Nat,t=.int i→(i:Int)<n→Φ (.tup ((AV ps i).map T.int)) O)∧(CF t 0 (n-1)=false→Ξ (.ref CP) O)
theorem XT:FnScope ["web","place"] ["web","place"] (AA Qv):=⟨rfl,rfl,rfl,by decide+kernel,rfl,by decide+kernel,by decide+kernel⟩
theorem Fh{n:Int}{t:T}(h:CF t 0 (n-1)=true):∃i:Nat,t=.int i∧(i:Int)<n:=by
 obtain⟨i,rfl⟩:=JG h
 have h:(decide (0≤i)&&decide (i≤n-1))=true:=h
 simp at h
 obtain⟨m,rfl⟩:=dZ h.1
 exact⟨m,rfl,by omega⟩
theorem Tv{f:Addr}{fd:dD}(F:Fun K "near_of" "near_of" Qv f fd)(Tx:Txt mg)(Gn:FnT P w K mg base "need_place" 3 ["web","thing"] (Ez CP))(G:FnT P w K mg base "nears_of" 1 ["web"] Bu):FnOk P w K mg base (CXe P w) 4 f fd ["web","place"] (Bq K (JL CP)):=by
 refine AU F XT ?_ ?_
 ·rintro ts O Φ Ξ ⟨n,ps,t,rfl,_⟩
  rfl
 ·rintro cdv A outer s H E O Ξ hr xf _ Φ ⟨n,ps,t,rfl,ht,wn,q1,q2⟩
  refine AD (Ac (AJ Gn hr xf (EA.wa (AE (ev 0) (AE (ev 1) AB)) ⟨n,_,t,rfl,ht,fun h=>?_,q2⟩)))
  obtain⟨i,rfl,hi⟩:=Fh h
  exact AF (AO (ET.we (GX Tx.nTuple (Cb (Aa G (hr.mono (by decide)) xf (AE (ev 0) AB) ⟨n,ps,rfl,wn.n0,wn.n1,wn.hw,wn.hl,rfl⟩) (ev 1) (Qx hi))) (q1 i rfl hi)))
def AY:Option Nat→T
 |none=> .non
 |some d=> .int d
theorem DM{x:Option Nat}:Ae (AY x)=false:=by cases x<;>rfl
theorem KS{x:Option Nat}:FM (AY x)=x.isNone:=by cases x<;>rfl
def MF:Bf:=fun ts O Φ _=>∃n ps S,ts=[FA n ps,.lst (S.map T.int)]∧WebN n ps∧(∀z∈S,0≤z∧z<n)∧∀fs,All n ps S fs→Φ (.lst (fs.map AY)) O
def Qy:List Str:=["nears","starts","fars","start","border","steps","beyond","place","near"]
theorem CA:FnScope Qy ["nears","starts"] (AA Ht):=⟨rfl,rfl,rfl,by decide+kernel,rfl,by decide+kernel,by decide+kernel⟩
theorem ZR:(Ab ["near"] []).Nodup:=by decide+kernel
def cG(i:Nat):Stmt:=(BA Ht).getD i (.Pass ⟨0,0,0,0⟩)
def KU:Stmt→List Stmt
 | .While _ b _ _=>b
 | .For _ _ b _ _=>b
 |_=> []
def ZS(i:Nat):Stmt:=(KU (cG 4)).getD i (.Pass ⟨0,0,0,0⟩)
variable{f:Addr}{cdv:Value}{A:dH}{outer:List Env}{s:b6}{H:Hp}{E:XK}{O:AH}{Ξ:Value→AH→Prop}{n:Int}{ps:List (Int×Int)}{S bs:List Int}{l lb:Addr}
abbrev zF(P:Program)(w:World)(K:b5)(mg:Str→Option Value)(base:Heap)(f:Addr)(cdv:Value)(A:dH)(outer:List Env)(s:b6)(H:Hp)(E:XK)(O:AH)(Ξ:Value→AH→Prop):Zx:=zB P w K mg base Qy "fars_from" (AA Ht) f cdv A outer s H E O Ξ
abbrev FV(O:AH)(l lb:Addr)(fs:List (Option Nat))(BC:List Int):AH:=Aj (Aj O l (fs.map AY)) lb (BC.map T.int)
end
section
variable{P:Program}{w:World}{K:b5}{mg:Str→Option Value}{base:Heap}{CP:Addr}{f:Addr}{cdv:Value}{A:dH}{outer:List Env}{s:b6}{H:Hp}{E:XK}{O:AH}{Ξ:Value→AH→Prop}{n:Int}{ps:List (Int×Int)}{S bs:List Int}{l lb:Addr}
theorem Gj{v:Int}:IsD ps S v 0↔v∈S:=by
 constructor
 ·rintro⟨w,_⟩
  cases w with
  |«at» h=>exact h
 ·intro h
  exact⟨.at h,fun j hj=>by omega⟩
def JM(CP:Addr):Bf:=fun ts O Φ Ξ=>∃n ps t u,ts=[Au n ps,t,u]∧Ae t=false∧Ae u=false∧WebN n ps∧(∀i j:Nat,t=.int i→u=.int j→(i:Int)<n→(j:Int)<n→∀fs,All n ps [(i:Int)] fs→∀x,fs[j]?=some x→Φ (AY x) O)∧(CF t 0 (n-1)=false∨CF u 0 (n-1)=false→Ξ (.ref CP) O)
theorem Tw:FnScope ["web","one","other"] ["web","one","other"] (AA ME):=⟨rfl,rfl,rfl,by decide+kernel,rfl,by decide+kernel,by decide+kernel⟩
theorem Oc{fd:dD}(F:Fun K "far_of" "far_of" ME f fd)(Gn:FnT P w K mg base "need_place" 3 ["web","thing"] (Ez CP))(G:FnT P w K mg base "nears_of" 1 ["web"] Bu)(Gf:FnT P w K mg base "fars_from" 1 ["nears","starts"] MF):FnOk P w K mg base (CXe P w) 4 f fd ["web","one","other"] (Bq K (JM CP)):=by
 refine AU F Tw ?_ ?_
 ·rintro ts O Φ Ξ ⟨n,ps,t,u,rfl,_⟩
  rfl
 ·rintro cdv A outer s H E O Ξ hr xf _ Φ ⟨n,ps,t,u,rfl,ht,hu,wn,q1,q2⟩
  refine AD (Ac (AJ Gn hr xf (EA.wa (AE (ev 0) (AE (ev 1) AB)) ⟨n,_,t,rfl,ht,fun h=>?_,fun h=>q2 (.inl h)⟩)))
  refine AD (Ac (AJ Gn hr xf (EA.wa (AE (ev 0) (AE (ev 2) AB)) ⟨n,_,u,rfl,hu,fun h2=>?_,fun h=>q2 (.inr h)⟩)))
  obtain⟨i,rfl,hi⟩:=Fh h
  obtain⟨j,rfl,hj⟩:=Fh h2
  refine AF (AO (QI Du (fun _ _=>rfl) (AJ Gf (hr.mono (by decide)) xf (EA.wa (AE (Aa G (hr.mono (by decide)) xf (AE (ev 0) AB) ⟨n,ps,rfl,wn.n0,wn.n1,wn.hw,wn.hl,rfl⟩) (AE (Bb (ts:=[(i:Int)].map T.int) (AE (ev 1) AB) (by show 1≤sizeLine;decide)) AB)) ⟨n,ps,[(i:Int)],rfl,wn,fun z hz=>?_,fun fs al=>?_⟩))))
  ·rw[b8.mp hz];omega
  ·have hl:=al.len
   have hlt:j<fs.length:=by omega
   exact ET.we (ev 2) (Ll (t:=AY fs[j]) (BJ (by rw[b9,di hlt];rfl)) _ (q1 i j rfl rfl hi hj fs al fs[j] (di hlt)))
end
end K12
namespace GrR
open L2.TL
variable{R:Int→Int→Prop}{n:Int}{S:List Int}{v u:Int}{d e s k:Nat}{fs gs:List (Option Nat)}{BC ds:List Int}
inductive W(R:Int→Int→Prop)(S:List Int):Nat→Int→Prop
 |at{v:Int}:v∈S→W R S 0 v
 |go {k:Nat} {u v:Int}:W R S k u→R u v→W R S (k+1) v
def IsD(R:Int→Int→Prop)(S:List Int)(v:Int)(d:Nat):Prop:=W R S d v∧∀j,j<d→¬W R S j v
theorem IsD.uniq(a:IsD R S v d)(b:IsD R S v e):d=e:=by
 rcases gT d e with h|h|h
 ·exact absurd a.1 (b.2 d h)
 ·exact h
 ·exact absurd b.1 (a.2 e h)
theorem W.least(h:W R S k v):∃d,d≤k∧IsD R S v d:=by
 induction k using lC with
 |_ k ih=>
  by_cases hx:∃j,j<k∧W R S j v
  ·obtain⟨j,hj,w⟩:=hx
   obtain⟨d,hd,i⟩:=ih j hj w
   exact⟨d,by omega,i⟩
  ·exact⟨k,dm _,h,fun j hj w=>hx ⟨j,hj,w⟩⟩
theorem IsD.prev(h:IsD R S v (s+1)):∃u,IsD R S u s∧R u v:=by
 obtain⟨w,m⟩:=h
 cases w with
 |go w a=>exact⟨_,⟨w,fun j hj w'=>m (j+1) (by omega) (.go w' a)⟩,a⟩
theorem IsD.down(h:IsD R S v (s+k)):∃u,IsD R S u s:=by
 induction k generalizing v with
 |zero=>exact⟨v,h⟩
 |succ k ih=>
  obtain⟨u,hu,_⟩:=IsD.prev (s:=s+k) h
  exact ih hu
def ZT(n:Int)(R:Int→Int→Prop):Prop:=∀u v,R u v→0≤v∧v<n
theorem W.inb(hw:ZT n R)(hS:∀z∈S,0≤z∧z<n)(h:W R S k v):0≤v∧v<n:=by
 cases h with
 |«at» h=>exact hS _ h
 |go _ a=>exact hw _ _ a
theorem IsD.lt(hw:ZT n R)(hS:∀z∈S,0≤z∧z<n)(h:IsD R S v s):(s:Int)<n:=by
 have key:∃L:List Nat,L.length=s+1∧L.Nodup∧∀u∈L,∃i,i≤s∧IsD R S (u:Int) i:=by
  induction s generalizing v with
  |zero=>
   have:=h.1.inb hw hS
   refine⟨[v.toNat],rfl,by simp,fun u hu=> ⟨0,dm _,?_⟩⟩
   rw[b8.mp hu,gD this.1]
   exact h
  |succ s ih=>
   obtain⟨u,hu,_⟩:=h.prev
   obtain⟨L,l1,l2,l3⟩:=ih hu
   have hb:=h.1.inb hw hS
   refine⟨v.toNat::L,by simp[l1],dO.mpr ⟨fun hm=>?_,l2⟩,fun z hz=>?_⟩
   ·obtain⟨i,hi,q⟩:=l3 _ hm
    rw[gD hb.1] at q
    have:=q.uniq h
    omega
   ·rcases dh.mp hz with rfl|hz
    ·exact⟨s+1,dm _,by rw[gD hb.1];exact h⟩
    ·obtain⟨i,hi,q⟩:=l3 z hz
     exact⟨i,by omega,q⟩
 obtain⟨L,l1,l2,l3⟩:=key
 have:=StT.Bj n.toNat L l2 (fun x hx=>by
  obtain⟨i,_,q⟩:=l3 x hx
  have:=q.1.inb hw hS
  omega)
 omega
structure Fr(n:Int)(R:Int→Int→Prop)(S:List Int)(s:Nat)(fs:List (Option Nat)):Prop where
 len:(fs.length:Int)=n
 eq:∀v:Int,0≤v→v<n→∀d,fs[v.toNat]?=some (some d)↔(d≤s∧IsD R S v d)
structure All(n:Int)(R:Int→Int→Prop)(S:List Int)(fs:List (Option Nat)):Prop where
 len:(fs.length:Int)=n
 eq:∀v:Int,0≤v→v<n→∀d,fs[v.toNat]?=some (some d)↔IsD R S v d
theorem Fr.all_end(h:Fr n R S s fs)(e:∀v,¬IsD R S v s):All n R S fs:=⟨h.len,fun v v0 v1 d=>by
 rw[h.eq v v0 v1 d]
 refine⟨fun z=>z.2,fun z=> ⟨?_,z⟩⟩
 by_cases hd:d≤s
 ·exact hd
 ·obtain⟨k,rfl⟩:∃k,d=s+k:=⟨d-s,by omega⟩
  obtain⟨u,hu⟩:=z.down
  exact absurd hu (e u)⟩
theorem Tz(hl:(fs.length:Int)=n)(h:∀v:Int,0≤v→v<n→∀d,fs[v.toNat]?=some (some d)↔(d=0∧v∈S)):Fr n R S 0 fs:=⟨hl,fun v v0 v1 d=>by
 rw[h v v0 v1 d]
 constructor
 ·rintro⟨rfl,hv⟩
  exact⟨dm _,.at hv,fun j hj=>by omega⟩
 ·rintro⟨hd,w,_⟩
  have:d=0:=by omega
  subst this
  cases w with
  |«at» h=>exact⟨rfl,h⟩⟩
structure Mid(n:Int)(R:Int→Int→Prop)(S:List Int)(s:Nat)(fs:List (Option Nat))(BC ds:List Int):Prop where
 len:(fs.length:Int)=n
 eq:∀v:Int,0≤v→v<n→∀d,fs[v.toNat]?=some (some d)↔((d≤s∧IsD R S v d)∨(d=s+1∧v∈BC))
 sub:∀v∈BC,IsD R S v (s+1)
 dn:∀v∈ds,0≤v∧v<n∧∃d,fs[v.toNat]?=some (some d)
theorem Fr.mid(h:Fr n R S s fs):Mid n R S s fs [] []:=⟨h.len,fun v v0 v1 d=>by
 rw[h.eq v v0 v1 d]
 simp,(fun _ h=>by cases h),(fun _ h=>by cases h)⟩
theorem Mid.miss(m:Mid n R S s fs BC ds)(v0:0≤v)(v1:v<n)(h:fs[v.toNat]?=some (some d)):Mid n R S s fs BC (ds++[v]):=⟨m.len,m.eq,m.sub,fun z hz=>by
 rcases dJ.mp hz with hz|hz
 ·exact m.dn z hz
 ·rw[b8.mp hz];exact⟨v0,v1,d,h⟩⟩
theorem Mid.hit(m:Mid n R S s fs BC ds)(v0:0≤v)(v1:v<n)(hn:fs[v.toNat]?=some none)(hu:IsD R S u s)(a:R u v):Mid n R S s (fs.set v.toNat (some (s+1))) (BC++[v]) (ds++[v]):=by
 have hl:=m.len
 have hlt:v.toNat<fs.length:=by omega
 have iv:IsD R S v (s+1):=by
  refine⟨.go hu.1 a,fun j hj w=>?_⟩
  obtain⟨d,hd,i⟩:=w.least
  have:=(m.eq v v0 v1 d).mpr (.inl ⟨by omega,i⟩)
  rw[hn] at this
  cases this
 have key:∀w:Int,0≤w→w<n→w≠v→(fs.set v.toNat (some (s+1)))[w.toNat]?=fs[w.toNat]?:=fun w w0 w1 h=>dX (by omega)
 refine⟨by rw[iC];exact hl,fun w w0 w1 d=>?_,fun w hw=>?_,fun w hw=>?_⟩
 ·by_cases h:w=v
  ·subst h
   rw[eD hlt]
   constructor
   ·intro z
    have:d=s+1:=by cases z;rfl
    exact .inr ⟨this,by simp⟩
   ·rintro(z|z)
    ·have:=z.2.uniq iv
     omega
    ·rw[z.1]
  ·rw[key w w0 w1 h,m.eq w w0 w1 d]
   have:w∈BC++[v]↔w∈BC:=by simp[h]
   rw[this]
 ·rcases dJ.mp hw with hw|hw
  ·exact m.sub w hw
  ·rw[b8.mp hw];exact iv
 ·rcases dJ.mp hw with hw|hw
  ·obtain⟨w0,w1,d,hd⟩:=m.dn w hw
   refine⟨w0,w1,?_⟩
   by_cases h:w=v
   ·subst h;exact⟨_,eD hlt⟩
   ·exact⟨d,by rw[key w w0 w1 h];exact hd⟩
  ·rw[b8.mp hw];exact⟨v0,v1,_,eD hlt⟩
theorem Mid.done(m:Mid n R S s fs BC ds)(h:∀u v,IsD R S u s→R u v→v∈ds):Fr n R S (s+1) fs∧∀v,v∈BC↔IsD R S v (s+1):=by
 have key:∀v,IsD R S v (s+1)→v∈BC:=fun v i=>by
  obtain⟨u,hu,a⟩:=i.prev
  obtain⟨v0,v1,d,hd⟩:=m.dn v (h u v hu a)
  rcases(m.eq v v0 v1 d).mp hd with z|z
  ·have:=z.2.uniq i
   omega
  ·exact z.2
 refine⟨⟨m.len,fun v v0 v1 d=>?_⟩,fun v=> ⟨m.sub v,key v⟩⟩
 rw[m.eq v v0 v1 d]
 constructor
 ·rintro(z|z)
  ·exact⟨by omega,z.2⟩
  ·rw[z.1];exact⟨dm _,m.sub v z.2⟩
 ·rintro⟨h1,h2⟩
  by_cases hd:d≤s
  ·exact .inl ⟨hd,h2⟩
  ·have:d=s+1:=by omega
   subst this
   exact .inr ⟨rfl,key v h2⟩
theorem Mid.fresh(m:Mid n R S s fs BC ds)(v0:0≤v)(v1:v<n)(hn:fs[v.toNat]?=some none):v∉BC:=fun h=>by
 have:=(m.eq v v0 v1 (s+1)).mpr (.inr ⟨rfl,h⟩)
 rw[hn] at this
 cases this
end GrR
namespace K12
open PySem L2 L2.TL PySem.Spec PyProof.Rows GrR
abbrev FN(rows:List (List Int)):T:=.lst (rows.map fun r=> .lst (r.map T.int))
def Rw(rows:List (List Int))(u v:Int):Prop:=0≤u∧v∈rows.getD u.toNat []
structure RowsN(n:Int)(rows:List (List Int)):Prop where
 len:(rows.length:Int)=n
 n1:n≤200
 hw:ZT n (Rw rows)
theorem KW{rows:List (List Int)}{i:Nat}{v:Int}:v∈rows.getD i []↔Rw rows (i:Int) v:=by
 unfold Rw
 rw[eE]
 exact⟨fun h=> ⟨by omega,h⟩,fun h=>h.2⟩
theorem JN{rows:List (List Int)}{i:Nat}(h:i<rows.length):atI (rows.map fun r=>T.lst (r.map T.int)) (i:Int)=some (.lst ((rows.getD i []).map T.int)):=
 BJ (by rw[b9,di h];simp[iD,h])
theorem Qz{R:Int→Int→Prop}{S:List Int}{v:Int}:IsD R S v 0↔v∈S:=by
 constructor
 ·rintro⟨w,_⟩
  cases w with
  |«at» h=>exact h
 ·intro h
  exact⟨.at h,fun j hj=>by omega⟩
section
variable{P:Program}{w:World}{K:b5}{mg:Str→Option Value}{base:Heap}{f:Addr}{cdv:Value}{A:dH}{outer:List Env}{s:b6}{H:Hp}{E:XK}{O:AH}{Ξ:Value→AH→Prop}{n:Int}{rows:List (List Int)}{S bs:List Int}{l lb:Addr}
def JO:Bf:=fun ts O Φ _=>∃n rows S,ts=[FN rows,.lst (S.map T.int)]∧RowsN n rows∧(∀z∈S,0≤z∧z<n)∧∀fs,All n (Rw rows) S fs→Φ (.lst (fs.map AY)) O
abbrev FW(n:Int)(rows:List (List Int))(S:List Int)(l:Addr)(v3:Option T)(bs:List Int)(k:Nat)(v6 v7 v8:Option T):List (Option T):=[some (FN rows),some (.lst (S.map T.int)),some (.raw (.ref l)),v3,some (.lst (bs.map T.int)),some (.int (k:Int)),v6,v7,v8]
theorem Od{v3 v7:Option T}{k:Nat}{fs:List (Option Nat)}{BC ds:List Int}{u:Int}{v:Nat}{Φ:BQ}{N Bk Ct:Ln}(hll:lb≠l)(n1:n≤200)(hv:(v:Int)<n)(m:Mid n (Rw rows) S k fs BC ds)(nd:BC.Nodup)(hw:ZT n (Rw rows))(hS:∀z∈S,0≤z∧z<n)(hu:IsD (Rw rows) S u k)(a:Rw rows u v)
  (q:∀fs BC,Mid n (Rw rows) S k fs BC (ds++[(v:Int)])→BC.Nodup→N (FW n rows S l v3 bs (k+1) (some (.raw (.ref lb))) v7 (some (.int v))) (FV O l lb fs BC)):
  Ew (zF P w K mg base f cdv A outer s H E O Ξ) (FW n rows S l v3 bs (k+1) (some (.raw (.ref lb))) v7 (some (.int v))) (FV O l lb fs BC) (KU ((KU (ZS 2)).getD 0 (.Pass ⟨0,0,0,0⟩))) {nx:=N,rt:=Φ,bk:=Bk,ct:=Ct}:=by
 have sb:=AS
 have hl:=m.len
 have hlt:v<fs.length:=by omega
 have gl:FV O l lb fs BC l=some (fs.map AY):=by
  show Aj (Aj O l _) lb _ l=_
  rw[AZ hll.symm,AG]
 have gv:atI (fs.map AY) (v:Int)=some (AY fs[v]):=BJ (by rw[b9,di hlt];rfl)
 refine AF (As (Ey DM (DD gl (ev 2) (ev 8) gv)) (fun h=>?_) (fun h=>Ap ?_))
 ·rw[KS] at h
  have hn:fs[(v:Int).toNat]?=some none:=by
   rw[eE,di hlt]
   cases z:fs[v] with
   |none=>rfl
   |some d=>rw[z] at h;cases h
  have hb:BC.length≤n.toNat:=Gr.Iw nd fun z hz=> (m.sub z hz).1.inb hw hS
  refine AD (GW (ET.we (ev 5) (ET.we (ev 2) ⟨l,rfl,ET.we (ev 8) ⟨_,_,v,rfl,gl,by rw[c9];exact JK hlt,?_⟩⟩)))
  have eo:Aj (FV O l lb fs BC) l ((fs.map AY).set v (.int ((k+1:Nat):Int)))=FV O l lb (fs.set v (some (k+1))) BC:=by
   show Aj (Aj (Aj O l _) lb _) l _=_
   rw[DG hll.symm,Bt]
   show _=Aj (Aj O l ((fs.set v (some (k+1))).map AY)) lb _
   rw[lj]
   rfl
  rw[eo]
  refine AF (Ac (Eu (ET.we (ev 6) ⟨lb,rfl,⟨_,AG⟩,ET.we (ev 8) ⟨BC.map T.int,AG,by rw[c9];omega,?_⟩⟩)))
  have m2:=m.hit (v:=(v:Int)) (by omega) hv hn hu a
  rw[eE] at m2
  have:=q _ _ m2 (by
   rw[eY]
   refine⟨nd,by simp,fun x hx y hy z=>?_⟩
   rw[b8.mp hy] at z
   exact m.fresh (by omega) hv hn (z▸hx))
  have e2:Aj (FV O l lb (fs.set v (some (k+1))) BC) lb (BC.map T.int++[T.int v])=FV O l lb (fs.set v (some (k+1))) (BC++[(v:Int)]):=by
   show Aj (Aj (Aj O l _) lb _) lb _=Aj (Aj O l _) lb _
   rw[Bt,e8]
   rfl
  rw[e2]
  exact this
 ·rw[KS] at h
  cases z:fs[v] with
  |none=>rw[z] at h;cases h
  |some d=>exact q fs BC (m.miss (by omega) hv (d:=d) (by rw[eE,di hlt,z])) nd
theorem MG{v3 v8:Option T}{k:Nat}{fs:List (Option Nat)}{BC ds:List Int}{u:Nat}{Φ:BQ}{N Bk Ct:Ln}(hll:lb≠l)(hrl:(rows.length:Int)=n)(n1:n≤200)(hu0:(u:Int)<n)(m:Mid n (Rw rows) S k fs BC ds)(nd:BC.Nodup)(hw:ZT n (Rw rows))(hS:∀z∈S,0≤z∧z<n)(hu:IsD (Rw rows) S u k)
  (q:∀v8 fs BC ds',Mid n (Rw rows) S k fs BC ds'→BC.Nodup→(∀v∈ds,v∈ds')→(∀v,Rw rows u v→v∈ds')→N (FW n rows S l v3 bs (k+1) (some (.raw (.ref lb))) (some (.int u)) v8) (FV O l lb fs BC)):
  Ew (zF P w K mg base f cdv A outer s H E O Ξ) (FW n rows S l v3 bs (k+1) (some (.raw (.ref lb))) (some (.int u)) v8) (FV O l lb fs BC) (KU (ZS 2)) {nx:=N,rt:=Φ,bk:=Bk,ct:=Ct}:=by
 refine AF (Bc Aq.own rfl (EI.wi (Ag (Cb (ev 0) (ev 7) (JN (by omega)))) ⟨fun j ρ' O'=>∃v8 fs BC ds',ρ'=FW n rows S l v3 bs (k+1) (some (.raw (.ref lb))) (some (.int u)) v8∧O'=FV O l lb fs BC∧Mid n (Rw rows) S k fs BC ds'∧BC.Nodup∧(∀v∈ds,v∈ds')∧∀v∈(rows.getD u []).take j,v∈ds',⟨v8,fs,BC,ds,rfl,rfl,m,nd,fun _ h=>h,fun v h=>by simp at h⟩,?_,?_⟩))
 ·rintro j t _ _ e ⟨v8,fs,BC,ds',rfl,rfl,m,nd,h1,h2⟩
  rw[b9] at e
  cases ec:(rows.getD u [])[j]? with
  |none=>rw[ec] at e;cases e
  |some z=>
   rw[ec] at e
   cases e
   have a:=KW.mp (dj ec)
   have hb:=hw _ _ a
   obtain⟨v,rfl⟩:=dZ hb.1
   refine⟨FW n rows S l v3 bs (k+1) (some (.raw (.ref lb))) (some (.int u)) (some (.int v)),AM 8 CA.nd (by show 8<9;decide),Od hll n1 hb.2 m nd hw hS hu a fun fs' bey' m' nd'=> ⟨_,_,_,_,rfl,rfl,m',nd',fun x hx=>gu _ (h1 x hx),fun x hx=>?_⟩⟩
   rw[gh,ec] at hx
   rcases dJ.mp hx with hx|hx
   ·exact gu _ (h2 x hx)
   ·exact eV _ hx
 ·rintro _ _ ⟨v8,fs,BC,ds',rfl,rfl,m,nd,h1,h2⟩
  rw[c9,fM] at h2
  exact q v8 fs BC ds' m nd h1 fun v a=>h2 v (KW.mpr a)
theorem MH{v3 v6 v7 v8:Option T}{k:Nat}{fs:List (Option Nat)}{Φ:BQ}{N Bk Ct:Ln}(hlO:O l=none)(wn:RowsN n rows)(hS:∀z∈S,0≤z∧z<n)(h:Fr n (Rw rows) S k fs)(hb:∀v,v∈bs↔IsD (Rw rows) S v k)
  (q:∀v6 v7 v8 fs BC,Fr n (Rw rows) S (k+1) fs→(∀v,v∈BC↔IsD (Rw rows) S v (k+1))→N (FW n rows S l v3 BC (k+1) v6 v7 v8) (Aj O l (fs.map AY))):
  Ew (zF P w K mg base f cdv A outer s H E O Ξ) (FW n rows S l v3 bs k v6 v7 v8) (Aj O l (fs.map AY)) (KU (cG 4)) {nx:=N,rt:=Φ,bk:=Bk,ct:=Ct}:=by
 have sb:=AS
 refine AD (GV 5 Kx rfl (ET.we AC (fun H v w Q ok r1 r2 acc=> ⟨_,_,r1.int_inv,r2.int_inv,acc _ H (.int (((k+1:Nat):Int))) _ ?_ (.refl ok) (.int _)⟩)) CA.nd)
 refine AD (AK 6 (Fb (Ba ⟨fb _,fun lb hlb=>?_⟩)) CA.nd)
 have hll:lb≠l:=fun z=>by rw[z,AG] at hlb;cases hlb
 have hlb':O lb=none:=by rw[AZ hll] at hlb;exact hlb
 refine AD (Bc Aq.own rfl (EI.wi (Ag (ev 4)) ⟨fun i ρ' O'=>∃v7 v8 fs BC ds,ρ'=FW n rows S l v3 bs (k+1) (some (.raw (.ref lb))) v7 v8∧O'=FV O l lb fs BC∧Mid n (Rw rows) S k fs BC ds∧BC.Nodup∧∀u∈bs.take i,∀v,Rw rows u v→v∈ds,⟨v7,v8,fs,[],[],rfl,rfl,h.mid,by simp,fun u hu=>by simp at hu⟩,?_,?_⟩))
 ·rintro i t _ _ e ⟨v7,v8,fs,BC,ds,rfl,rfl,m,nd,h1⟩
  rw[b9] at e
  cases ec:bs[i]? with
  |none=>rw[ec] at e;cases e
  |some z=>
   rw[ec] at e
   cases e
   have hz:=(hb z).mp (dj ec)
   have hi:=hz.1.inb wn.hw hS
   obtain⟨u,rfl⟩:=dZ hi.1
   refine⟨FW n rows S l v3 bs (k+1) (some (.raw (.ref lb))) (some (.int u)) v8,AM 7 CA.nd (by show 7<9;decide),MG hll wn.len wn.n1 hi.2 m nd wn.hw hS hz fun v8 fs' bey' ds' m' nd' g1 g2=> ⟨_,_,_,_,ds',rfl,rfl,m',nd',fun x hx v a=>?_⟩⟩
   rw[gh,ec] at hx
   rcases dJ.mp hx with hx|hx
   ·exact g1 v (h1 x hx v a)
   ·have:x=(u:Int):=by simpa using hx
    rw[this] at a
    exact g2 v a
 ·rintro _ _ ⟨v7,v8,fs,BC,ds,rfl,rfl,m,nd,h1⟩
  rw[c9,fM] at h1
  obtain⟨h2,h3⟩:=m.done fun u v hu a=>h1 u ((hb u).mpr hu) v a
  refine DE (p:=lb) (n:=6) (ts:=BC.map T.int) AG hlb' rfl ?_
  rw[show Dg (FV O l lb fs BC) lb=Aj O l (fs.map AY) from Az (by rw[AZ hll];exact hlb')]
  exact AF (AK 4 (ET.we (ev 6) (q _ _ _ fs BC h2 h3)) CA.nd)
theorem RA{fd:dD}(F:Fun K "fars_from" "fars_from" Ht f fd):FnOk P w K mg base (CXe P w) 1 f fd ["nears","starts"] (Bq K JO):=by
 refine AU F CA ?_ ?_
 ·rintro ts O Φ Ξ ⟨n,rows,S,rfl,_⟩
  rfl
 ·rintro cdv A outer s H E O Ξ hr xf _ Φ ⟨n,rows,S,rfl,wn,hS,q⟩
  have sb:=AS
  have n0:=wn.len
  have n1:=wn.n1
  refine AD (Hs (i:=2) (nc:=["near"]) (cap:=[]) (by rfl) CA.nd rfl (BP (AA Ht) Qy (by decide+kernel)) (EI.wi (Ag (ev 0)) ?_))
  refine⟨fun i acc O'=>i≤200∧acc=(e9 i (none:Option Nat)).map AY∧O=O',⟨by omega,rfl,rfl⟩,?_,?_⟩
  ·rintro i t acc _ c e ⟨_,rfl,rfl⟩ hc
   have hi:i<rows.length:=by
    have:=(dt.mp e).1
    simpa using this
   refine⟨[some t],fun X' Oe He is=> ⟨?_,Ik (LI fun X' Oe He is=>?_)⟩⟩
   ·obtain⟨cl,s',H',fp,rfl⟩:=is
    exact AM 0 ZR (by decide)
   ·obtain⟨cl,s',H',fp,rfl⟩:=is
    exact ET.we Dl ⟨O,rfl,hc,by rw[c9,fQ];omega,by omega,by rw[List.replicate_succ',e8];rfl,rfl⟩
  ·rintro acc _ ⟨_,rfl,rfl⟩ l hlO
   rw[c9]
   refine AD (Bc Aq.own rfl (EI.wi (Ag (ev 1)) ⟨fun j ρ' O'=>∃(fs:List (Option Nat)) (v3:Option T),ρ'=[some (FN rows),some (.lst (S.map T.int)),some (.raw (.ref l)),v3,none,none,none,none,none]∧O'=Aj O l (fs.map AY)∧(fs.length:Int)=n∧∀v:Int,0≤v→v<n→∀d,fs[v.toNat]?=some (some d)↔(d=0∧v∈S.take j),⟨_,none,rfl,rfl,by rw[fQ];omega,fun v v0 v1 d=>?_⟩,?_,?_⟩))
   ·rw[gw]
    simp
   ·rintro j t _ _ e ⟨fs,v3,rfl,rfl,hl,hf⟩
    rw[b9] at e
    cases ec:S[j]? with
    |none=>rw[ec] at e;cases e
    |some z=>
     rw[ec] at e
     cases e
     have hz:=hS z (dj ec)
     obtain⟨v,rfl⟩:=dZ hz.1
     have hlt:v<fs.length:=by omega
     refine⟨[some (FN rows),some (.lst (S.map T.int)),some (.raw (.ref l)),some (.int v),none,none,none,none,none],AM 3 CA.nd (by show 3<9;decide),?_⟩
     refine AF (GW (ET.we AC (ET.we (ev 2) ⟨l,rfl,ET.we (ev 3) ⟨_,_,v,rfl,AG,by rw[c9];exact JK hlt,?_⟩⟩)))
     refine⟨fs.set v (some 0),_,rfl,by rw[Bt,lj];rfl,by rw[iC];exact hl,fun y y0 y1 d=>?_⟩
     rw[gh,ec]
     by_cases hy:y=(v:Int)
     ·subst hy
      rw[eE,eD hlt]
      simp[eq_comm]
     ·rw[dX (by omega),hf y y0 y1 d]
      simp[hy]
   ·rintro _ _ ⟨fs,v3,rfl,rfl,hl,hf⟩
    rw[c9,fM] at hf
    have fr:Fr n (Rw rows) S 0 fs:=Tz hl hf
    refine AD (AK 4 (ET.we (ev 1) ?_) CA.nd)
    refine AD (AK 5 (ET.we AC ?_) CA.nd)
    refine AD (Qe Aq.own (fun m ρ' O'=>∃(k:Nat) (bs:List Int) (fs:List (Option Nat)) (v3 v6 v7 v8:Option T),ρ'=FW n rows S l v3 bs k v6 v7 v8∧O'=Aj O l (fs.map AY)∧Fr n (Rw rows) S k fs∧(∀v,v∈bs↔IsD (Rw rows) S v k)∧m=n.toNat+1-k) ⟨_,0,S,fs,v3,none,none,none,rfl,rfl,fr,fun v=>Qz.symm,rfl⟩ ?_)
    rintro m _ _ ⟨k,bs,fs,v3,v6,v7,v8,rfl,rfl,fr,hb,rfl⟩
    refine(show EB (zF P w K mg base f cdv A outer s H E O Ξ) (FW n rows S l v3 bs k v6 v7 v8) (Aj O l (fs.map AY)) _ (!(bs.map T.int).isEmpty) from KH (t:=T.lst (bs.map T.int)) (ev 4) rfl) _ ?_
    cases bs with
    |nil=>
     refine Pd ?_
     have al:=fr.all_end fun v hv=>by
      have:=(hb v).mpr hv
      cases this
     refine DE (p:=l) (n:=2) (ts:=fs.map AY) AG hlO rfl ?_
     rw[Az hlO]
     exact AF (AO (ET.we (ev 2) (q fs al)))
    |cons b bs'=>
     refine LI (MH hlO wn hS fr hb fun v6 v7 v8 fs' BC fr' hb'=> ⟨_,?_,k+1,BC,fs',_,v6,v7,v8,rfl,rfl,fr',hb',rfl⟩)
     have:=((hb b).mp (by simp)).lt wn.hw hS
     omega
end
end K12
namespace L2.TL
open PySem PySem.Spec PyProof.Rows
section
variable{Z:Zx}{ρ:List (Option T)}{O:AH}{e:Expr}{p pos:Pos}{ns:List Int}{i:Int}
theorem NT(hi:GP ns i)(m:Z.X.mg "min" =none)(hc:Z.X.calm=true)(h:ET Z ρ O e (.lst (ns.map T.int)))(hg:Gl Z.X "min":=by rfl)(he:df [e] Z.X.env=(false,eval e Z.X.env)::df [] Z.X.env:=by rfl):ET Z ρ O (.Call (.Name "min" p) [e] [] pos) (.int i):=
 BN (OR hc) m Wz (AQ h AB he) (fun Φ q H vs Q ok r k=>by
  obtain⟨v,rfl,r1⟩:=r.one_inv
  obtain⟨a,xs,rfl,h1,o1,r1⟩:=r1.lst_inv
  cases Reps.ints r1
  refine⟨a,ns,rfl,.inl (.inl (.inl h1)),jF hi.1,fun n hn=>?_⟩
  have:n=i:=jX (hn.2 i hi.1) (hi.2 n hn.1)
  rw[this]
  exact k _ H _ O q (.refl ok) (.int _)) hg (by decide) (by decide) he
theorem NU(hi:Bp ns i)(m:Z.X.mg "max" =none)(hc:Z.X.calm=true)(h:ET Z ρ O e (.lst (ns.map T.int)))(hg:Gl Z.X "max":=by rfl)(he:df [e] Z.X.env=(false,eval e Z.X.env)::df [] Z.X.env:=by rfl):ET Z ρ O (.Call (.Name "max" p) [e] [] pos) (.int i):=
 BN (OS hc) m Wy (AQ h AB he) (fun Φ q H vs Q ok r k=>by
  obtain⟨v,rfl,r1⟩:=r.one_inv
  obtain⟨a,xs,rfl,h1,o1,r1⟩:=r1.lst_inv
  cases Reps.ints r1
  refine⟨a,ns,rfl,.inl (.inl (.inl h1)),jF hi.1,fun n hn=>?_⟩
  have:n=i:=jX (hi.2 n hn.1) (hn.2 i hi.1)
  rw[this]
  exact k _ H _ O q (.refl ok) (.int _)) hg (by decide) (by decide) he
theorem KY:∀{ns:List Int},ns≠[]→∃i,GP ns i
 | [],h=>absurd rfl h
 | [a],_=> ⟨a,by simp,fun n hn=>by rw[b8.mp hn];exact gE _⟩
 |a::b::ns,_=>by
  obtain⟨i,h1,h2⟩:=KY (ns:=b::ns) (by simp)
  refine⟨min a i,?_,fun n hn=>?_⟩
  ·rcases jG a i with h|h
   ·rw[Int.min_eq_left h];simp
   ·rw[Int.min_eq_right h];exact dw _ h1
  ·rcases dh.mp hn with rfl|hn
   ·exact Int.min_le_left ..
   ·exact hZ (Int.min_le_right ..) (h2 n hn)
theorem Fj:∀{ns:List Int},ns≠[]→∃i,Bp ns i
 | [],h=>absurd rfl h
 | [a],_=> ⟨a,by simp,fun n hn=>by rw[b8.mp hn];exact gE _⟩
 |a::b::ns,_=>by
  obtain⟨i,h1,h2⟩:=Fj (ns:=b::ns) (by simp)
  refine⟨max a i,?_,fun n hn=>?_⟩
  ·rcases jG a i with h|h
   ·rw[Int.max_eq_right h];exact dw _ h1
   ·rw[Int.max_eq_left h];simp
  ·rcases dh.mp hn with rfl|hn
   ·exact Int.le_max_left ..
   ·exact hZ (h2 n hn) (Int.le_max_right ..)
end
end L2.TL
namespace K12
open PySem L2 L2.TL PySem.Spec PyProof.Rows Gr
section
variable{P:Program}{w:World}{K:b5}{mg:Str→Option Value}{base:Heap}{CN:Addr}
def NV(CN:Addr):Bf:=fun ts O Φ Ξ=>∃t a b,ts=[t,.int a,.int b]∧Ae t=false∧(CF t a b=true→Φ .non O)∧(CF t a b=false→Ξ (.ref CN) O)
theorem ZU:FnScope ["thing","least","most"] ["thing","least","most"] (AA JH):=⟨rfl,rfl,rfl,by decide+kernel,rfl,by decide+kernel,by decide+kernel⟩
theorem XU{f:Addr}{fd:dD}(F:Fun K "need_number" "need_number" JH f fd)(mN:mg "NoNumber" =some (.ref CN))(xN:gk K CN HH "ValueError.__new__" =true)(G:FnT P w K mg base "is_whole" 1 ["thing","least","most"] JF):FnOk P w K mg base (CXe P w) 2 f fd ["thing","least","most"] (Bq K (NV CN)):=by
 refine Ff F ZU ?_ ?_
 ·rintro ts O Φ Ξ ⟨t,a,b,rfl,_⟩
  rfl
 ·rintro cdv A outer s H E O Ξ hr xo _ Φ ⟨t,a,b,rfl,ht,q1,q2⟩
  refine AF (As (Ep (Hm (Aa G hr xo.f (AE (ev 0) (AE (ev 1) (AE (ev 2) AB))) ⟨t,a,b,rfl,ht,rfl⟩))) (fun h=>AF (DX xo rfl mN xN (q2 ?_))) (fun h=>Ap (q1 ?_)))
  ·cases z:CF t a b with
   |true=>rw[z] at h;cases h
   |false=>rfl
  ·cases z:CF t a b with
   |true=>rfl
   |false=>rw[z] at h;cases h
def Am(n:Int)(ps:List (Int×Int)):List Int:=(dE n.toNat).map fun i=> ((AV ps i).length:Int)
def Kv(cs:List Int):T:=if cs.all (fun c=>decide (c=cs.headD 0))=true then .int (cs.headD 0) else .non
def MI:Bf:=Ij fun ts r=>∃n ps,ts=[Au n ps]∧WebN n ps∧1≤n∧r=Kv (Am n ps)
theorem RB:FnScope ["web","counts"] ["web"] (AA NS):=⟨rfl,rfl,rfl,by decide+kernel,rfl,by decide+kernel,by decide+kernel⟩
theorem ZV:(Ab ["near"] []).Nodup:=by decide+kernel
theorem XW{cs:List Int}{a b:Int}(ha:GP cs a)(hb:Bp cs b):cs.all (fun c=>decide (c=cs.headD 0))=decide (a=b):=by
 have hne:cs≠[]:=fun z=>by rw[z] at ha;cases ha.1
 have hh:cs.headD 0∈cs:=by
  cases cs with
  |nil=>exact absurd rfl hne
  |cons x xs=>simp
 by_cases h:a=b
 ·subst h
  rw[decide_eq_true rfl,gx]
  intro c hc
  have h1:=ha.2 c hc
  have h2:=hb.2 c hc
  have h3:=ha.2 _ hh
  have h4:=hb.2 _ hh
  exact decide_eq_true (by omega)
 ·rw[decide_eq_false h]
  cases z:cs.all (fun c=>decide (c=cs.headD 0)) with
  |false=>rfl
  |true=>
   rw[gx] at z
   have h1:=of_decide_eq_true (z a ha.1)
   have h2:=of_decide_eq_true (z b hb.1)
   omega
theorem UA{f:Addr}{fd:dD}(F:Fun K "even_by" "even_by" NS f fd)(Tx:Txt mg)(G:FnT P w K mg base "nears_of" 1 ["web"] Bu):FnOk P w K mg base (CXe P w) 2 f fd ["web"] (Bq K MI):=by
 refine AU F RB ?_ ?_
 ·rintro ts O Φ Ξ ⟨r,⟨n,ps,rfl,_⟩,_⟩
  rfl
 ·rintro cdv A outer s H E O Ξ hr xf _ Φ ⟨_,⟨n,ps,rfl,wn,n0,rfl⟩,q⟩
  have sb:=AS
  have n1:=wn.n1
  have hlen:(Am n ps).length=n.toNat:=by simp[Am]
  have hne:Am n ps≠[]:=fun z=>by rw[z] at hlen;simp at hlen;omega
  obtain⟨a,ha⟩:=KY hne
  obtain⟨b,hb⟩:=Fj hne
  have e0:atI ((Am n ps).map T.int) 0=some (.int ((Am n ps).headD 0)):=by
   cases z:Am n ps with
   |nil=>exact absurd z hne
   |cons x xs=>
    show atI _ ((0:Nat):Int)=_
    exact BJ rfl
  refine AD (EG (i:=1) (nc:=["near"]) (cap:=[]) (by rfl) RB.nd rfl (BP (AA NS) ["web","counts"] (by decide+kernel)) (EI.wi (Ag (Aa G hr xf (AE (ev 0) AB) ⟨n,ps,rfl,wn.n0,wn.n1,wn.hw,wn.hl,rfl⟩)) (Gd (dE n.toNat) (fun i=>T.lst ((AV ps i).map T.int)) (fun i=>T.int (((AV ps i).map T.int).length:Int)) (by simp;omega) (fun x hx=> ⟨[some (.lst ((AV ps x).map T.int))],fun X' Oe He is O'=>?_⟩) ?_)))
  ·obtain⟨cl,s',H',fp,rfl⟩:=is
   exact⟨AM 0 ZV (by decide),TZ Tx.nLen (ev 0)⟩
  ·have e1:(dE n.toNat).map (fun i=>T.int (((AV ps i).map T.int).length:Int))=(Am n ps).map T.int:=by simp[Am]
   rw[e1]
   refine AF (AO (ET.we (GT (Dn (NT ha Tx.nMin rfl (ev 1)) (NU hb Tx.nMax rfl (ev 1))) (fun _=>Cb (ev 1) AC e0) (fun _=>Dl)) ?_))
   have:(if decide (a=b)=true then T.int ((Am n ps).headD 0) else T.non)=Kv (Am n ps):=by
    unfold Kv
    rw[XW ha hb]
   rw[this]
   exact q
end
end K12
namespace L2.TL
open PySem PySem.Spec PyProof.Rows
section
variable{Z:Zx}{ρ:List (Option T)}{O:AH}{a:Expr}{t:T}{us:List T}{K:b5}{p1 pos:Pos}
theorem EN{j:Nat}(hr:Ae t=false)(ha:ET Z ρ O a t):EB Z ρ O (.Compare a [.IsNot] [.Constant .none j p1] pos) (!FM t):=BH Mn (Ah _) (fun Φ p H v w Q ok r1 r2 q=>by
 refine⟨r2.non_inv,?_⟩
 have e:decide (v=V.non)=FM t:=by
  cases r1<;>first|rfl|cases hr
 rw[e]
 exact q _ H _ O p (.refl ok) (.bl _)) ha Dl
end
def Ad(ns:List Int):T:=.tup (ns.map T.int)
theorem DN:∀{ns ms:List Int},jO (dTs (ns.map T.int)) (dTs (ms.map T.int))=decide (ns=ms)
 | [],[]=>rfl
 | [],_::_=>rfl
 |_::_,[]=>rfl
 |n::ns,m::ms=>by
  show((n==m)&&jO (dTs (ns.map T.int)) (dTs (ms.map T.int)))=_
  rw[DN,gG]
  simp
theorem Cf:∀{ns:List Int},rdBs (ns.map T.int)=true
 | []=>rfl
 |n::ns=>by
  show(Cd (.int n)&&rdBs (ns.map T.int))=true
  rw[Cf,Cd];rfl
theorem EO{ns:List Int}:Cd (Ad ns)=true:=by unfold Ad;rw[Cd];exact Cf
theorem EI.cast{Z:Zx}{ρ:List (Option T)}{O:AH}{tg iter:Expr}{ts us:List T}(h:EI Z ρ O tg iter ts)(e:ts=us):EI Z ρ O tg iter us:=e▸h
theorem Cg:∀{ns:List Int},i7 (dTs (ns.map T.int))≤1
 | []=>by simp[dTs,i7]
 |n::ns=>by
  have:=Cg (ns:=ns)
  simp only[dM,dTs,i7,dT,fP.depth]
  omega
theorem FO{ns:List Int}:(dT (Ad ns)).depth≤100:=by
 have:=Cg (ns:=ns)
 simp only[Ad,dT,fP.depth]
 omega
end L2.TL
namespace K12
open PySem L2 L2.TL PySem.Spec PyProof.Rows
section
variable{P:Program}{w:World}{K:b5}{mg:Str→Option Value}{base:Heap}{CP:Addr}
end
section
variable{P:Program}{w:World}{K:b5}{mg:Str→Option Value}{base:Heap}{CP CL:Addr}
structure WebA(n:Int)(ps:List (Int×Int)):Prop where
 n0:1≤n
 n1:n≤16
 hp:∀p∈ps,KP n p
 hl:ps.length≤200
theorem MJ{t:T}{n:Int}(h:CF t 0 (n-1)=true):∃i:Int,t=.int i∧0≤i∧i<n:=by
 obtain⟨i,rfl⟩:=JG h
 have h:(decide (0≤i)&&decide (i≤n-1))=true:=h
 simp at h
 exact⟨i,rfl,h.1,by omega⟩
end
end K12
namespace L2.TL
open PySem PySem.Spec PyProof.Rows
section
variable{Z:Zx}{ρ:List (Option T)}{O:AH}{e elt tg iter:Expr}{ifs:List Expr}{csc:Scope}{nc:List Str}{cap:List (Str×Nat)}{Φ:BQ}{pos:Pos}
theorem XX(hc:Z.X.calm=true)(ok:LcOk Z.X csc nc cap)(h:WI Z ρ O tg iter (SU Z ρ elt tg ifs csc nc cap fun acc O'=>∀a,O' a=none→Φ (.raw (.ref a)) (Aj O' a acc)))
  (hs:∀x,fw iter Z.X.env x=pure x:=by intro _;rfl):WE Z ρ O (.ListComp elt [⟨tg,iter,ifs,0⟩] csc pos) Φ:=
 PE.weak (Ux hc ok h TV NK TX hs) fun σ H Q q=>Lp q.1 h fun acc O' p H' p1 n f nb=>q.2 _ _ _ _ (p1 p n) f (.raw _)
theorem ER(h:WE Z ρ O e fun t O'=>∃a ts,t=.raw (.ref a)∧O a=none∧O'=Aj O a ts∧Φ (.lst ts) O):WE Z ρ O e Φ:=
 PE.weak h fun σ H Q q=> ⟨q.1,fun v H' t O' p f r=>by
  obtain⟨a,ts,rfl,na,rfl,p⟩:=p
  cases r.raw_inv
  refine q.2 _ H' _ O p ⟨fun b o e1 e2=>?_,fun b us e1=> ⟨us,e1⟩,?_⟩ ?_
  ·have:=f.kp.trans (CW (a:=a)) b o e1 e2
   rw[Az na] at this;exact this
  ·have:=f.ok.drop (a:=a)
   rw[Az na] at this;exact this
  ·have:=f.ok.rep (a:=a) AG
   rw[Az na] at this
   exact this⟩
end
theorem Hu{i:Int}:∀{ns:List Int},((dTs (ns.map T.int)).any fun y=>gX y (dT (.int i)))=decide (i∈ns)
 | []=>rfl
 |n::ns=>by
  show((n==i)|| (dTs (ns.map T.int)).any fun y=>gX y (dT (.int i)))=_
  rw[Hu,gG]
  simp only[Bool.or_eq_true,decide_eq_true_eq,dh,beq_iff_eq]
  constructor
  ·rintro(h|h)
   ·exact .inl h.symm
   ·exact .inr h
  ·rintro(h|h)
   ·exact .inl h.symm
   ·exact .inr h
end L2.TL
namespace K12
open PySem L2 L2.TL PySem.Spec PyProof.Rows Gr
theorem RC{fs:List (Option Nat)}:EK (fs.map AY)=(dE fs.length).map fun j=> .tup [.int (j:Int),AY (fs.getD j none)]:=by
 unfold EK
 apply fo
 intro m
 rw[b9,b9,jS,b9]
 by_cases hm:m<fs.length
 ·rw[di hm,fO hm]
  simp[iD,hm]
 ·rw[e7 (by omega),e7 (by simp;omega)]
  rfl
def Af(fs:List (Option Nat))(k:Nat):List Int:=((dE fs.length).filter fun j=>decide (fs.getD j none=some k)).map fun(j:Nat)=> (j:Int)
def An(fs:List (Option Nat)):List Int:=(fs.filter jm).map fun x=> ((x.getD 0:Nat):Int)
theorem DO:∀{fs:List (Option Nat)},(fs.filter jm).map AY=(An fs).map T.int
 | []=>rfl
 |none::fs=>DO (fs:=fs)
 |some d::fs=>by
  show T.int (d:Int)::(fs.filter jm).map AY=T.int (d:Int)::(An fs).map T.int
  rw[DO]
def BE(fs:List (Option Nat))(d:Int):List (List Int):=(dE (d+1).toNat).map fun k=>Af fs k
theorem Ci{fs:List (Option Nat)}{z:Int}:z∈An fs↔∃(i d:Nat),fs[i]?=some (some d)∧z=d:=by
 unfold An
 rw[dy]
 constructor
 ·rintro⟨x,hx,rfl⟩
  obtain⟨h1,h2⟩:=dR.mp hx
  cases x with
  |none=>cases h2
  |some d=>
   obtain⟨i,hi⟩:=eJ h1
   exact⟨i,d,hi,rfl⟩
 ·rintro⟨i,d,h,rfl⟩
  exact⟨some d,dR.mpr ⟨dj h,rfl⟩,rfl⟩
theorem RD{n:Int}{ps:List (Int×Int)}{S:List Int}{fs:List (Option Nat)}(al:All n ps S fs)(hS:∀z∈S,0≤z∧z<n)(h0:S≠[]):An fs≠[]:=by
 cases S with
 |nil=>exact absurd rfl h0
 |cons s S=>
  have hs:=hS s (by simp)
  have:=(al.eq s hs.1 hs.2 0).mpr (Gj.mpr (by simp))
  intro z
  have m:((0:Nat):Int)∈An fs:=Ci.mpr ⟨_,_,this,rfl⟩
  rw[z] at m
  cases m
theorem MK{n:Int}{ps:List (Int×Int)}{S:List Int}{fs:List (Option Nat)}(wn:WebN n ps)(al:All n ps S fs)(hS:∀z∈S,0≤z∧z<n){z:Int}(h:z∈An fs):0≤z∧z<n:=by
 obtain⟨i,d,e,rfl⟩:=Ci.mp h
 have hl:=al.len
 have hi:=(dt.mp e).1
 have:=((al.eq i (by omega) (by omega) d).mp (by rw[eE];exact e)).lt wn.hw hS
 omega
theorem UB{x:Option Nat}{k:Nat}:gX (dT (AY x)) (dT (.int (k:Int)))=decide (x=some k):=by
 cases x with
 |none=>rfl
 |some d=>
  show((d:Int)==(k:Int))=_
  rw[gG]
  simp
  omega
theorem XY{x:Option Nat}:Cd (AY x)=true:=by cases x<;>rw[AY,Cd]
theorem Of{x:Option Nat}:(dT (AY x)).depth≤100:=by cases x<;> (show 0≤100;decide)
theorem WebA.wn{n:Int}{ps:List (Int×Int)}(a:WebA n ps):WebN n ps:=⟨by have:=a.n0;omega,by have:=a.n1;omega,a.hp,a.hl⟩
section
variable{P:Program}{w:World}{K:b5}{mg:Str→Option Value}{base:Heap}{CP CL:Addr}
def RE(CP CL:Addr):Bf:=fun ts O Φ Ξ=>∃n ps t u,ts=[Au n ps,t,u]∧Ae t=false∧Ae u=false∧
 (∀i j:Int,t=.int i→u=.int j→0≤i→i<n→0≤j→j<n→(NR ps i j=true→Φ .non O)∧(NR ps i j=false→Ξ (.ref CL) O))∧(CF t 0 (n-1)=false∨CF u 0 (n-1)=false→Ξ (.ref CP) O)
theorem ZW:FnScope ["web","a","b"] ["web","a","b"] (AA XM):=⟨rfl,rfl,rfl,by decide+kernel,rfl,by decide+kernel,by decide+kernel⟩
theorem XZ{f:Addr}{fd:dD}(F:Fun K "need_tie" "need_tie" XM f fd)(mL:mg "NoLine" =some (.ref CL))(xL:gk K CL HH "ValueError.__new__" =true)(Gn:FnT P w K mg base "need_place" 3 ["web","thing"] (Ez CP))(G:FnT P w K mg base "are_tied" 1 ["web","a","b"] Qu):FnOk P w K mg base (CXe P w) 4 f fd ["web","a","b"] (Bq K (RE CP CL)):=by
 refine Ff F ZW ?_ ?_
 ·rintro ts O Φ Ξ ⟨n,ps,t,u,rfl,_⟩
  rfl
 ·rintro cdv A outer s H E O Ξ hr xo _ Φ ⟨n,ps,t,u,rfl,ht,hu,q1,q2⟩
  have xf:=xo.f
  refine AD (Ac (AJ Gn hr xf (EA.wa (AE (ev 0) (AE (ev 1) AB)) ⟨n,_,t,rfl,ht,fun h=>?_,fun h=>q2 (.inl h)⟩)))
  refine AD (Ac (AJ Gn hr xf (EA.wa (AE (ev 0) (AE (ev 2) AB)) ⟨n,_,u,rfl,hu,fun h2=>?_,fun h=>q2 (.inr h)⟩)))
  obtain⟨i,rfl,i0,i1⟩:=MJ h
  obtain⟨j,rfl,j0,j1⟩:=MJ h2
  obtain⟨q3,q4⟩:=q1 i j rfl rfl i0 i1 j0 j1
  refine AF (As (Ep (Hm (Aa G (hr.mono (by decide)) xf (AE (ev 0) (AE (ev 1) (AE (ev 2) AB))) ⟨n,ps,i,j,rfl,rfl⟩))) (fun h=>AF (DX xo rfl mL xL (q4 ?_))) (fun h=>Ap (q3 ?_)))
  ·cases z:NR ps i j with
   |true=>rw[z] at h;cases h
   |false=>rfl
  ·cases z:NR ps i j with
   |true=>rfl
   |false=>rw[z] at h;cases h
def NW:Bf:=Ij fun ts r=>∃fs k,ts=[.lst (fs.map AY),.int ((k:Nat):Int)]∧fs.length≤200∧r=Ad (Af fs k)
theorem UC:FnScope ["fars","far"] ["fars","far"] (AA Gh):=⟨rfl,rfl,rfl,by decide+kernel,rfl,by decide+kernel,by decide+kernel⟩
theorem ZX:(Ab ["place","found"] [(("far" :Str),1)]).Nodup:=by decide+kernel
theorem Og{f:Addr}{fd:dD}(F:Fun K "places_so_far" "places_so_far" Gh f fd)(Tx:Txt mg):FnOk P w K mg base (CXe P w) 1 f fd ["fars","far"] (Bq K NW):=by
 refine AU F UC ?_ ?_
 ·rintro ts O Φ Ξ ⟨r,⟨fs,k,rfl,_⟩,_⟩
  rfl
 ·rintro cdv A outer s H E O Ξ hr xf _ Φ ⟨_,⟨fs,k,rfl,hl,rfl⟩,q⟩
  have sb:=AS
  have hu:(A.deeper (je "places_so_far" (AA Gh) s.heap.objs.size f cdv)).units+102<cLine:=by have:=hr.un;omega
  refine AF (AO (ET.we (t:=Ad (Af fs k)) (ET.cast (GX Tx.nTuple (DI ["place","found"] [("far",1)] (dE fs.length) (fun j=> .tup [.int (j:Int),AY (fs.getD j none)]) (fun j=> .int (j:Int)) (fun j=>decide (fs.getD j none=some k)) rfl (BP (AA Gh) ["fars","far"] (by decide+kernel)) (EI.cast (NO Tx.nEnum (ev 0)) RC) (by rw[eP];omega) fun x hx=> ⟨[some (.int (x:Int)),some (AY (fs.getD x none)),some (.int (k:Int))],fun X' Oe He is O'=>?_⟩)) ?_) q))
  ·obtain⟨cl,s',H',fp,rfl⟩:=is
   refine⟨Cc 0 1 rfl ZX (by decide) (by decide),EB.cast (BH (Lv (kI hu)) (Ah _) (Lw (u:=.int (k:Int)) XY (by rw[Cd]) Of) (ev 1) (ev 2)) UB,fun _=>ev 0⟩
  ·unfold Ad Af
   rw[eK]
   rfl
def ML:Bf:=fun ts O Φ _=>∃n ps S,ts=[Au n ps,.lst (S.map T.int)]∧WebN n ps∧(∀z∈S,0≤z∧z<n)∧S≠[]∧∀fs d,All n ps S fs→Bp (An fs) d→∀a,O a=none→Φ (.raw (.ref a)) (Aj O a ((BE fs d).map Ad))
def RF:List Str:=["web","starts","fars","deepest"]
theorem MM:FnScope RF ["web","starts"] (AA DJ):=⟨rfl,rfl,rfl,by decide+kernel,rfl,by decide+kernel,by decide+kernel⟩
theorem Xa:(Ab ["far"] []).Nodup:=by decide+kernel
theorem Xb:(Ab ["far"] [(("fars" :Str),2)]).Nodup:=by decide+kernel
theorem UD{f:Addr}{fd:dD}(F:Fun K "layers_from" "layers_from" DJ f fd)(Tx:Txt mg)(G:FnT P w K mg base "nears_of" 1 ["web"] Bu)(Gf:FnT P w K mg base "fars_from" 1 ["nears","starts"] MF)(Gp:FnT P w K mg base "places_so_far" 1 ["fars","far"] NW):FnOk P w K mg base (CXe P w) 2 f fd ["web","starts"] (Bq K ML):=by
 refine AU F MM ?_ ?_
 ·rintro ts O Φ Ξ ⟨n,ps,S,rfl,_⟩
  rfl
 ·rintro cdv A outer s H E O Ξ hr xf _ Φ ⟨n,ps,S,rfl,wn,hS,hne,q⟩
  have sb:=AS
  have n1:=wn.n1
  refine AD (AK 2 (AJ Gf hr xf (EA.wa (AE (Aa G hr xf (AE (ev 0) AB) ⟨n,ps,rfl,wn.n0,wn.n1,wn.hw,wn.hl,rfl⟩) (AE (ev 1) AB)) ⟨n,ps,S,rfl,wn,hS,fun fs al=>?_⟩)) MM.nd)
  have hlf:=al.len
  obtain⟨d,hd⟩:=Fj (RD al hS hne)
  have hdi:=MK wn al hS hd.1
  refine AD (AK 3 (ET.we (t:=.int d) (NU hd Tx.nMax rfl (ET.cast (DI ["far"] [] fs AY AY jm rfl (BP (AA DJ) RF (by decide+kernel)) (Ag (ev 2)) (by omega) fun x hx=> ⟨[some (AY x)],fun X' Oe He is O'=>?_⟩) (by rw[DO]))) ?_) MM.nd)
  ·obtain⟨cl,s',H',fp,rfl⟩:=is
   refine⟨AM 0 Xa (by decide),EB.cast (EN DM (ev 0)) ?_,fun _=>ev 0⟩
   cases x<;>rfl
  ·refine AF (AO (XX (nc:=["far"]) (cap:=[("fars",2)]) rfl (BP (AA DJ) RF (by decide+kernel)) (EI.wi (ts:=(dE (d+1).toNat).map fun k=>T.int ((k:Nat):Int)) (EI.cast (Ak Tx.nRange (BM (ev 3) AC) ⟨by omega,by omega⟩) ?_) (Gd (dE (d+1).toNat) (fun k=>T.int ((k:Nat):Int)) (fun k=>Ad (Af fs k)) (by rw[eP];omega) (fun x hx=> ⟨[some (.int (x:Int)),some (.lst (fs.map AY))],fun X' Oe He is O'=>?_⟩) ?_))))
   ·unfold FU
    simp
   ·obtain⟨cl,s',H',fp,rfl⟩:=is
    exact⟨AM 0 Xb (by decide),Aa Gp (hr.mono (by decide)) BW (AE (ev 1) (AE (ev 0) AB)) ⟨fs,x,rfl,by omega,rfl⟩⟩
   ·intro a ha
    have:=q fs d al hd a ha
    unfold BE at this
    rw[eK] at this
    exact this
def ZY(n:Int)(ps:List (Int×Int))(S:List Int)(O:AH)(Φ:BQ):Prop:=∀fs d,All n ps S fs→Bp (An fs) d→∀a,O a=none→Φ (.raw (.ref a)) (Aj O a ((BE fs d).map Ad))
def JP(CP:Addr):Bf:=fun ts O Φ Ξ=>∃n ps t,ts=[Au n ps,t]∧Ae t=false∧WebN n ps∧(∀i:Int,t=.int i→0≤i→i<n→ZY n ps [i] O Φ)∧(CF t 0 (n-1)=false→Ξ (.ref CP) O)
theorem UE:FnScope ["web","place"] ["web","place"] (AA MC):=⟨rfl,rfl,rfl,by decide+kernel,rfl,by decide+kernel,by decide+kernel⟩
theorem Oh{f:Addr}{fd:dD}(F:Fun K "layers_of" "layers_of" MC f fd)(Gn:FnT P w K mg base "need_place" 3 ["web","thing"] (Ez CP))(G:FnT P w K mg base "layers_from" 2 ["web","starts"] ML):FnOk P w K mg base (CXe P w) 4 f fd ["web","place"] (Bq K (JP CP)):=by
 refine AU F UE ?_ ?_
 ·rintro ts O Φ Ξ ⟨n,ps,t,rfl,_⟩
  rfl
 ·rintro cdv A outer s H E O Ξ hr xf _ Φ ⟨n,ps,t,rfl,ht,wn,q1,q2⟩
  refine AD (Ac (AJ Gn hr xf (EA.wa (AE (ev 0) (AE (ev 1) AB)) ⟨n,_,t,rfl,ht,fun h=>?_,fun h=>q2 h⟩)))
  obtain⟨i,rfl,i0,i1⟩:=MJ h
  refine AF (AO (AJ G (hr.mono (by decide)) xf (EA.wa (AE (ev 0) (AE (Bb (ts:=[i].map T.int) (AE (ev 1) AB) (by show 1≤sizeLine;decide)) AB)) ⟨n,ps,[i],rfl,wn,fun z hz=>?_,by simp,q1 i rfl i0 i1⟩)))
  rw[b8.mp hz];exact⟨i0,i1⟩
def Gk(CP CL:Addr):Bf:=fun ts O Φ Ξ=>∃n ps t u,ts=[Au n ps,t,u]∧Ae t=false∧Ae u=false∧WebN n ps∧
 (∀i j:Int,t=.int i→u=.int j→0≤i→i<n→0≤j→j<n→(NR ps i j=true→ZY n ps [i,j] O Φ)∧(NR ps i j=false→Ξ (.ref CL) O))∧(CF t 0 (n-1)=false∨CF u 0 (n-1)=false→Ξ (.ref CP) O)
theorem RG:FnScope ["web","a","b"] ["web","a","b"] (AA JB):=⟨rfl,rfl,rfl,by decide+kernel,rfl,by decide+kernel,by decide+kernel⟩
theorem MN{f:Addr}{fd:dD}(F:Fun K "layers_by_tie" "layers_by_tie" JB f fd)(Gn:FnT P w K mg base "need_tie" 4 ["web","a","b"] (RE CP CL))(G:FnT P w K mg base "layers_from" 2 ["web","starts"] ML):FnOk P w K mg base (CXe P w) 5 f fd ["web","a","b"] (Bq K (Gk CP CL)):=by
 refine AU F RG ?_ ?_
 ·rintro ts O Φ Ξ ⟨n,ps,t,u,rfl,_⟩
  rfl
 ·rintro cdv A outer s H E O Ξ hr xf _ Φ ⟨n,ps,t,u,rfl,ht,hu,wn,q1,q2⟩
  refine AD (Ac (AJ Gn hr xf (EA.wa (AE (ev 0) (AE (ev 1) (AE (ev 2) AB))) ⟨n,ps,t,u,rfl,ht,hu,fun i j e1 e2 i0 i1 j0 j1=> ⟨fun h=>?_,fun h=> (q1 i j e1 e2 i0 i1 j0 j1).2 h⟩,q2⟩)))
  subst e1
  subst e2
  refine AF (AO (AJ G (hr.mono (by decide)) xf (EA.wa (AE (ev 0) (AE (Bb (ts:=[i,j].map T.int) (AE (ev 1) (AE (ev 2) AB)) (by show 2≤sizeLine;decide)) AB)) ⟨n,ps,[i,j],rfl,wn,fun z hz=>?_,by simp,(q1 i j rfl rfl i0 i1 j0 j1).1 h⟩)))
  simp only[dh,dI,or_false] at hz
  rcases hz with rfl|rfl
  ·exact⟨i0,i1⟩
  ·exact⟨j0,j1⟩
end
end K12
namespace StT
open PySem PySem.SetTable PyProof.Rows
section
variable{prog:Program}{w:World}{A:dH}{E:Value→b6→Prop}{s:b6}
variable{a:Addr}{xs:List (Int×Tok)}{o:Obj}{es:Array (Int×Value)}{ep:Nat}{t:fm}
end
section
variable{prog:Program}{w:World}{A:dH}{E:Value→b6→Prop}{s:b6}
variable{a:Addr}{xs:List (Int×Tok)}{o:Obj}{es:Array (Int×Value)}{ep:Nat}{t:fm}
end
section
variable{prog:Program}{w:World}{A:dH}{E:Value→b6→Prop}{s:b6}
end
open PySem.Calls PySem.W
section
variable{prog:Program}{w:World}{A:dH}{E:Value→b6→Prop}{s:b6}
end
end StT
namespace L2
open PySem PySem.Spec PySem.Calls PyProof.Rows
section
variable{X:Cx}
end
end L2
namespace L2.TL
open PySem PySem.Spec PySem.Calls PyProof.Rows
section
variable{Z:Zx}{ρ:List (Option T)}{O:AH}{e:Expr}{Φ:BQ}{pos p p1 pos1:Pos}
end
end L2.TL
namespace K12
open PySem L2 L2.TL PySem.Spec PyProof.Rows Gr
def Be(ps:List (Int×Int))(x:Int):List Int:=(ps.filter fun p=>decide (x∈[p.1,p.2])).map fun p=>p.1+p.2-x
theorem Hv{ps:List (Int×Int)}{x v:Int}:v∈Be ps x↔Adj ps x v:=by
 unfold Be
 rw[dy]
 constructor
 ·rintro⟨p,hp,rfl⟩
  obtain⟨h1,h2⟩:=dR.mp hp
  have h2:x=p.1∨x=p.2:=by simpa using h2
  rcases h2 with h|h
  ·refine .inl ?_
   have e:(x,p.1+p.2-x)=p:=fK h (by show p.1+p.2-x=p.2;omega)
   rw[e];exact h1
  ·refine .inr ?_
   have e:(p.1+p.2-x,x)=p:=fK (by show p.1+p.2-x=p.1;omega) h
   rw[e];exact h1
 ·rintro(h|h)
  ·exact⟨_,dR.mpr ⟨h,by simp⟩,by show x+v-x=v;omega⟩
  ·exact⟨_,dR.mpr ⟨h,by simp⟩,by show v+x-x=v;omega⟩
section
variable{P:Program}{w:World}{K:b5}{mg:Str→Option Value}{base:Heap}
variable{f:Addr}{cdv:Value}{A:dH}{outer:List Env}{s:b6}{H:Hp}{E:XK}{O:AH}{Ξ:Value→AH→Prop}{n:Int}{ps:List (Int×Int)}{S bs:List Int}{l:Addr}
end
end K12
namespace GrR
variable{R D L:Int→Int→Prop}{n:Int}{S:List Int}{u v a b:Int}{d k:Nat}{fs:List (Option Nat)}
open Classical in
def Hw (R:Int→Int→Prop) (S:List Int) (v:Int):Option Nat:=if h:∃d,IsD R S v d then some (choose h) else none
theorem DP(h:IsD R S v d):Hw R S v=some d:=by
 unfold Hw
 have hx:∃d,IsD R S v d:=⟨d,h⟩
 rw[dif_pos hx]
 exact congrArg some ((Classical.choose_spec hx).uniq h)
theorem ES:Hw R S v=some d↔IsD R S v d:=by
 refine⟨fun e=>?_,DP⟩
 unfold Hw at e
 split at e
 ·rename_i h
  cases e
  exact Classical.choose_spec h
 ·cases e
theorem Hx{S':List Int}{v':Int}{R':Int→Int→Prop}(h:∀d,IsD R S v d↔IsD R' S' v' d):Hw R S v=Hw R' S' v':=by
 cases e:Hw R S v with
 |some d=>exact(DP ((h d).mp (ES.mp e))).symm
 |none=>
  cases e':Hw R' S' v' with
  |none=>rfl
  |some d=>rw[DP ((h d).mpr (ES.mp e'))] at e;cases e
theorem All.get(al:All n R S fs)(v0:0≤v)(v1:v<n):fs[v.toNat]?=some (Hw R S v):=by
 have hl:=al.len
 have hlt:v.toNat<fs.length:=by omega
 cases e:Hw R S v with
 |some d=>exact(al.eq v v0 v1 d).mpr (ES.mp e)
 |none=>
  rw[di hlt]
  cases z:fs[v.toNat] with
  |none=>rfl
  |some d=>
   have:=(al.eq v v0 v1 d).mp (by rw[di hlt,z])
   rw[DP this] at e
   cases e
theorem W.mono(h:∀u v,L u v→D u v)(w:W L S k v):W D S k v:=by
 induction w with
 |«at» h=>exact .at h
 |go _ a ih=>exact .go ih (h _ _ a)
theorem W.cut(h:∀u v,D u v→L u v∨u=b)(w:W D S k v):W L S k v∨∃j,j<k∧W L S j b:=by
 induction w with
 |«at» h=>exact .inl (.at h)
 | @go k u v w a ih=>
  rcases ih with w'| ⟨j,hj,w'⟩
  ·rcases h _ _ a with l|rfl
   ·exact .inl (.go w' l)
   ·exact .inr ⟨k,by omega,w'⟩
  ·exact .inr ⟨j,by omega,w'⟩
theorem UF(h1:∀u v,L u v→D u v)(h2:∀u v,D u v→L u v∨u=b):IsD D S b d↔IsD L S b d:=by
 constructor
 ·rintro⟨w,m⟩
  refine⟨?_,fun j hj w'=>m j hj (w'.mono h1)⟩
  rcases w.cut h2 with w'| ⟨j,hj,w'⟩
  ·exact w'
  ·exact absurd (w'.mono h1) (m j hj)
 ·rintro⟨w,m⟩
  refine⟨w.mono h1,fun j hj w'=>?_⟩
  rcases w'.cut h2 with w'| ⟨i,hi,w'⟩
  ·exact m j hj w'
  ·exact m i (by omega) w'
theorem W.consR{p q:Int}(a:R p q)(h:W R [q] k v):W R [p] (k+1) v:=by
 induction h with
 |«at» h=>rw[b8.mp h];exact .go (.at (by simp)) a
 |go _ b ih=>exact .go ih b
theorem W.rev(sy:∀u v,R u v→R v u)(h:W R [a] k v):W R [v] k a:=by
 induction h with
 |«at» h=>rw[b8.mp h];exact .at (by simp)
 |go _ b ih=>exact .consR (sy _ _ b) ih
theorem UG(sy:∀u v,R u v→R v u):IsD R [a] b d↔IsD R [b] a d:=
 ⟨fun h=> ⟨h.1.rev sy,fun j hj w=>h.2 j hj (w.rev sy)⟩,fun h=> ⟨h.1.rev sy,fun j hj w=>h.2 j hj (w.rev sy)⟩⟩
theorem RH{ps:List (Int×Int)}:Gr.W ps S k v↔W (Gr.Adj ps) S k v:=by
 constructor
 ·intro h
  induction h with
  |«at» h=>exact .at h
  |go _ a ih=>exact .go ih a
 ·intro h
  induction h with
  |«at» h=>exact .at h
  |go _ a ih=>exact .go ih a
theorem JQ{ps:List (Int×Int)}:Gr.IsD ps S v d↔IsD (Gr.Adj ps) S v d:=
 ⟨fun h=> ⟨RH.mp h.1,fun j hj w=>h.2 j hj (RH.mpr w)⟩,fun h=> ⟨RH.mpr h.1,fun j hj w=>h.2 j hj (RH.mp w)⟩⟩
end GrR
namespace L2
open PySem PySem.Spec PySem.Calls PyProof.Rows
section
variable{prog:Program}{w:World}{A:dH}{R:mV→b6→Prop}{I:Addr}{fp wr:List Addr}{n:Nat}{P:Nat→Value→Prop}{St:Nat→Heap→Prop}
theorem EU:(toString "min" ++toString ".loop" :String)= "min.loop":=by decide
theorem Oi{kw:List (Str×Value)}(W:Walks prog w A.in1 I fp wr n P St)(bt:Nat→Nat→Bool)(hcmp:CmpOf prog w A.in1 .Lt P bt)(S:Addr)(hSf:S∉fp):
  ∀(k j:Nat) (s:b6) (vb:Value) (c:Nat),n- (j+1)=k→j+1≤n→St (j+1) s.heap→P (iZ bt j) vb→
  s.heap.get? S=some {cls:=.type "list",dict:=none,data:=.seq #[vb,vb] c,slots:=#[]}→
  (∀v h' tk,P (iZ bt (n-1)) v→(∀b o,b∉wr→b≠S→s.heap.get? b=some o→h'.get? b=some o)→R (.ok (.ret v)) {s with heap:=h',toks:=tk})→
  iY (model prog w) A (.builtin "min.loop" ⟨[.ref I,.none,.ref S],kw⟩) R s:=by
 have hSw:S∉wr:=fun h=>hSf (W.sub _ h)
 intro k
 induction k with
 |zero=>
  intro j s vb c hk hj hst hPb hS hR
  have hin:j+1=n:=by omega
  refine fW kY ?_
  rw[fD ig _]
  show wpAny _ A.in1 (kW (.ref S)>>=_) _ _ s
  refine b4 (ip hS rfl ?_)
  show wpAny _ A.in1 (tryCatch (jz (.ref I)) _>>=_) _ _ s
  refine b4 (gz (W.done s _ _ (hin▸hst) fun h' tk hk'=>?_))
  have hS':=hk' S _ hSw hS
  show wpAny _ A.in1 (mS S (fun _=> #[])>>=_) _ _ _
  refine b4 (i6 hS' rfl (b4 (jc (b7 ?_))))
  exact hR vb _ tk (by rw[←hin];exact hPb) fun b o hbw hbS e=> (eQ _ _ (Ne.symm hbS)).trans (hk' b o hbw e)
 |succ k ih=>
  intro j s vb c hk hj hst hPb hS hR
  have hlt:j+1<n:=by omega
  refine fW kY ?_
  rw[fD ig _]
  show wpAny _ A.in1 (kW (.ref S)>>=_) _ _ s
  refine b4 (ip hS rfl ?_)
  show wpAny _ A.in1 (tryCatch (jz (.ref I)) _>>=_) _ _ s
  refine b4 (gz (W.item (j+1) s _ _ hlt hst fun v h' tk hP hst' hk'=>?_))
  have hS':=hk' S _ hSw hS
  show wpAny _ A.in1 (tryCatch (holding [v,v] (richCompare .Lt v vb>>=_)) _>>=_) _ _ _
  refine b4 (gz (ef (b4 (hcmp (j+1) (iZ bt j) v vb _ _ _ hP hPb ?_))))
  refine b4 (ef (gS (b4 (jc (b7 ?_)))))
  cases hb:bt (j+1) (iZ bt j) with
  |true=>
   simp only[if_true]
   refine b4 (i6 hS' rfl (b4 (jc ?_)))
   rw[EU]
   refine b7 ⟨gy ig _,ih (j+1) _ v _ (by omega) hlt (W.frame _ _ _ hst' fun b hbf o e=>?_) (by simp only[iZ,hb,if_true];exact hP) (gK _ hS' rfl) fun v' h'' tk'' hP' hk''=>?_⟩
   ·exact(eQ _ _ (fun h:S=b=>hSf (by rw[h];exact hbf))).trans e
   ·exact hR v' h'' tk'' hP' fun b o hbw hbS e=>hk'' b o hbw hbS ((eQ _ _ (Ne.symm hbS)).trans (hk' b o hbw e))
  |false=>
   simp only[dC,if_false]
   refine b4 (jc ?_)
   rw[EU]
   refine b7 ⟨gy ig _,ih (j+1) _ vb c (by omega) hlt hst' (by simp only[iZ,hb,dC,if_false];exact hPb) hS' fun v' h'' tk'' hP' hk''=>?_⟩
   exact hR v' h'' tk'' hP' fun b o hbw hbS e=>hk'' b o hbw hbS (hk' b o hbw e)
theorem MO{nm:Str}{d:Value}(W:Walks prog w A.in1 I fp wr n P St)(bt:Nat→Nat→Bool)(hcmp:CmpOf prog w A.in1 .Lt P bt)(S:Addr)(hSf:S∉fp){s:b6}{c:Nat}(hst:St 0 s.heap)
  (hS:s.heap.get? S=some {cls:=.type "list",dict:=none,data:=.seq #[] c,slots:=#[]})
  (h0:n=0→∀h' tk,(∀b o,b∉wr→b≠S→s.heap.get? b=some o→h'.get? b=some o)→R (.ok (.ret d)) {s with heap:=h',toks:=tk})
  (hR:0<n→∀v h' tk,P (iZ bt (n-1)) v→(∀b o,b∉wr→b≠S→s.heap.get? b=some o→h'.get? b=some o)→R (.ok (.ret v)) {s with heap:=h',toks:=tk}):
  iY (model prog w) A (.builtin "min.loop" ⟨[.ref I,.none,.ref S],[(nm,d)]⟩) R s:=by
 have hSw:S∉wr:=fun h=>hSf (W.sub _ h)
 refine fW kY ?_
 rw[fD ig _]
 show wpAny _ A.in1 (kW (.ref S)>>=_) _ _ s
 refine b4 (ip hS rfl ?_)
 show wpAny _ A.in1 (tryCatch (jz (.ref I)) _>>=_) _ _ s
 by_cases hn:0<n
 ·refine b4 (gz (W.item 0 s _ _ hn hst fun v h' tk hP hst' hk'=>?_))
  have hS':=hk' S _ hSw hS
  show wpAny _ A.in1 (mS S (fun _=> #[v,v])>>=_) _ _ _
  refine b4 (i6 hS' rfl ?_)
  rw[EU]
  refine b7 ⟨gy ig _,Oi W bt hcmp S hSf _ 0 _ v _ rfl hn (W.frame _ _ _ hst' fun b hbf o e=>?_) hP (gK _ hS' rfl) fun v' h'' tk'' hP' hk''=>?_⟩
  ·exact(eQ _ _ (fun h:S=b=>hSf (by rw[h];exact hbf))).trans e
  ·exact hR hn v' h'' tk'' hP' fun b o hbw hbS e=>hk'' b o hbw hbS ((eQ _ _ (Ne.symm hbS)).trans (hk' b o hbw e))
 ·have e0:n=0:=by omega
  refine b4 (gz (W.done s _ _ (by rw[e0];exact hst) fun h' tk hk'=>?_))
  show wpAny _ A.in1 (rule _>>=fun _=>ret d) _ _ _
  exact b4 (iW (b7 (h0 e0 h' tk fun b o hbw _ e=>hk' b o hbw e)))
end
section
variable{prog:Program}{w:World}{A:dH}{E:Value→b6→Prop}{s:b6}
theorem Oj{x d:Value}{Q:Value→b6→Prop}
  (h:wpAny (model prog w) A.in1 (lJ x) (fun it s₂=>∃I fp wr n P St bt,it=.ref I∧Walks prog w A.in1 I fp wr n P St∧St 0 s₂.heap∧(∀b∈fp,b<s₂.heap.objs.size)∧CmpOf prog w A.in1 .Lt P bt∧
   (n=0→∀h' tk,(∀b o,b∉wr→s₂.heap.get? b=some o→h'.get? b=some o)→Q d {s₂ with heap:=h',toks:=tk})∧
   (0<n→∀v h' tk,P (iZ bt (n-1)) v→(∀b o,b∉wr→s₂.heap.get? b=some o→h'.get? b=some o)→Q v {s₂ with heap:=h',toks:=tk})) E s):
  wpAny (model prog w) A (call (.builtin "min") [x] [("default",d)]) Q E s:=by
 refine kj (iF F.plain_min F.entry_min ?_)
 refine jv (show jI "min" ⟨[x],[("default",d)]⟩=pure () by kernel_rfl) ?_
 show wpAny _ A.in1 (ic "min" ["key","default"] 0 ⟨[],[("default",d)]⟩>>=_) _ _ s
 refine b4 (jv (show ic "min" ["key","default"] 0 ⟨[],[("default",d)]⟩=pure [none,some d] from rfl) ?_)
 refine b4 (b7 ?_)
 refine b4 (iK h (fun it s₂ h₂=>?_) fun _ _ e=>e)
 obtain⟨I,fp,wr,n,P,St,bt,rfl,W,hst,hfp,hcmp,q0,q1⟩:=h₂
 refine b4 (fS ?_)
 have hSf:s₂.heap.objs.size∉fp:=fun hm=>e6 _ (hfp _ hm)
 rw[EU]
 refine b7 ⟨gy ig _,MO W bt hcmp s₂.heap.objs.size hSf (W.frame _ _ _ hst fun b _ o e=>da _ e) (dF _ rfl) (fun e0 h' tk hk=>?_) fun hn v h' tk hP hk=>?_⟩
 ·exact q0 e0 h' tk fun b o hbw e=>hk b o hbw (dN (du e)) (da _ e)
 ·exact q1 hn v h' tk hP fun b o hbw e=>hk b o hbw (dN (du e)) (da _ e)
end
section
variable{M:Model}{A:dH}{E:Value→b6→Prop}{s:b6}
theorem EV{pos:Pos}{id:String}{k:Str}{x y:Sem Value}{Q:Value→b6→Prop}
  (h:wpAny M A x (fun v s₁=>wpAny M A y (fun d s₂=>wpAny M A (call (.builtin id) [v] [(k,d)]) Q E s₂) E s₁) E s):
  wpAny M A (callWith pos (.builtin id) [] [(false,x)] [(some k,y)]) Q E s:=by
 unfold callWith
 refine b4 (ef (evalArgs_kw rfl (Calls.spliced_cons (iK h (fun v s₁ h₁=>?_) fun _ _ e=>e))))
 refine Calls.spliced_nil (wpAny_evalAll_cons (iK h₁ (fun d s₂ h₂=>wpAny_evalAll_nil ?_) fun _ _ e=>e))
 refine b4 (jk ?_)
 refine b4 (b7 ?_)
 exact b4 (iK h₂ (fun r s₃ hr=>b4 (ef (wpAny_point (b7 hr)))) fun _ _ e=>e)
end
section
variable{X:Cx}
def FB(ns:List Int):Option Int→Prop
 |none=>ns=[]
 |some m=>GP ns m
def ZZ:Option Int→V
 |none=> .non
 |some m=> .int m
theorem UH{e:Expr}{te:TE}{p pos kp np:Pos}{j:Nat}(hc:X.calm=true)(hg:Gl X "min")(hm:X.mg "min" =none)(he:PE X e te)(hn:TL.Bg e=true):
  PE X (.Call (.Name "min" p) [e] [⟨some "default",.Constant .none j np,kp⟩] pos) (fun σ H Q=>te σ H fun v H1=>∃(a:Addr) (ns:List Int),v=.ref a∧VC X.K H1 a (ns.map V.int)∧∀m,FB ns m→Q (ZZ m) H1):=by
 intro pins s σ H Q I h
 refine iX (Cw I hg hm TL.Wz ?_ (by decide) (by decide))
 rw[TL.DU hn]
 refine EV (Ay (he pins s σ H _ I h) fun u s1 ⟨v,H1,I1,r1,q1⟩=>?_)
 obtain⟨a,ns,rfl,hq,q⟩:=q1
 cases r1
 refine b4 ?_
 show wpAny _ _ (eval (.Constant .none j np) X.env) _ _ _
 refine b7 (b4 (jk (b7 ?_)))
 obtain⟨its,rv,lt,wk⟩:=I1.walk hq
 have hl:its.length=ns.length:=by have:=rv.length;rw[c9] at this;exact this.symm
 refine Oj (wk X.A.in1 _ _ (I1.ok.hd hc) fun o St W st=> ⟨_,_,_,_,_,_,_,rfl,W,st,fun b hb=>?_,CmpOf.ints_lt (fun i=>ns.getD i 0) (fun i v hv=>BL rv i v hv),fun e0 h' tk hk=>?_,fun hn v h' tk hP hk=>?_⟩)
 ·show b< (s1.heap.push o).objs.size
  rw[fL]
  simp only[dh,dI,or_false] at hb
  rcases hb with rfl|rfl
  ·exact gL _
  ·exact fA lt
 ·exact⟨.non,H1,I1.kept (t':=tk) (DC hk),rfl,q none (List.eq_nil_of_length_eq_zero (by omega))⟩
 ·obtain⟨t,rfl⟩:=BL rv _ v hP
  obtain⟨b1,b2⟩:=argBest_lt (fun i=>ns.getD i 0) (its.length-1)
  exact⟨.int _,H1,I1.kept (t':=tk) (DC hk),⟨t,rfl⟩,q (some _) ⟨ED (by omega),fun n hn=>by
   obtain⟨j,hj,rfl⟩:=iR hn
   have:=b2 j (by omega)
   simpa[iD,hj] using this⟩⟩
end
end L2
namespace L2.TL
open PySem PySem.Spec PySem.Calls PyProof.Rows
section
variable{Z:Zx}{ρ:List (Option T)}{O:AH}{e:Expr}{p pos kp np:Pos}{ns:List Int}{j:Nat}
def Cu:Option Int→T
 |none=> .non
 |some m=> .int m
theorem KZ{a b:Option Int}(ha:FB ns a)(hb:FB ns b):a=b:=by
 cases a with
 |none=>
  cases b with
  |none=>rfl
  |some m=>rw[show ns=[] from ha] at hb;exact absurd hb.1 (by simp)
 |some m=>
  cases b with
  |none=>rw[show ns=[] from hb] at ha;exact absurd ha.1 (by simp)
  |some k=>rw[jX (ha.2 k hb.1) (hb.2 m ha.1)]
theorem UI{m:Option Int}(hm:FB ns m)(mm:Z.X.mg "min" =none)(hc:Z.X.calm=true)(h:ET Z ρ O e (.lst (ns.map T.int)))(hg:Gl Z.X "min":=by rfl)(hn:Bg e=true:=by rfl):
  ET Z ρ O (.Call (.Name "min" p) [e] [⟨some "default",.Constant .none j np,kp⟩] pos) (Cu m):=fun Φ q=>
 PE.weak (UH hc hg mm (h (fun t O'=>t=.lst (ns.map T.int)∧O'=O) ⟨rfl,rfl⟩) hn) fun σ H Q k=> ⟨k.1,by
  rintro v H' _ _ ⟨rfl,rfl⟩ f r
  obtain⟨a,xs,rfl,h1,o1,r1⟩:=r.lst_inv
  cases Reps.ints r1
  refine⟨a,ns,rfl,.inl (.inl (.inl h1)),fun m' hm'=>?_⟩
  cases KZ hm' hm
  refine k.2 _ H' _ _ q f ?_
  cases m with
  |none=>exact .non
  |some m=>exact .int m⟩
end
section
variable{Z:Zx}{ρ:List (Option T)}{O:AH}{e:Expr}{Φ:BQ}{pos p:Pos}{ts:List T}
theorem Ol(m:Z.X.mg "list" =none)(h:ET Z ρ O e (.lst ts))(q:∀a,O a=none→Φ (.raw (.ref a)) (Aj O a ts))(hg:Gl Z.X "list":=by rfl)(he:df [e] Z.X.env=(false,eval e Z.X.env)::df [] Z.X.env:=by rfl):WE Z ρ O (.Call (.Name "list" p) [e] [] pos) Φ:=
 Et GQ m VI (AQ h AB he _ (fun H vs Q ok r k=>by
  obtain⟨v,rfl,r1⟩:=r.one_inv
  obtain⟨a,xs,rfl,h1,_,r1⟩:=r1.lst_inv
  exact⟨a,xs,rfl,.inl (.inl (.inl h1)),fun p hp=>k _ _ _ _ (q p (ok.none_of hp)) (.newO ok hp r1) (.raw _)⟩)) hg (by decide) (by decide) he
end
end L2.TL
namespace K12
open PySem L2 L2.TL PySem.Spec PyProof.Rows GrR
def Bd:List Int→Option Int
 | []=>none
 |x::xs=>some (match Bd xs with|none=>x|some m=>min x m)
theorem Cj:∀(ns:List Int),FB ns (Bd ns)
 | []=>rfl
 |x::xs=>by
  have h:=Cj xs
  show FB (x::xs) (some (match Bd xs with|none=>x|some m=>min x m))
  cases e:Bd xs with
  |none=>
   rw[e] at h
   rw[show xs=[] from h]
   exact⟨by simp,fun n hn=>by rw[b8.mp hn];exact gE _⟩
  |some m=>
   rw[e] at h
   refine⟨?_,fun n hn=>?_⟩
   ·rcases jG x m with hx|hx
    ·show min x m∈_
     rw[Int.min_eq_left hx];simp
    ·show min x m∈_
     rw[Int.min_eq_right hx];exact dw _ h.1
   ·rcases dh.mp hn with rfl|hn
    ·exact Int.min_le_left ..
    ·exact hZ (Int.min_le_right ..) (h.2 n hn)
def Gm(rows:List (List Int))(a b:Int):List (List Int):=rows.set a.toNat ((rows.getD a.toNat []).filter fun v=>decide (v≠b))
def CH(rows:List (List Int))(a b:Int):Option Nat:=(Hw (Rw (Gm rows a b)) [a] b).map (· +1)
theorem MP{rows:List (List Int)}{a b u v:Int}(a0:0≤a)(a1:a<rows.length):Rw (Gm rows a b) u v↔Rw rows u v∧¬(u=a∧v=b):=by
 unfold Rw Gm
 have hlt:a.toNat<rows.length:=by omega
 by_cases hu:u=a
 ·subst hu
  rw[eB,eD hlt]
  simp only[Option.getD_some,dR,decide_eq_true_eq]
  constructor
  ·rintro⟨h0,h1,h2⟩
   exact⟨⟨h0,h1⟩,fun z=>h2 z.2⟩
  ·rintro⟨⟨h0,h1⟩,h2⟩
   exact⟨h0,h1,fun z=>h2 ⟨trivial,z⟩⟩
 ·constructor
  ·rintro⟨h0,h1⟩
   rw[eB,dX (by omega),←eB] at h1
   exact⟨⟨h0,h1⟩,fun z=>hu z.1⟩
  ·rintro⟨⟨h0,h1⟩,_⟩
   refine⟨h0,?_⟩
   rw[eB,dX (by omega),←eB]
   exact h1
theorem Xc{n:Int}{rows:List (List Int)}{a b:Int}(rn:RowsN n rows)(a0:0≤a)(a1:a<n):RowsN n (Gm rows a b):=
 ⟨by unfold Gm;rw[iC];exact rn.len,rn.n1,fun u v h=>rn.hw u v ((MP a0 (by have:=rn.len;omega)).mp h).1⟩
def Ao(n:Int)(ps:List (Int×Int)):List (List Int):=(dE n.toNat).map fun i=>AV ps i
theorem DZ{n:Int}{ps:List (Int×Int)}:FA n ps=FN (Ao n ps):=by
 unfold FA Ao
 show _=T.lst (((dE n.toNat).map fun i=>AV ps i).map fun r=>T.lst (r.map T.int))
 rw[eK]
 rfl
theorem Gq{n:Int}{ps:List (Int×Int)}{i:Nat}(h:(i:Int)<n):(Ao n ps).getD i []=AV ps i:=by
 unfold Ao
 rw[eB,b9,fO (by omega)]
 rfl
theorem Fk{n:Int}{ps:List (Int×Int)}(hw:Gr.HD n ps){u v:Int}:Rw (Ao n ps) u v↔Gr.Adj ps u v:=by
 constructor
 ·rintro⟨h0,h⟩
  obtain⟨i,rfl⟩:=dZ h0
  rw[eE] at h
  by_cases hi:(i:Int)<n
  ·rw[Gq hi] at h
   exact(CG hw).mp h
  ·unfold Ao at h
   rw[eB,b9,e7 (by rw[eP];omega)] at h
   cases h
 ·intro a
  have hb:=a.symm.inb hw
  obtain⟨i,rfl⟩:=dZ hb.1
  refine⟨by omega,?_⟩
  rw[eE,Gq hb.2.1]
  exact(CG hw).mpr a
theorem EX{n:Int}{ps:List (Int×Int)}(wn:WebN n ps):RowsN n (Ao n ps):=
 ⟨by have:=wn.n0;unfold Ao;simp;omega,wn.n1,fun u v h=>by have:=((Fk wn.hw).mp h).inb wn.hw;exact⟨this.1,this.2.1⟩⟩
section
variable{P:Program}{w:World}{K:b5}{mg:Str→Option Value}{base:Heap}{CP CL:Addr}
def RI:Bf:=Ij fun ts r=>∃xs:List (Option Nat),ts=[.lst (xs.map AY)]∧xs.length≤300∧r=Cu (Bd (An xs))
theorem Za:FnScope ["numbers"] ["numbers"] (AA JC):=⟨rfl,rfl,rfl,by decide+kernel,rfl,by decide+kernel,by decide+kernel⟩
theorem Zb:(Ab ["number"] []).Nodup:=by decide+kernel
theorem RJ{f:Addr}{fd:dD}(F:Fun K "least_told" "least_told" JC f fd)(Tx:Txt mg):FnOk P w K mg base (CXe P w) 1 f fd ["numbers"] (Bq K RI):=by
 refine AU F Za ?_ ?_
 ·rintro ts O Φ Ξ ⟨r,⟨xs,rfl,_⟩,_⟩
  rfl
 ·rintro cdv A outer s H E O Ξ hr xf _ Φ ⟨_,⟨xs,rfl,hl,rfl⟩,q⟩
  have sb:=AS
  refine AF (AO (ET.we (UI (Cj _) Tx.nMin rfl (ET.cast (DI ["number"] [] xs AY AY jm rfl (BP (AA JC) ["numbers"] (by decide+kernel)) (Ag (ev 0)) (by omega) fun x hx=> ⟨[some (AY x)],fun X' Oe He is O'=>?_⟩) (by rw[DO]))) q))
  obtain⟨cl,s',H',fp,rfl⟩:=is
  refine⟨AM 0 Zb (by decide),EB.cast (EN DM (ev 0)) ?_,fun _=>ev 0⟩
  cases x<;>rfl
def NX:Bf:=Ij fun ts r=>∃(n:Int) (rows:List (List Int)) (a b:Int),ts=[FN rows,.int a,.int b]∧RowsN n rows∧(∀r∈rows,r.length≤300)∧(0≤a∧a<n)∧(0≤b∧b<n)∧r=AY (CH rows a b)
def Zc:List Str:=["nears","a","b","cut","far"]
theorem RL:FnScope Zc ["nears","a","b"] (AA Tn):=⟨rfl,rfl,rfl,by decide+kernel,rfl,by decide+kernel,by decide+kernel⟩
theorem Zd:(Ab ["near"] [(("b" :Str),2)]).Nodup:=by decide+kernel
theorem Xd{f:Addr}{fd:dD}(F:Fun K "ring_by_tie" "ring_by_tie" Tn f fd)(Tx:Txt mg)(G:FnT P w K mg base "fars_from" 1 ["nears","starts"] JO):FnOk P w K mg base (CXe P w) 2 f fd ["nears","a","b"] (Bq K NX):=by
 refine AU F RL ?_ ?_
 ·rintro ts O Φ Ξ ⟨r,⟨n,rows,a,b,rfl,_⟩,_⟩
  rfl
 ·rintro cdv A outer s H E O Ξ hr xf _ Φ ⟨_,⟨n,rows,a,b,rfl,rn,hlr,ha,hb,rfl⟩,q⟩
  have sb:=AS
  have hl:=rn.len
  have n1:=rn.n1
  obtain⟨i,rfl⟩:=dZ ha.1
  obtain⟨j,rfl⟩:=dZ hb.1
  have hi:i<rows.length:=by omega
  have hri:(rows.getD i []).length≤300:=hlr _ (by rw[eB,di hi];exact fu hi)
  refine AD (AK 3 (Ol Tx.nList (ev 0) fun l hlO=>?_) RL.nd)
  refine AD (GW (ET.we (t:=.lst (((rows.getD i []).filter fun v=>decide (v≠(j:Int))).map T.int)) (DI ["near"] [("b",2)] (rows.getD i []) T.int T.int (fun v=>decide (v≠(j:Int))) rfl (BP (AA Tn) Zc (by decide+kernel)) (Ag (Cb (ev 0) (ev 1) (JN hi))) (by omega) fun x hx=> ⟨[some (.int x),some (.int (j:Int))],fun X' Oe He is O'=>?_⟩) (ET.we (ev 3) ⟨l,rfl,ET.we (ev 1) ⟨_,_,i,rfl,AG,by rw[c9];exact JK hi,?_⟩⟩)))
  ·obtain⟨cl,s',H',fp,rfl⟩:=is
   refine⟨AM 0 Zd (by decide),EB.cast (Ii (ev 0) (ev 1)) ?_,fun _=>ev 0⟩
   by_cases h:x=(j:Int)<;>simp[h]
  ·rw[Bt]
   have eset:(rows.map fun r=>T.lst (r.map T.int)).set i (.lst (((rows.getD i []).filter fun v=>decide (v≠(j:Int))).map T.int))=(Gm rows (i:Int) (j:Int)).map fun r=>T.lst (r.map T.int):=by
    unfold Gm
    rw[lj,eE]
   rw[eset]
   refine DE (p:=l) (n:=3) AG hlO rfl ?_
   rw[Az hlO]
   refine AD (AK 4 (QI Du (fun _ _=>rfl) (AJ G hr xf (EA.wa (AE (ev 3) (AE (Bb (ts:=[(i:Int)].map T.int) (AE (ev 1) AB) (by show 1≤sizeLine;decide)) AB)) ⟨n,Gm rows i j,[(i:Int)],rfl,Xc rn ha.1 ha.2,fun z hz=>?_,fun fs al=>?_⟩))) RL.nd)
   ·rw[b8.mp hz];exact ha
   ·have hlf:=al.len
    have hg:=al.get hb.1 hb.2
    rw[eE] at hg
    refine ET.we (ev 2) (Ll (t:=AY (Hw (Rw (Gm rows i j)) [(i:Int)] j)) (BJ (by rw[b9,hg];rfl)) _ ?_)
    unfold CH at q
    generalize Hw (Rw (Gm rows i j)) [(i:Int)] j=x at q
    cases x with
    |none=>exact AF (AO (ET.we (GT (x:=true) (ta:=.non) (tb:=.non) (Ey (t:=.non) rfl (ev 4)) (fun _=>Dl) (fun h=>by cases h)) q))
    |some d=>exact AF (AO (ET.we (GT (x:=false) (ta:=.non) (tb:=.int ((d:Int)+1)) (Ey (t:=.int (d:Int)) rfl (ev 4)) (fun h=>by cases h) (fun _=>BM (ev 4) AC)) q))
def Jd(n:Int)(ps:List (Int×Int))(i:Nat):List (Option Nat):=(AV ps i).map fun v=>CH (Ao n ps) (i:Int) v
theorem Gu{n:Int}{ps:List (Int×Int)}(wn:WebN n ps):∀r∈Ao n ps,r.length≤300:=fun r hr=>by
 unfold Ao at hr
 obtain⟨i,_,rfl⟩:=dy.mp hr
 have:=BI (qs:=ps) (i:=i)
 have:=wn.hl
 omega
def Gv(CP:Addr):Bf:=fun ts O Φ Ξ=>∃n ps t,ts=[Au n ps,t]∧Ae t=false∧WebN n ps∧(∀i:Nat,t=.int i→(i:Int)<n→Φ (Cu (Bd (An (Jd n ps i)))) O)∧(CF t 0 (n-1)=false→Ξ (.ref CP) O)
theorem Ka:FnScope ["web","place","nears"] ["web","place"] (AA Fg):=⟨rfl,rfl,rfl,by decide+kernel,rfl,by decide+kernel,by decide+kernel⟩
theorem Ze:(Ab ["near"] [(("nears" :Str),2),(("place" :Str),1)]).Nodup:=by decide+kernel
theorem MQ{f:Addr}{fd:dD}(F:Fun K "ring_at" "ring_at" Fg f fd)(Gn:FnT P w K mg base "need_place" 3 ["web","thing"] (Ez CP))(G:FnT P w K mg base "nears_of" 1 ["web"] Bu)(Gr:FnT P w K mg base "ring_by_tie" 2 ["nears","a","b"] NX)(Gl:FnT P w K mg base "least_told" 1 ["numbers"] RI):FnOk P w K mg base (CXe P w) 4 f fd ["web","place"] (Bq K (Gv CP)):=by
 refine AU F Ka ?_ ?_
 ·rintro ts O Φ Ξ ⟨n,ps,t,rfl,_⟩
  rfl
 ·rintro cdv A outer s H E O Ξ hr xf _ Φ ⟨n,ps,t,rfl,ht,wn,q1,q2⟩
  have sb:=AS
  refine AD (Ac (AJ Gn hr xf (EA.wa (AE (ev 0) (AE (ev 1) AB)) ⟨n,_,t,rfl,ht,fun h=>?_,fun h=>q2 h⟩)))
  obtain⟨i,rfl,hi⟩:=Fh h
  have rn:=EX wn
  have hl:=rn.len
  have hln:=BI (qs:=ps) (i:=i)
  have hpl:=wn.hl
  refine AD (AK 2 (ET.we (ET.cast (Aa G (hr.mono (by decide)) xf (AE (ev 0) AB) ⟨n,ps,rfl,wn.n0,wn.n1,wn.hw,wn.hl,rfl⟩) DZ) ?_) Ka.nd)
  refine AF (AO (ET.we (Aa Gl (hr.mono (by decide)) xf (AE (ET.cast (BU ["near"] [("nears",2),("place",1)] (AV ps i) T.int (fun v=>AY (CH (Ao n ps) (i:Int) v)) rfl (BP (AA Fg) ["web","place","nears"] (by decide+kernel)) (EI.cast (Ag (Cb (ev 2) (ev 1) (JN (rows:=Ao n ps) (i:=i) (by omega)))) (by rw[Gq hi])) (by omega) fun x hx=> ⟨[some (.int x),some (FN (Ao n ps)),some (.int (i:Int))],fun X' Oe He is O'=>?_⟩) ?_) AB) ⟨Jd n ps i,rfl,?_,rfl⟩) (q1 i rfl hi)))
  ·obtain⟨cl,s',H',fp,rfl⟩:=is
   have a:=((CG wn.hw).mp hx).inb wn.hw
   exact⟨AM 0 Ze (by decide),Aa Gr (hr.mono (by decide)) BW (AE (ev 1) (AE (ev 2) (AE (ev 0) AB))) ⟨n,Ao n ps,i,x,rfl,rn,Gu wn,⟨by omega,hi⟩,⟨a.1,a.2.1⟩,rfl⟩⟩
  ·unfold Jd
   rw[eK]
   rfl
  ·unfold Jd
   rw[c9]
   omega
def Gx(CP CL:Addr):Bf:=fun ts O Φ Ξ=>∃n ps t u,ts=[Au n ps,t,u]∧Ae t=false∧Ae u=false∧WebN n ps∧
 (∀i j:Int,t=.int i→u=.int j→0≤i→i<n→0≤j→j<n→(NR ps i j=true→Φ (AY (CH (Ao n ps) i j)) O)∧(NR ps i j=false→Ξ (.ref CL) O))∧(CF t 0 (n-1)=false∨CF u 0 (n-1)=false→Ξ (.ref CP) O)
theorem RM:FnScope ["web","a","b"] ["web","a","b"] (AA JD):=⟨rfl,rfl,rfl,by decide+kernel,rfl,by decide+kernel,by decide+kernel⟩
theorem MR{f:Addr}{fd:dD}(F:Fun K "ring_by" "ring_by" JD f fd)(Gn:FnT P w K mg base "need_tie" 4 ["web","a","b"] (RE CP CL))(G:FnT P w K mg base "nears_of" 1 ["web"] Bu)(Gr:FnT P w K mg base "ring_by_tie" 2 ["nears","a","b"] NX):FnOk P w K mg base (CXe P w) 5 f fd ["web","a","b"] (Bq K (Gx CP CL)):=by
 refine AU F RM ?_ ?_
 ·rintro ts O Φ Ξ ⟨n,ps,t,u,rfl,_⟩
  rfl
 ·rintro cdv A outer s H E O Ξ hr xf _ Φ ⟨n,ps,t,u,rfl,ht,hu,wn,q1,q2⟩
  refine AD (Ac (AJ Gn hr xf (EA.wa (AE (ev 0) (AE (ev 1) (AE (ev 2) AB))) ⟨n,ps,t,u,rfl,ht,hu,fun i j e1 e2 i0 i1 j0 j1=> ⟨fun h=>?_,fun h=> (q1 i j e1 e2 i0 i1 j0 j1).2 h⟩,q2⟩)))
  subst e1
  subst e2
  exact AF (AO (ET.we (Aa Gr (hr.mono (by decide)) xf (AE (ET.cast (Aa G (hr.mono (by decide)) xf (AE (ev 0) AB) ⟨n,ps,rfl,wn.n0,wn.n1,wn.hw,wn.hl,rfl⟩) DZ) (AE (ev 1) (AE (ev 2) AB))) ⟨n,Ao n ps,i,j,rfl,EX wn,Gu wn,⟨i0,i1⟩,⟨j0,j1⟩,rfl⟩) ((q1 i j rfl rfl i0 i1 j0 j1).1 h)))
end
def Zf:Stmt→Expr
 | .Return (some e) _=>e
 | .Assign _ e _=>e
 |_=> .Constant .none 0 ⟨0,0,0,0⟩
section
variable{P:Program}{w:World}{K:b5}{mg:Str→Option Value}{base:Heap}{CP CL:Addr}
theorem Xe:(Ab ["_law_a","_law_b"] []).Nodup:=by decide+kernel
theorem Zg:(Ab ["_law_place"] [(("_law_begin" :Str),2),(("_law_step" :Str),1),(("_law_n" :Str),0)]).Nodup:=by decide+kernel
def Da:Bf:=fun ts O Φ _=>∃(n:Int) (ps:List (Int×Int)),ts=[.int n,.lst (ps.map AL)]∧ps.length≤300∧(∀p∈ps,bY p)∧∀rs:List (Int×Int),rs.Pairwise Oz→(∀q,q∈rs↔q∈ps.map mm)→rs.length≤ps.length→Φ (Au n rs) O
theorem UJ:FnScope ["_law_many","_law_ties"] ["_law_many","_law_ties"] (AA Gg):=⟨rfl,rfl,rfl,by decide+kernel,rfl,by decide+kernel,by decide+kernel⟩
theorem Om{f:Addr}{fd:dD}(F:Fun K "_law_web_of" "_law_web_of" Gg f fd)(Tx:Txt mg):FnOk P w K mg base (CXe P w) 1 f fd ["_law_many","_law_ties"] (Bq K Da):=by
 refine AU F UJ ?_ ?_
 ·rintro ts O Φ Ξ ⟨n,ps,rfl,_⟩
  rfl
 ·rintro cdv A outer s H E O Ξ hr xf _ Φ ⟨n,ps,rfl,hl,hp,q⟩
  have hu:(A.deeper (je "_law_web_of" (AA Gg) s.heap.objs.size f cdv)).units+8<cLine:=by have:=hr.un;omega
  have hz:ps.length≤sizeLine:=fI hl (by decide)
  refine AF (AO (Lh (Ir (ET.we (ev 0) (Ir (KL Tx.nTuple (Iq (ps:=ps.map mm) Tx.nSorted Tx.nSet rfl hu ?_ (by simpa using hl) ?_ fun qs h1 h2 h3=> ⟨_,rfl,Ba ⟨by show 2≤sizeLine;decide,q qs h1 h2 (by simpa using h3)⟩⟩)))))))
  ·rw[eK]
   refine BU ["_law_a","_law_b"] [] ps AL _ rfl (BP (AA Gg) ["_law_many","_law_ties"] (by decide+kernel)) (Ag (ev 1)) hz fun x hx=> ⟨[some (.int x.1),some (.int x.2)],fun X' Oe He is O'=>?_⟩
   obtain⟨cl,s',H',fp,rfl⟩:=is
   exact⟨Cc 0 1 rfl Xe (by decide) (by decide),Ih (AE (NL Tx.nMin rfl (ev 0) (ev 1)) (AE (EH Tx.nMax rfl (ev 0) (ev 1)) AB))⟩
  ·intro z hz
   obtain⟨p,h1,rfl⟩:=dy.mp hz
   have:=hp p h1
   unfold bY at this
   show 0≤max _ _∧max _ _<65536
   omega
def Kb(n st bg:Int):List (Int×Int):=(dE n.toNat).map fun(i:Nat)=> (bg+(0+(i:Int)),bg+((0+(i:Int))+st)%n)
def Fl:Bf:=Ij fun ts r=>∃n st bg,ts=[.int n,.int st,.int bg]∧0<n∧n≤100∧r=.lst ((Kb n st bg).map AL)
theorem UK:FnScope ["_law_n","_law_step","_law_begin"] ["_law_n","_law_step","_law_begin"] (AA Iy):=⟨rfl,rfl,rfl,by decide+kernel,rfl,by decide+kernel,by decide+kernel⟩
theorem RN{f:Addr}{fd:dD}(F:Fun K "_law_round" "_law_round" Iy f fd)(Tx:Txt mg):FnOk P w K mg base (CXe P w) 1 f fd ["_law_n","_law_step","_law_begin"] (Bq K Fl):=by
 refine AU F UK ?_ ?_
 ·rintro ts O Φ Ξ ⟨r,⟨n,st,bg,rfl,_⟩,_⟩
  rfl
 ·rintro cdv A outer s H E O Ξ hr xf _ Φ ⟨_,⟨n,st,bg,rfl,n0,n1,rfl⟩,q⟩
  have sb:=AS
  refine AF (AO (ET.we (ET.cast (BU ["_law_place"] [("_law_begin",2),("_law_step",1),("_law_n",0)] (dE n.toNat) (fun i=> .int (0+(i:Int))) (fun i=>AL (bg+(0+(i:Int)),bg+((0+(i:Int))+st)%n)) rfl (BP (AA Iy) ["_law_n","_law_step","_law_begin"] (by decide+kernel)) (Ak Tx.nRange (ev 0) ⟨by omega,by omega⟩) (by simp;omega) fun x hx=> ⟨[some (.int (0+(x:Int))),some (.int bg),some (.int st),some (.int n)],fun X' Oe He is O'=>?_⟩) ?_) q))
  ·obtain⟨cl,s',H',fp,rfl⟩:=is
   exact⟨AM 0 Zg (by decide),EJ (BM (ev 1) (ev 0)) (BM (ev 1) (Dm (BM (ev 0) (ev 2)) (ev 3) n0))⟩
  ·unfold Kb
   rw[eK]
   rfl
end
section
variable{P:Program}{w:World}{K:b5}{mg:Str→Option Value}{base:Heap}{CP CL:Addr}
end
section
variable{P:Program}{w:World}{K:b5}{mg:Str→Option Value}{base:Heap}{CP CL:Addr}
end
end K12
namespace L2.TL
open PySem PySem.Spec PyProof.Rows
section
variable{Z:Zx}{ρ:List (Option T)}{O:AH}{a:Expr}{t:T}{p1 pos:Pos}
end
end L2.TL
namespace K12
open PySem L2 L2.TL PySem.Spec PyProof.Rows GrR
def FP(ps:List (Int×Int))(t:Int×Int):List (Int×Int):=ps.filter fun q=>decide (q≠t)
def CI(ps:List (Int×Int))(t:Int×Int):Option Nat:=(Hw (Gr.Adj (FP ps t)) [t.1] t.2).map (· +1)
theorem EY{n:Int}{ps:List (Int×Int)}(hw:Gr.HD n ps){a b u v:Int}:Gr.Adj (FP ps (mm (a,b))) u v↔Gr.Adj ps u v∧¬(u=a∧v=b)∧¬(u=b∧v=a):=by
 have key:∀x y:Int,(x,y)∈FP ps (mm (a,b))↔(x,y)∈ps∧¬(x=a∧y=b)∧¬(x=b∧y=a):=fun x y=>by
  unfold FP
  rw[dR,decide_eq_true_eq]
  constructor
  ·rintro⟨h,hne⟩
   have hxy:=(hw _ h).2.1
   simp only at hxy
   refine⟨h,fun⟨e1,e2⟩=>hne ?_,fun⟨e1,e2⟩=>hne ?_⟩
   ·subst e1 e2;exact fK (by show x=min x y;omega) (by show y=max x y;omega)
   ·subst e1 e2;exact fK (by show x=min y x;omega) (by show y=max y x;omega)
  ·rintro⟨h,h1,h2⟩
   refine⟨h,fun e=>?_⟩
   have e1:x=min a b:=congrArg gB e
   have e2:y=max a b:=congrArg Prod.snd e
   rcases jG a b with hab|hab
   ·exact h1 ⟨by omega,by omega⟩
   ·exact h2 ⟨by omega,by omega⟩
 unfold Gr.Adj
 rw[key,key]
 constructor
 ·rintro(⟨h,h1,h2⟩| ⟨h,h1,h2⟩)
  ·exact⟨.inl h,h1,h2⟩
  ·exact⟨.inr h,fun z=>h2 ⟨z.2,z.1⟩,fun z=>h1 ⟨z.2,z.1⟩⟩
 ·rintro⟨h|h,h1,h2⟩
  ·exact .inl ⟨h,h1,h2⟩
  ·exact .inr ⟨h,fun z=>h2 ⟨z.2,z.1⟩,fun z=>h1 ⟨z.2,z.1⟩⟩
theorem EZ{n:Int}{ps:List (Int×Int)}(wn:WebN n ps){a b:Int}(ad:Gr.Adj ps a b):CH (Ao n ps) a b=CI ps (mm (a,b)):=by
 have ha:=ad.symm.inb wn.hw
 have hl:=(EX wn).len
 have e1:Hw (Rw (Gm (Ao n ps) a b)) [a] b=Hw (Gr.Adj (FP ps (mm (a,b)))) [a] b:=Hx fun d=>UF
  (fun u v h=> (MP ha.1 (by omega)).mpr ⟨(Fk wn.hw).mpr ((EY wn.hw).mp h).1,((EY wn.hw).mp h).2.1⟩)
  (fun u v h=>by
   obtain⟨h1,h2⟩:=(MP ha.1 (by omega)).mp h
   by_cases hu:u=b∧v=a
   ·exact .inr hu.1
   ·exact .inl ((EY wn.hw).mpr ⟨(Fk wn.hw).mp h1,h2,hu⟩))
 unfold CH CI
 rw[e1]
 congr 1
 rcases jG a b with hab|hab
 ·have:mm (a,b)=(a,b):=fK (by show min a b=a;omega) (by show max a b=b;omega)
  rw[this]
 ·have:mm (a,b)=(b,a):=fK (by show min a b=b;omega) (by show max a b=a;omega)
  rw[this]
  exact Hx fun d=>UG fun u v h=>Gr.Adj.symm h
theorem NY{n:Int}{ps:List (Int×Int)}(hw:Gr.HD n ps){p:Int×Int}(h:p∈ps):mm p=p∧mm (p.2,p.1)=p:=by
 have:=(hw _ h).2.1
 exact⟨fK (by show min p.1 p.2=p.1;omega) (by show max p.1 p.2=p.2;omega),fK (by show min p.2 p.1=p.1;omega) (by show max p.2 p.1=p.2;omega)⟩
def Zh(ps:List (Int×Int))(i:Int):List (Option Nat):=(ps.filter fun p=>decide (i∈[p.1,p.2])).map (CI ps)
theorem RO{n:Int}{ps:List (Int×Int)}(wn:WebN n ps){i:Nat}:Jd n ps i=Zh ps (i:Int):=by
 have key:∀qs:List (Int×Int),(∀q∈qs,q∈ps)→(AV qs i).map (fun v=>CH (Ao n ps) (i:Int) v)=(qs.filter fun p=>decide ((i:Int)∈[p.1,p.2])).map (CI ps):=by
  intro qs
  induction qs with
  |nil=>intro _;rfl
  |cons p qs ih=>
   intro h
   have ih:=ih fun q hq=>h q (dw _ hq)
   have hp:=h p (dP ..)
   have mp:=NY wn.hw hp
   unfold AV at ih ⊢
   by_cases h1:p.1=(i:Int)
   ·rw[eT,if_pos h1,dM,ih,fv,if_pos (by simp[h1]),dM]
    congr 1
    rw[EZ wn (show Gr.Adj ps (i:Int) p.2 from .inl (by rw[←h1];exact hp)),←h1]
    exact congrArg (CI ps) mp.1
   ·by_cases h2:p.2=(i:Int)
    ·rw[eT,if_neg h1,if_pos h2,dM,ih,fv,if_pos (by simp[h2]),dM]
     congr 1
     rw[EZ wn (show Gr.Adj ps (i:Int) p.1 from .inr (by rw[←h2];exact hp)),←h2]
     exact congrArg (CI ps) mp.2
    ·have h3:¬(decide ((i:Int)∈[p.1,p.2])=true):=by
      simp only[dh,dI,or_false,decide_eq_true_eq]
      rintro(z|z)
      ·exact h1 z.symm
      ·exact h2 z.symm
     rw[eT,if_neg h1,if_neg h2,ih,fv,if_neg h3]
 exact key ps fun q h=>h
section
variable{P:Program}{w:World}{K:b5}{mg:Str→Option Value}{base:Heap}{CP CL:Addr}
def Zi:Bf:=Ij fun ts r=>∃xs:List (Option Nat),ts=[.lst (xs.map AY)]∧xs.length≤300∧r=Cu (Bd (An xs))
theorem Zj:FnScope ["_law_some"] ["_law_some"] (AA Ce):=⟨rfl,rfl,rfl,by decide+kernel,rfl,by decide+kernel,by decide+kernel⟩
theorem Zk:(Ab ["_law_one"] []).Nodup:=by decide+kernel
theorem Zl{f:Addr}{fd:dD}(F:Fun K "_law_least" "_law_least" Ce f fd)(Tx:Txt mg):FnOk P w K mg base (CXe P w) 1 f fd ["_law_some"] (Bq K Zi):=by
 refine AU F Zj ?_ ?_
 ·rintro ts O Φ Ξ ⟨r,⟨xs,rfl,_⟩,_⟩
  rfl
 ·rintro cdv A outer s H E O Ξ hr xf _ Φ ⟨_,⟨xs,rfl,hl,rfl⟩,q⟩
  have sb:=AS
  have hu:(A.deeper (je "_law_least" (AA Ce) s.heap.objs.size f cdv)).units+101<cLine:=by have:=hr.un;omega
  refine AD (EG (i:=0) (nc:=["_law_one"]) (cap:=[]) (by rfl) Zj.nd rfl (BP (AA Ce) ["_law_some"] (by decide+kernel)) (EI.wi (Ag (ev 0)) (DH xs AY AY jm (by omega) (fun x hx=> ⟨[some (AY x)],fun X' Oe He is O'=>?_⟩) ?_)))
  ·obtain⟨cl,s',H',fp,rfl⟩:=is
   refine⟨AM 0 Zk (by decide),EB.cast (EN DM (ev 0)) ?_,fun _=>ev 0⟩
   cases x<;>rfl
  ·rw[DO]
   have cnd:∀{ρ:List (Option T)},ρ=[some (.lst ((An xs).map T.int))]→EB (zB P w K mg base ["_law_some"] "_law_least" (AA Ce) f cdv A outer s H E O Ξ) ρ O (match (BA Ce).getD 1 (.Pass ⟨0,0,0,0⟩) with| .Return (some (.IfExp c _ _ _)) _=>c|_=> .Constant .none 0 ⟨0,0,0,0⟩) (!decide (An xs=[])):=by
    rintro ρ rfl
    exact EB.cast (BH (Iv hu) (Ah _) (Lw (t:=.lst ((An xs).map T.int)) (u:=.lst (([]:List Int).map T.int)) (by rw[Cd];exact Cf) (by rw[Cd];exact Cf) (by show i7 _+1≤100;have:=Cg (ns:=An xs);omega)) (ev 0) (Bb AB (fb _))) (congrArg (!·) DN)
   have hm:=Cj (An xs)
   generalize Bd (An xs)=m at hm q
   cases m with
   |none=>
    have e:An xs=[]:=hm
    exact AF (AO (ET.we (GT (x:=false) (ta:=.non) (tb:=.non) (EB.cast (cnd rfl) (by simp[e])) (fun h=>by cases h) (fun _=>Dl)) q))
   |some m=>
    have e:An xs≠[]:=fun z=>by rw[z] at hm;exact absurd hm.1 (by simp)
    exact AF (AO (ET.we (GT (x:=true) (ta:=.int m) (tb:=.non) (EB.cast (cnd rfl) (by simp[e])) (fun _=>NT hm Tx.nMin rfl (ev 0)) (fun h=>by cases h)) q))
end
end K12
namespace L2.TL
open PySem PySem.Spec PyProof.Rows
theorem MS{Z:Zx}{ρ:List (Option T)}{O:AH}{e:Expr}{p pos:Pos}{ns:List Int}(m:Z.X.mg "sorted" =none)(h:ET Z ρ O e (.tup (ns.map T.int)))(hl:ns.length<64)(hg:Gl Z.X "sorted":=by rfl)
  (he:df [e] Z.X.env=(false,eval e Z.X.env)::df [] Z.X.env:=by rfl):ET Z ρ O (.Call (.Name "sorted" p) [e] [] pos) (.lst ((jN ns).map T.int)):=fun Φ q=>Lu m h hl (fun ms pm pw=>by rw[PySem.W.eq_sortI pm pw];exact q) hg he
end L2.TL
namespace K12
open PySem L2 L2.TL PySem.Spec PyProof.Rows
def Hy(n:Int)(L:List (Int×Int)):Prop:=∀p∈L,0≤p.1∧p.1<n∧0≤p.2∧p.2<n
def Ea:List Str:=["_law_pen","_law_most","_law_n","_law_half","_law_way","_law_every","_law_one","_law_share","_law_drawn","_law_step","_law_pairs","_law_pair"]
theorem Ax:FnScope Ea ["_law_pen","_law_most"] (AA Co):=⟨rfl,rfl,rfl,by decide+kernel,rfl,by decide+kernel,by decide+kernel⟩
def HL(i:Nat):Stmt:=(BA Co).getD i (.Pass ⟨0,0,0,0⟩)
def cH:Stmt→List Stmt
 | .If _ a _ _=>a
 |_=> []
theorem Zm:(Ab ["_law_other"] [(("_law_pair" :Str),11)]).Nodup:=by decide+kernel
theorem Zo:(Ab ["_law_pair"] []).Nodup:=by decide+kernel
theorem Zp:(Ab ["_law_other"] [(("_law_one" :Str),6)]).Nodup:=by decide+kernel
theorem Zq:(Ab ["_law_pair"] [(("_law_pen" :Str),0),(("_law_share" :Str),7)]).Nodup:=by decide+kernel
theorem Zr:(Ab ["_law_pair"] [(("_law_half" :Str),3)]).Nodup:=by decide+kernel
theorem VS:(Ab ["_law_at"] [(("_law_half" :Str),3)]).Nodup:=by decide+kernel
section
variable{P:Program}{w:World}{K:b5}{mg:Str→Option Value}{base:Heap}{f:Addr}{cdv:Value}{A:dH}{outer:List Env}{s:b6}{H:Hp}{E:XK}{O0 O1:AH}{Ξ:Value→AH→Prop}{p:Addr}{n:Int}{L:List (Int×Int)}{v3 v4 v5 v6 v7 v8 v9 v11:Option T}{Φ:BQ}{N:Ln}
abbrev zW(P:Program)(w:World)(K:b5)(mg:Str→Option Value)(base:Heap)(f:Addr)(cdv:Value)(A:dH)(outer:List Env)(s:b6)(H:Hp)(E:XK)(O:AH)(Ξ:Value→AH→Prop):Zx:=zB P w K mg base Ea "_law_some_web" (AA Co) f cdv A outer s H E O Ξ
abbrev MU(p:Addr)(n:Int)(v3 v4 v5 v6 v7 v8 v9:Option T)(L:List (Int×Int))(v11:Option T):List (Option T):=[some (.raw (.ref p)),some (.int 16),some (.int n),v3,v4,v5,v6,v7,v8,v9,some (.lst (L.map AL)),v11]
def RQ(O0:AH)(p:Addr)(Φ:BQ):Prop:=∀(n:Int) (ps:List (Int×Int)) (O':AH),3≤n→n≤16→(∀q∈ps,KP n q)→ps.Pairwise Oz→ps.length≤200→PO O0 p O'→Φ (Au n ps) O'
theorem RS(hr:Room 2 (zW P w K mg base f cdv A outer s H E O0 Ξ).X.A)(xf:XFly (zW P w K mg base f cdv A outer s H E O0 Ξ).X (zW P w K mg base f cdv A outer s H E O0 Ξ).W)(Gw:FnT P w K mg base "_law_web_of" 1 ["_law_many","_law_ties"] Da)
  (po:PO O0 p O1) (n0:3≤n) (n1:n≤16) (hL:Hy n L) (hl:L.length≤140) (q:RQ O0 p Φ):
  Ew (zW P w K mg base f cdv A outer s H E O0 Ξ) (MU p n v3 v4 v5 v6 v7 v8 v9 L v11) O1 [HL 14] {nx:=N,rt:=Φ}:=by
 have sb:=AS
 have lf:(L.filter fun p=>!decide (p.1=p.2)).length≤L.length:=iy ..
 refine AF (AO (AJ Gw (hr.mono (by decide)) xf (EA.wa (AE (ev 2) (AE (DI ["_law_pair"] [] L AL AL (fun p=>!decide (p.1=p.2)) rfl (BP (AA Co) Ea (by decide+kernel)) (Ag (ev 10)) (by omega) fun x hx=> ⟨[some (AL x)],fun X' Oe He is O'=>?_⟩) AB)) ⟨n,L.filter fun p=>!decide (p.1=p.2),rfl,by omega,fun p hp=>?_,fun rs r1 r2 r3=>q n rs O1 n0 n1 (fun z hz=>?_) r1 (by omega) po⟩)))
 ·obtain⟨cl,s',H',fp,rfl⟩:=is
  exact⟨AM 0 Zo (by decide),Ii (Aw (ev 0) AC) (Aw (ev 0) AC),fun _=>ev 0⟩
 ·have:=hL p (dR.mp hp).1
  unfold bY
  omega
 ·obtain⟨y,hy,rfl⟩:=dy.mp ((r2 z).mp hz)
  obtain⟨h1,h2⟩:=dR.mp hy
  have:=hL y h1
  have h2:y.1≠y.2:=by simpa using h2
  unfold KP mm
  show 0≤min _ _∧min _ _<max _ _∧max _ _<n
  omega
theorem RU(hr:Room 2 (zW P w K mg base f cdv A outer s H E O0 Ξ).X.A)(xf:XFly (zW P w K mg base f cdv A outer s H E O0 Ξ).X (zW P w K mg base f cdv A outer s H E O0 Ξ).W)(Tx:Txt mg)(G:FnT P w K mg base "_law_draw" 2 ["_law_pen","_law_many"] DL)(Gw:FnT P w K mg base "_law_web_of" 1 ["_law_many","_law_ties"] Da)
  (po:PO O0 p O1) (n0:3≤n) (n1:n≤16) (hL:Hy n L) (hl:L.length≤130) (q:RQ O0 p Φ):
  Ew (zW P w K mg base f cdv A outer s H E O0 Ξ) (MU p n v3 v4 v5 v6 v7 v8 v9 L v11) O1 [HL 13,HL 14] {nx:=N,rt:=Φ}:=by
 have sb:=AS
 have hu:(zW P w K mg base f cdv A outer s H E O0 Ξ).X.A.units<cLine:=by have:=hr.un;omega
 refine AD (QS (Lj PM (Ah _) (Bh G hr xf po (ev 0) AC (by decide) (by decide) fun r0 O2 _ _ po2=>ET.we AC (Li _ ⟨_,rfl,WU (fun _=>?_) (fun _=>Ap (RS hr xf Gw po2 n0 n1 hL (by omega) q))⟩))))
 refine AD (AK 6 (Bh G hr xf po2 (ev 0) (BS (ev 2) AC) (by omega) (by omega) fun one O3 o0 o1 po3=>?_) Ax.nd)
 refine AD (AK 11 (Lh (Ir (ET.we (ev 6) (Ir (EF Eg (ET.we (BM (ev 6) AC) (Bh G hr xf po3 (ev 0) (BS (BS (ev 2) AC) (ev 6)) (by omega) (by omega) fun r O4 r0 r1 po4=>GS _ (Ba ⟨by show 2≤sizeLine;decide,?_⟩))))))))  Ax.nd)
 have lf:(L.filter fun x=>!decide (jN [x.1,x.2]=[one,one+1+r])).length≤L.length:=iy ..
 refine AF (AK 10 (EF LH (ET.we (DI ["_law_other"] [("_law_pair",11)] L AL AL (fun x=>!decide (jN [x.1,x.2]=[one,one+1+r])) rfl (BP (AA Co) Ea (by decide+kernel)) (Ag (ev 10)) (by omega) fun x hx=> ⟨[some (AL x),some (AL (one,one+1+r))],fun X' Oe He is O'=>?_⟩) (EF Te (ET.we (Bb (AE (ev 11) AB) (by show 1≤sizeLine;decide)) (Bh G hr xf po4 (ev 0) AC (by decide) (by decide) fun k O5 k0 k1 po5=>Tf (by omega) _ ?_))))) Ax.nd)
 ·obtain⟨cl,s',H',fp,rfl⟩:=is
  exact⟨AM 0 Zm (by decide),BH (XF hu) (Ah _) (ZM (ms:=[one,one+1+r])) (MS (ns:=[x.1,x.2]) Tx.nSorted (ev 0) (by simp)) (QX Tx.nList (ev 1)),fun _=>ev 0⟩
 ·have lr:(e9 k.toNat (T.tup [.int one,.int (one+1+r)])).length≤1:=by rw[fQ];omega
  refine Ip (by rw[c9];omega) _ ?_
  have e:(L.filter fun x=>!decide (jN [x.1,x.2]=[one,one+1+r])).map AL++e9 k.toNat (T.tup [.int one,.int (one+1+r)])=((L.filter fun x=>!decide (jN [x.1,x.2]=[one,one+1+r]))++e9 k.toNat (one,one+1+r)).map AL:=by
   rw[e8,List.map_replicate];rfl
  rw[e]
  refine RS hr xf Gw po5 n0 n1 (fun z hz=>?_) (by rw[dz,fQ];omega) q
  rcases dJ.mp hz with hz|hz
  ·exact hL z (dR.mp hz).1
  ·rw[(List.mem_replicate.mp hz).2]
   show 0≤one∧one<n∧0≤one+1+r∧one+1+r<n
   omega
end
theorem Eb{n st bg:Int}:(Kb n st bg).length=n.toNat:=by simp[Kb]
theorem Gy{n st bg m:Int}(n0:0<n)(b0:0≤bg)(h:bg+n≤m):Hy m (Kb n st bg):=by
 intro p hp
 obtain⟨i,hi,rfl⟩:=dy.mp hp
 have hi:=dU.mp hi
 have h1:=iE (0+(i:Int)+st) (show n≠0 by omega)
 have h2:=gN (0+(i:Int)+st) n0
 show 0≤bg+(0+(i:Int))∧bg+(0+(i:Int))<m∧0≤bg+(0+(i:Int)+st)%n∧bg+(0+(i:Int)+st)%n<m
 omega
def SV(h:Int):List (Int×Int):=(dE h.toNat).map fun(i:Nat)=> (0+(i:Int),h+(0+(i:Int)))
theorem UL{h:Int}:(SV h).length=h.toNat:=by simp[SV]
theorem RV{h m:Int}(e:2*h≤m)(h0:0≤h):Hy m (SV h):=by
 intro p hp
 obtain⟨i,hi,rfl⟩:=dy.mp hp
 have hi:=dU.mp hi
 show 0≤0+(i:Int)∧0+(i:Int)<m∧0≤h+(0+(i:Int))∧h+(0+(i:Int))<m
 omega
theorem Ec{n:Int}{L M:List (Int×Int)}(a:Hy n L)(b:Hy n M):Hy n (L++M):=fun p hp=> (dJ.mp hp).elim (a p) (b p)
section
variable{P:Program}{w:World}{K:b5}{mg:Str→Option Value}{base:Heap}{f:Addr}{cdv:Value}{A:dH}{outer:List Env}{s:b6}{H:Hp}{E:XK}{O0 O1:AH}{Ξ:Value→AH→Prop}{p:Addr}{n hf way st:Int}{L es:List (Int×Int)}{v6 v7 v8:Option T}{Φ:BQ}{N:Ln}
theorem MV{ρ:List (Option T)}(Tx:Txt mg)(h0:0≤hf)(h1:hf≤8)(hρ:ρ[3]?=some (some (.int hf)))(hρl:ρ.length=12):ET (zW P w K mg base f cdv A outer s H E O0 Ξ) ρ O1 (match Zf ((cH (HL 11)).getD 1 (.Pass ⟨0,0,0,0⟩)) with| .BinOp _ _ b _=>b|x=>x) (.lst ((SV hf).map AL)):=by
 have sb:=AS
 match ρ,hρl,hρ with
 | [a0,a1,a2,a3,a4,a5,a6,a7,a8,a9,a10,a11],_,hρ=>
  cases(show a3=some (.int hf) from dW.inj hρ)
  refine ET.cast (BU ["_law_at"] [("_law_half",3)] (dE hf.toNat) (fun i=> .int (0+(i:Int))) (fun i=>AL (0+(i:Int),hf+(0+(i:Int)))) rfl (BP (AA Co) Ea (by decide+kernel)) (Ak Tx.nRange (ev 3) ⟨by omega,by omega⟩) (by simp;omega) fun x hx=> ⟨[some (.int (0+(x:Int))),some (.int hf)],fun X' Oe He is O'=>?_⟩) ?_
  ·obtain⟨cl,s',H',fp,rfl⟩:=is
   exact⟨AM 0 VS (by decide),EJ (ev 0) (BM (ev 1) (ev 0))⟩
  ·unfold SV
   rw[eK];rfl
theorem MW{ρ:List (Option T)}(Tx:Txt mg)(h0:0≤hf)(h1:hf≤8)(hρ:ρ[3]?=some (some (.int hf)))(hρl:ρ.length=12):ET (zW P w K mg base f cdv A outer s H E O0 Ξ) ρ O1 (match Zf ((cH (HL 12)).getD 1 (.Pass ⟨0,0,0,0⟩)) with| .BinOp _ _ b _=>b|x=>x) (.lst ((SV hf).map AL)):=by
 have sb:=AS
 match ρ,hρl,hρ with
 | [a0,a1,a2,a3,a4,a5,a6,a7,a8,a9,a10,a11],_,hρ=>
  cases(show a3=some (.int hf) from dW.inj hρ)
  refine ET.cast (BU ["_law_at"] [("_law_half",3)] (dE hf.toNat) (fun i=> .int (0+(i:Int))) (fun i=>AL (0+(i:Int),hf+(0+(i:Int)))) rfl (BP (AA Co) Ea (by decide+kernel)) (Ak Tx.nRange (ev 3) ⟨by omega,by omega⟩) (by simp;omega) fun x hx=> ⟨[some (.int (0+(x:Int))),some (.int hf)],fun X' Oe He is O'=>?_⟩) ?_
  ·obtain⟨cl,s',H',fp,rfl⟩:=is
   exact⟨AM 0 VS (by decide),EJ (ev 0) (BM (ev 1) (ev 0))⟩
  ·unfold SV
   rw[eK];rfl
theorem Xf(hr:Room 2 (zW P w K mg base f cdv A outer s H E O0 Ξ).X.A)(xf:XFly (zW P w K mg base f cdv A outer s H E O0 Ξ).X (zW P w K mg base f cdv A outer s H E O0 Ξ).W)(Tx:Txt mg)(G:FnT P w K mg base "_law_draw" 2 ["_law_pen","_law_many"] DL)(Gr:FnT P w K mg base "_law_round" 1 ["_law_n","_law_step","_law_begin"] Fl)(Gw:FnT P w K mg base "_law_web_of" 1 ["_law_many","_law_ties"] Da)
  (po:PO O0 p O1) (n0:3≤n) (n1:n≤16) (f0:3≤hf) (f1:hf≤8) (hE:Hy n es) (hel:es.length≤120) (hL:Hy n L) (hl:L.length≤120) (h7:way=7→L.length≤16) (q:RQ O0 p Φ):
  Ew (zW P w K mg base f cdv A outer s H E O0 Ξ) (MU p n (some (.int hf)) (some (.int way)) (some (.lst (es.map AL))) v6 v7 v8 (some (.int st)) L none) O1 [HL 9,HL 10,HL 11,HL 12,HL 13,HL 14] {nx:=N,rt:=Φ}:=by
 have sb:=AS
 refine AD (Fd (Ψ:={nx:=fun ρ' O'=>O1=O'∧∃L,ρ'=MU p n (some (.int hf)) (some (.int way)) (some (.lst (es.map AL))) v6 v7 v8 (some (.int st)) L none∧Hy n L∧L.length≤120,rt:=Φ}) (As (Dn (ev 4) AC) (fun h=>?_) (fun h=>Ap ⟨rfl,L,rfl,hL,hl⟩)) ?_ (fun _ _ z=>z) (fun _ _ z=>z) (fun _ _ z=>z))
 ·have h:way=7:=by simpa using h
  have:=h7 h
  have e:(Kb n (st+1) 0).length=n.toNat:=Eb
  refine AF (AK 10 (ET.we (Fe (ev 10) (Aa Gr (hr.mono (by decide)) xf (AE (ev 2) (AE (BM (ev 9) AC) (AE AC AB))) ⟨n,st+1,0,rfl,by omega,by omega,rfl⟩) (by simp only[c9];omega)) ?_) Ax.nd)
  refine⟨rfl,L++Kb n (st+1) 0,?_,Ec hL (Gy (by omega) (by omega) (by omega)),by rw[dz];omega⟩
  unfold MU
  rw[e8];rfl
 rintro _ _ ⟨rfl,L,rfl,hL,hl⟩
 refine AD (Fd (Ψ:={nx:=fun ρ' O'=>O1=O'∧∃L,ρ'=MU p n (some (.int hf)) (some (.int way)) (some (.lst (es.map AL))) v6 v7 v8 (some (.int st)) L none∧Hy n L∧L.length≤120,rt:=Φ}) (As (Dn (ev 4) AC) (fun h=>?_) (fun h=>Ap ⟨rfl,L,rfl,hL,hl⟩)) ?_ (fun _ _ z=>z) (fun _ _ z=>z) (fun _ _ z=>z))
 ·have lf:(es.filter fun x=>decide (x.1<hf)&&decide (hf≤x.2)).length≤es.length:=iy ..
  refine AF (EG (i:=10) (nc:=["_law_pair"]) (cap:=[("_law_half",3)]) (by rfl) Ax.nd rfl (BP (AA Co) Ea (by decide+kernel)) (Ag (ev 5) _ (DH es AL AL (fun x=>decide (x.1<hf)&&decide (hf≤x.2)) (by omega) (fun x hx=> ⟨[some (AL x),some (.int hf)],fun X' Oe He is O'=>?_⟩) ?_)))
  ·obtain⟨cl,s',H',fp,rfl⟩:=is
   exact⟨AM 0 Zr (by decide),EW.eb (Er (QN (Aw (ev 0) AC) (ev 1)) fun _=>Fc (ZF (Aw (ev 0) AC) (ev 1))),fun _=>ev 0⟩
  ·exact⟨rfl,_,rfl,fun z hz=>hE z (dR.mp hz).1,by omega⟩
 rintro _ _ ⟨rfl,L,rfl,hL,hl⟩
 have e1:(Kb hf 1 0).length=hf.toNat:=Eb
 have e2:(Kb hf st hf).length=hf.toNat:=Eb
 have e3:(SV hf).length=hf.toNat:=UL
 have e4:(Kb (2*hf) 1 0).length=(2*hf).toNat:=Eb
 refine AD (Fd (Ψ:={nx:=fun ρ' O'=>O1=O'∧∃n L,3≤n∧n≤16∧ρ'=MU p n (some (.int hf)) (some (.int way)) (some (.lst (es.map AL))) v6 v7 v8 (some (.int st)) L none∧Hy n L∧L.length≤120,rt:=Φ}) (As (EW.eb (Er (Dn (ev 4) AC) fun _=>Fc (QO (CZ AC (ev 3) (.inl ⟨by decide,by decide⟩)) (ev 1)))) (fun h=>?_) (fun h=>Ap ⟨rfl,n,L,n0,n1,rfl,hL,hl⟩)) ?_ (fun _ _ z=>z) (fun _ _ z=>z) (fun _ _ z=>z))
 ·have h:(decide (way=4)&&decide (2*hf≤16))=true:=h
  have h16:2*hf≤16:=by simp at h;omega
  refine AD (AK 2 (ET.we (CZ AC (ev 3) (.inl ⟨by decide,by decide⟩)) ?_) Ax.nd)
  refine AF (AK 10 (ET.we (t:=.lst ((Kb hf 1 0++Kb hf st hf++SV hf).map AL)) ?_ ?_) Ax.nd)
  rotate_left
  ·exact⟨rfl,2*hf,_,by omega,by omega,rfl,Ec (Ec (Gy (by omega) (by omega) (by omega)) (Gy (by omega) (by omega) (by omega))) (RV (by omega) (by omega)),by simp only[dz];omega⟩
  rw[e8,e8]
  exact Fe (Fe (Aa Gr (hr.mono (by decide)) xf (AE (ev 3) (AE AC (AE AC AB))) ⟨hf,1,0,rfl,by omega,by omega,rfl⟩) (Aa Gr (hr.mono (by decide)) xf (AE (ev 3) (AE (ev 9) (AE (ev 3) AB))) ⟨hf,st,hf,rfl,by omega,by omega,rfl⟩) (by simp only[c9];omega)) (MV Tx (by omega) (by omega) rfl rfl) (by simp only[dz,c9];omega)
 rintro _ _ ⟨rfl,n,L,n0,n1,rfl,hL,hl⟩
 refine AD (As (EW.eb (Er (Dn (ev 4) AC) fun _=>Fc (QO (CZ AC (ev 3) (.inl ⟨by decide,by decide⟩)) (ev 1)))) (fun h=>?_) (fun h=>Ap (RU hr xf Tx G Gw po n0 n1 hL (by omega) q)))
 have h:(decide (way=5)&&decide (2*hf≤16))=true:=h
 have h16:2*hf≤16:=by simp at h;omega
 refine AD (AK 2 (ET.we (CZ AC (ev 3) (.inl ⟨by decide,by decide⟩)) ?_) Ax.nd)
 refine AF (AK 10 (ET.we (t:=.lst ((Kb (2*hf) 1 0++SV hf).map AL)) ?_ (RU hr xf Tx G Gw po (by omega) (by omega) (Ec (Gy (by omega) (by omega) (by omega)) (RV (by omega) (by omega))) (by simp only[dz];omega) q)) Ax.nd)
 rw[e8]
 exact Fe (Aa Gr (hr.mono (by decide)) xf (AE (ev 2) (AE AC (AE AC AB))) ⟨2*hf,1,0,rfl,by omega,by omega,rfl⟩) (MW Tx (by omega) (by omega) rfl rfl) (by simp only[c9];omega)
end
section
variable{P:Program}{w:World}{K:b5}{mg:Str→Option Value}{base:Heap}{f:Addr}{cdv:Value}{A:dH}{outer:List Env}{s:b6}{H:Hp}{E:XK}{O0 O1:AH}{Ξ:Value→AH→Prop}{p:Addr}{n hf way sh st:Int}{L es ds:List (Int×Int)}{v6 v7 v8:Option T}{Φ:BQ}{N:Ln}
def RW(n:Int)(es ds:List (Int×Int)):List (List (Int×Int)):=[ds,Kb n 1 0,es,ds,[],[],ds,Kb n 1 0]
theorem RX(n0:3≤n)(n1:n≤16)(hE:Hy n es)(hel:es.length≤120)(hD:Hy n ds)(hdl:ds.length≤120)(w0:0≤way)(w1:way<8):
  ∃L,atI ((RW n es ds).map fun L=>T.lst (L.map AL)) way=some (.lst (L.map AL))∧Hy n L∧L.length≤120∧(way=7→L.length≤16):=by
 have e:(Kb n 1 0).length=n.toNat:=Eb
 have hR:Hy n (Kb n 1 0):=Gy (by omega) (by omega) (by omega)
 have:way=0∨way=1∨way=2∨way=3∨way=4∨way=5∨way=6∨way=7:=by omega
 have hN:Hy n []:=fun _ h=>by cases h
 rcases this with rfl|rfl|rfl|rfl|rfl|rfl|rfl|rfl
 ·exact⟨ds,rfl,hD,hdl,fun z=>by omega⟩
 ·exact⟨_,rfl,hR,by omega,fun z=>by omega⟩
 ·exact⟨es,rfl,hE,hel,fun z=>by omega⟩
 ·exact⟨ds,rfl,hD,hdl,fun z=>by omega⟩
 ·exact⟨[],rfl,hN,by simp,fun z=>by omega⟩
 ·exact⟨[],rfl,hN,by simp,fun z=>by omega⟩
 ·exact⟨ds,rfl,hD,hdl,fun z=>by omega⟩
 ·exact⟨_,rfl,hR,by omega,fun z=>by omega⟩
theorem Xg(hr:Room 2 (zW P w K mg base f cdv A outer s H E O0 Ξ).X.A)(xf:XFly (zW P w K mg base f cdv A outer s H E O0 Ξ).X (zW P w K mg base f cdv A outer s H E O0 Ξ).W)(Tx:Txt mg)(G:FnT P w K mg base "_law_draw" 2 ["_law_pen","_law_many"] DL)(Gr:FnT P w K mg base "_law_round" 1 ["_law_n","_law_step","_law_begin"] Fl)(Gw:FnT P w K mg base "_law_web_of" 1 ["_law_many","_law_ties"] Da)
  (po:PO O0 p O1) (n0:3≤n) (n1:n≤16) (f0:3≤hf) (f1:hf≤8) (w0:0≤way) (w1:way<8) (hE:Hy n es) (hel:es.length≤120) (q:RQ O0 p Φ):
  Ew (zW P w K mg base f cdv A outer s H E O0 Ξ) [some (.raw (.ref p)),some (.int 16),some (.int n),some (.int hf),some (.int way),some (.lst (es.map AL)),v6,none,none,none,none,none] O1 [HL 5,HL 6,HL 7,HL 8,HL 9,HL 10,HL 11,HL 12,HL 13,HL 14] {nx:=N,rt:=Φ}:=by
 have sb:=AS
 refine AD (AK 7 (EF Eg (ET.we AC (Bh G hr xf po (ev 0) AC (by decide) (by decide) fun r O2 r0 r1 po2=>GS _ ?_))) Ax.nd)
 refine AD (EG (i:=8) (nc:=["_law_pair"]) (cap:=[("_law_pen",0),("_law_share",7)]) (by rfl) Ax.nd rfl (BP (AA Co) Ea (by decide+kernel)) (EI.wi (Ag (ev 5)) ?_))
 refine⟨fun i acc O'=>∃qs:List (Int×Int),acc=qs.map AL∧Hy n qs∧qs.length≤i∧i≤120∧PO O0 p O',⟨[],rfl,(fun _ h=>by cases h),by simp,by omega,po2⟩,?_,?_⟩
 ·rintro i t acc O' c e ⟨qs,rfl,hq,hl,_,po⟩ hc
  rw[b9] at e
  cases ee:es[i]? with
  |none=>rw[ee] at e;cases e
  |some z=>
   rw[ee] at e
   cases e
   have hi:=(dt.mp ee).1
   refine⟨[some (AL z),some (.raw (.ref p)),some (.int (2+r))],fun X' Oe He is=>?_⟩
   obtain⟨cl,s',H',fp,rfl⟩:=is
   refine⟨AM 0 Zq (by decide),NJ (Lj PM (Ah _) (Qs G hr BW po hc (ev 1) (ev 2) (by omega) (by omega) fun r' O3 r0' r1' po3 hc3=>ET.we AC (Li _ ⟨_,rfl,?_⟩)))⟩
   refine WU (fun h=>?_) (fun h=>?_)
   ·rintro X' Oe He ⟨cl,s',H',fp,rfl⟩
    refine ET.we (ev 0) ⟨O3,rfl,hc3,by rw[c9];omega,qs++[z],by rw[e8];rfl,fun y hy=>?_,by simp;omega,by omega,po3⟩
    rcases dJ.mp hy with hy|hy
    ·exact hq y hy
    ·rw[b8.mp hy];exact hE z (dj ee)
   ·exact⟨O3,rfl,hc3,qs,rfl,hq,by omega,by omega,po3⟩
 ·rintro acc O' ⟨ds,rfl,hD,hdl,_,po3⟩
  rw[c9] at hdl
  refine AD (AK 9 (EF Eg (ET.we AC (Bh G hr xf po3 (ev 0) (EH Tx.nMax rfl AC (Ca (BS (ev 3) AC) AC ⟨by decide,by decide⟩)) (by omega) (by omega) fun st O4 t0 t1 po4=>GS _ ?_))) Ax.nd)
  obtain⟨L,a1,a2,a3,a4⟩:=RX (n:=n) (es:=es) (ds:=ds) (way:=way) n0 n1 hE hel hD (by omega) w0 w1
  refine AD (AK 10 (ET.we (Cb (ts:=(RW n es ds).map fun L=>T.lst (L.map AL)) (Bb (AE (ev 8) (AE ?_ (AE (ev 5) (AE (ev 8) (AE (Bb AB (fb _)) (AE (Bb AB (fb _)) (AE (ev 8) (AE ?_ AB)))))))) (fI (show 8≤1000 by decide) (jB sb))) (ev 4) a1) ?_) Ax.nd)
  ·exact Aa Gr (hr.mono (by decide)) xf (AE (ev 2) (AE AC (AE AC AB))) ⟨n,1,0,rfl,by omega,by omega,rfl⟩
  ·exact Aa Gr (hr.mono (by decide)) xf (AE (ev 2) (AE AC (AE AC AB))) ⟨n,1,0,rfl,by omega,by omega,rfl⟩
  ·exact Xf hr xf Tx G Gr Gw po4 n0 n1 f0 f1 hE hel a2 a3 a4 q
def RY:Bf:=fun ts O Φ _=>∃(p:Addr) (xs:List T),ts=[.raw (.ref p),.int 16]∧O p=some xs∧KQ xs∧RQ O p Φ
theorem Kc{fd:dD}(F:Fun K "_law_some_web" "_law_some_web" Co f fd)(Tx:Txt mg)(G:FnT P w K mg base "_law_draw" 2 ["_law_pen","_law_many"] DL)(Gr:FnT P w K mg base "_law_round" 1 ["_law_n","_law_step","_law_begin"] Fl)(Gw:FnT P w K mg base "_law_web_of" 1 ["_law_many","_law_ties"] Da):FnOk P w K mg base (CXe P w) 3 f fd ["_law_pen","_law_most"] (Bq K RY):=by
 refine AU F Ax ?_ ?_
 ·rintro ts O Φ Ξ ⟨p,xs,rfl,_⟩
  rfl
 ·rintro cdv A outer s H E O Ξ hr xf _ Φ ⟨p,xs,rfl,hp,px,q⟩
  have sb:=AS
  refine AD (AK 2 (EF Eg (ET.we AC (Bh G hr xf (PO.start hp px) (ev 0) (BS (ev 1) AC) (by decide) (by decide) fun r O1 r0 r1 po1=>GS _ ?_))) Ax.nd)
  have n0:3≤3+r:=by omega
  have n1:3+r≤16:=by omega
  refine AD (AK 3 (ET.we (EH Tx.nMax rfl AC (Ca (ev 2) AC ⟨by decide,by decide⟩)) ?_) Ax.nd)
  have f0:3≤max 3 ((3+r)/2):=by omega
  have f1:max 3 ((3+r)/2)≤8:=by omega
  refine AD (AK 4 (Bh G hr xf po1 (ev 0) AC (by decide) (by decide) fun way O2 w0 w1 po2=>?_) Ax.nd)
  refine AD (AK 5 (Fb (Ba ⟨fb _,fun l hl=>?_⟩)) Ax.nd)
  refine AD (Bc Aq.own rfl (EI.wi (Ak Tx.nRange (ev 2) ⟨by omega,by omega⟩) ⟨fun i ρ' O'=>i≤16∧∃(es:List (Int×Int)) (v6:Option T),ρ'=[some (.raw (.ref p)),some (.int 16),some (.int (3+r)),some (.int (max 3 ((3+r)/2))),some (.int way),some (.raw (.ref l)),v6,none,none,none,none,none]∧O'=Aj O2 l (es.map AL)∧Hy (3+r) es∧2*es.length+i=i*i,⟨by omega,[],none,rfl,rfl,(fun _ h=>by cases h),rfl⟩,?_,?_⟩))
  ·rintro i t _ _ e ⟨_,es,v6,rfl,rfl,hE,hlen⟩
   obtain⟨hi,rfl⟩:=DF e
   have hi2:i<16:=by omega
   have hsq:i*i≤15*15:=Nat.mul_le_mul (by omega) (by omega)
   refine⟨[some (.raw (.ref p)),some (.int 16),some (.int (3+r)),some (.int (max 3 ((3+r)/2))),some (.int way),some (.raw (.ref l)),some (.int (0+i)),none,none,none,none,none],AM 6 Ax.nd (by show 6<12;decide),?_⟩
   refine AF (Ac (OX (ET.we (ev 5) ⟨l,rfl,⟨_,AG⟩,ET.we (BU ["_law_other"] [("_law_one",6)] (dE (0+(i:Int)).toNat) (fun j=> .int (0+(j:Int))) (fun j=>AL (0+(j:Int),0+(i:Int))) rfl (BP (AA Co) Ea (by decide+kernel)) (Ak Tx.nRange (ev 6) ⟨by omega,by omega⟩) (by simp;omega) fun x hx=> ⟨[some (.int (0+(x:Int))),some (.int (0+(i:Int)))],fun X' Oe He is O'=>?_⟩) ⟨_,_,rfl,AG,by simp only[c9,eP];omega,?_⟩⟩)))
   ·obtain⟨cl,s',H',fp,rfl⟩:=is
    exact⟨AM 0 Zp (by decide),EJ (ev 0) (ev 1)⟩
   ·refine⟨by omega,es++(dE (0+(i:Int)).toNat).map (fun(j:Nat)=> (0+(j:Int),0+(i:Int))),_,rfl,?_,Ec hE (fun z hz=>?_),?_⟩
    ·rw[Bt,e8,eK];rfl
    ·obtain⟨j,hj,rfl⟩:=dy.mp hz
     have hj:=dU.mp hj
     show 0≤0+(j:Int)∧0+(j:Int)<3+r∧0≤0+(i:Int)∧0+(i:Int)<3+r
     omega
    ·rw[dz,c9,eP]
     have e1:(i+1)*(i+1)=i*i+2*i+1:=by rw[Nat.succ_mul,Nat.mul_succ];omega
     rw[e1]
     omega
  ·rintro _ _ ⟨_,es,v6,rfl,rfl,hE,hlen⟩
   rw[BX] at hlen
   have hsq:(3+r).toNat*(3+r).toNat≤16*(3+r).toNat:=Nat.mul_le_mul_right _ (by omega)
   refine DE (p:=l) (n:=5) (ts:=es.map AL) AG ?_ rfl ?_
   ·obtain⟨ys,rfl,_⟩:=po2
    by_cases hb:l=p
    ·rw[hb,AG] at hl;cases hl
    ·rw[AZ hb] at hl;exact hl
   ·rw[Az hl]
    exact Xg hr xf Tx G Gr Gw po2 n0 n1 f0 f1 w0 w1 hE (by omega) q
end
open Gr
theorem NZ:∀{xs ys:List Int},xs.Pairwise (· < ·)→ys.Pairwise (· < ·)→(∀v,v∈xs↔v∈ys)→xs=ys
 | [],[],_,_,_=>rfl
 | [],y::ys,_,_,h=>by have:=(h y).mpr (by simp);cases this
 |x::xs,[],_,_,h=>by have:=(h x).mp (by simp);cases this
 |x::xs,y::ys,h1,h2,h=>by
  rw[List.pairwise_cons] at h1 h2
  have e:x=y:=by
   have a:=(h x).mp (by simp)
   have b:=(h y).mpr (by simp)
   rcases dh.mp a with a|a
   ·exact a
   ·rcases dh.mp b with b|b
    ·exact b.symm
    ·have:=h1.1 y b
     have:=h2.1 x a
     omega
  subst e
  congr 1
  refine NZ h1.2 h2.2 fun v=> ⟨fun hv=>?_,fun hv=>?_⟩
  ·rcases dh.mp ((h v).mp (dw _ hv)) with e|e
   ·have:=h1.1 v hv
    omega
   ·exact e
  ·rcases dh.mp ((h v).mpr (dw _ hv)) with e|e
   ·have:=h2.1 v hv
    omega
   ·exact e
theorem JR{n:Int}{ps:List (Int×Int)}{i:Nat}(hw:HD n ps)(hp:ps.Pairwise Oz):(AV ps i).Pairwise (· < ·):=by
 unfold AV
 rw[List.pairwise_filterMap]
 refine gQ ?_ hp
 intro p q hp hq h x hx y hy
 have a:=hw p hp
 have b:=hw q hq
 unfold Oz at h
 have f:∀(r:Int×Int) (z:Int),(if r.1=(i:Int) then some r.2 else if r.2=(i:Int) then some r.1 else none)=some z→(r.1=(i:Int)∧r.2=z)∨(r.1≠(i:Int)∧r.2=(i:Int)∧r.1=z):=fun r z e=>by
  by_cases h:r.1=(i:Int)
  ·rw[if_pos h] at e
   cases e
   exact .inl ⟨h,rfl⟩
  ·rw[if_neg h] at e
   by_cases h2:r.2=(i:Int)
   ·rw[if_pos h2] at e
    cases e
    exact .inr ⟨h,h2,rfl⟩
   ·rw[if_neg h2] at e;cases e
 rcases f p x hx with c|c<;>rcases f q y hy with d|d<;>omega
end K12
namespace GrR
variable{R:Int→Int→Prop}{a b p q:Int}{L M:List Int}{k d s:Nat}
def Ch(R:Int→Int→Prop):List Int→Prop
 |a::b::L=>R a b∧Ch R (b::L)
 |_=>True
theorem Ch.tail(h:Ch R (a::L)):Ch R L:=by
 cases L with
 |nil=>trivial
 |cons b L=>exact h.2
theorem JS:Ch R (L++a::M)↔Ch R (L++[a])∧Ch R (a::M):=by
 induction L with
 |nil=>exact⟨fun h=> ⟨trivial,h⟩,fun h=>h.2⟩
 |cons x L ih=>
  cases L with
  |nil=>exact⟨fun h=> ⟨⟨h.1,trivial⟩,h.2⟩,fun h=> ⟨h.1.1,h.2⟩⟩
  |cons y L=>
   constructor
   ·intro h
    have:=ih.mp h.2
    exact⟨⟨h.1,this.1⟩,this.2⟩
   ·intro h
    exact⟨h.1.1,ih.mpr ⟨h.1.2,h.2⟩⟩
theorem Ed:Ch R (L++[a]++[b])↔Ch R (L++[a])∧R a b:=by
 rw[gi]
 exact JS.trans ⟨fun h=> ⟨h.1,h.2.1⟩,fun h=> ⟨h.1,h.2,trivial⟩⟩
theorem RZ(sy:∀u v,R u v→R v u):∀{L:List Int},Ch R L→Ch R L.reverse
 | [],_=>trivial
 | [a],_=>trivial
 |a::b::L,h=>by
  have:=RZ sy h.2
  rw[jD,jD] at*
  exact Ed.mpr ⟨this,sy _ _ h.1⟩
structure Ring(R:Int→Int→Prop)(L:List Int):Prop where
 len:3≤L.length
 nd:L.Nodup
 ch:Ch R L
 cl:∀a z,L.head?=some a→L.getLast?=some z→R z a
theorem Ee(sy:∀u v,R u v→R v u):∀{p q:List Int} {a z:Int},Ch R (a::p)→Ch R (a::q)→(a::p).Nodup→(a::q).Nodup→(a::p).getLast?=some z→(a::q).getLast?=some z→p≠q→∃L,Ring R L∧L.length≤p.length+q.length
 | [],[],a,z,_,_,_,_,_,_,ne=>absurd rfl ne
 | [],c::q,a,z,_,_,_,nq,lp,lq,_=>by
  have e:z=a:=by simpa using lp.symm
  subst e
  rw[fU] at lq
  exact absurd (iG lq) (dO.mp nq).1
 |b::p,[],a,z,_,_,np,_,lp,lq,_=>by
  have e:z=a:=by simpa using lq.symm
  subst e
  rw[fU] at lp
  exact absurd (iG lp) (dO.mp np).1
 |b::p,c::q,a,z,hp,hq,np,nq,lp,lq,ne=>by
  rw[fU] at lp lq
  by_cases e:b=c
  ·subst e
   obtain⟨L,r,l⟩:=Ee sy hp.2 hq.2 (dO.mp np).2 (dO.mp nq).2 lp lq (fun z=>ne (by rw[z]))
   exact⟨L,r,by simp only[dA];omega⟩
  ·--the first of the second way that lies on the first
   have key:∀Q:List Int,(∃m∈Q,m∈b::p)→∃x m y,Q=x++m::y∧m∈b::p∧∀t∈x,t∉b::p:=by
    intro Q
    induction Q with
    |nil=>rintro⟨m,hm,_⟩;cases hm
    |cons t Q ih=>
     intro h
     by_cases ht:t∈b::p
     ·exact⟨[],t,Q,rfl,ht,fun _ h=>by cases h⟩
     ·obtain⟨m,hm,hm2⟩:=h
      rcases dh.mp hm with rfl|hm
      ·exact absurd hm2 ht
      ·obtain⟨x,m,y,e,h1,h2⟩:=ih ⟨m,hm,hm2⟩
       refine⟨t::x,m,y,by rw[e];rfl,h1,fun u hu=>?_⟩
       rcases dh.mp hu with rfl|hu
       ·exact ht
       ·exact h2 u hu
   obtain⟨x,m,y,eq,hm,hx⟩:=key (c::q) ⟨z,iG lq,iG lp⟩
   obtain⟨u,v,ep⟩:=List.append_of_mem hm
   have ha1:=(dO.mp np).1
   have ha2:=(dO.mp nq).1
   have n1:=(dO.mp np).2
   have n2:=(dO.mp nq).2
   rw[eq] at ha2 n2 hq
   have hum:∀t,t∈u++[m]→t∈b::p:=fun t ht=>by
    rw[ep];simp only[dJ,dh,dI,or_false] at ht ⊢;rcases ht with h|h
    ·exact .inl h
    ·exact .inr (.inl h)
   have l1:(b::p).length=u.length+(v.length+1):=by rw[ep];simp
   have l2:(c::q).length=x.length+(y.length+1):=by rw[eq];simp
   simp only[dA] at l1 l2
   refine⟨a::(u++[m]++x.reverse),⟨?_,?_,?_,?_⟩,?_⟩
   ·simp only[dA,dz,List.length_reverse,gY]
    cases u with
    |cons _ _=>simp only[dA];omega
    |nil=>
     cases x with
     |cons _ _=>simp only[dA];omega
     |nil=>
      have e1:b=m:=by simpa using(nB.inj ep).1
      have e2:c=m:=by simpa using(nB.inj eq).1
      exact absurd (e1.trans e2.symm) e
   ·rw[dO]
    refine⟨fun h=>?_,?_⟩
    ·rcases dJ.mp h with h|h
     ·exact ha1 (hum _ h)
     ·exact ha2 (gu _ (List.mem_reverse.mp h))
    ·rw[eY]
     rw[ep] at n1
     refine⟨?_,List.pairwise_reverse.mpr ((eY.mp n2).1.imp Ne.symm),fun t ht w hw e=>hx w (List.mem_reverse.mp hw) (e▸hum t ht)⟩
     have:=eY.mp (show(u++m::v).Nodup from n1)
     rw[eY]
     exact⟨this.1,by simp,fun t ht w hw=>this.2.2 t ht w (by rw[b8.mp hw];simp)⟩
   ·have h1:Ch R ((a::u)++[m]):=(JS (M:=v)).mp (by rw[eZ,←ep];exact hp)|>.1
    have h2:Ch R (m::x.reverse):=by
     have:Ch R (x++[m]):=((JS (L:=a::x) (M:=y)).mp hq).1.tail
     have:=RZ sy this
     rwa[jY] at this
    have:=(JS (L:=a::u) (a:=m) (M:=x.reverse)).mpr ⟨h1,h2⟩
    rwa[show a::(u++[m]++x.reverse)=(a::u)++m::x.reverse by simp]
   ·intro a' z' h1 h2
    have:a'=a:=by simpa using h1.symm
    subst this
    cases x with
    |nil=>
     have e2:c=m:=by simpa using(nB.inj eq).1
     have:z'=m:=by
      rw[List.reverse_nil,i8,←eZ,gR] at h2
      simpa using h2.symm
     rw[this]
     exact sy _ _ hq.1
    |cons t x=>
     have:z'=t:=by
      rw[jD,←gi,←eZ,gR] at h2
      simpa using h2.symm
     rw[this]
     exact sy _ _ hq.1
   ·simp only[dA,dz,List.length_reverse,gY]
    omega
theorem UM(h:IsD R [p] q d):∃L,L.length=d+1∧L.head?=some p∧L.getLast?=some q∧L.Nodup∧Ch R L∧∀x∈L,∃i,i≤d∧IsD R [p] x i:=by
 induction d generalizing q with
 |zero=>
  have:q=p:=by
   cases h.1 with
   |«at» h=>exact b8.mp h
  subst this
  exact⟨[q],rfl,rfl,rfl,by simp,trivial,fun x hx=>by rw[b8.mp hx];exact⟨0,dm _,h⟩⟩
 |succ d ih=>
  obtain⟨u,hu,r⟩:=h.prev
  obtain⟨L,l1,l2,l3,l4,l5,l6⟩:=ih hu
  obtain⟨M,rfl⟩:∃M,L=M++[u]:=iz.mp l3
  refine⟨M++[u]++[q],by simp only[dz,dA,gY] at l1 ⊢;omega,?_,by simp,?_,Ed.mpr ⟨l5,r⟩,fun x hx=>?_⟩
  ·rw[List.head?_append,l2];rfl
  ·rw[eY]
   refine⟨l4,by simp,fun x hx y hy e=>?_⟩
   rw[b8.mp hy] at e
   subst e
   obtain⟨i,hi,hd⟩:=l6 x hx
   have:=hd.uniq h
   omega
  ·rcases dJ.mp hx with hx|hx
   ·obtain⟨i,hi,hd⟩:=l6 x hx
    exact⟨i,by omega,hd⟩
   ·rw[b8.mp hx];exact⟨d+1,dm _,h⟩
theorem Zs:∀{L:List Int} {p q:Int},Ch R (p::L)→(p::L).getLast?=some q→W R [p] L.length q
 | [],p,q,_,h=>by
  have:q=p:=by simpa using h.symm
  rw[this];exact .at (by simp)
 |b::L,p,q,hc,h=>by
  rw[fU] at h
  exact .consR hc.1 (Zs hc.2 h)
variable{R:Int→Int→Prop}{nb:Int→List Int}{c:Nat→Int→Bool}{a b p q v:Int}{L M r:List Int}{rs:List (List Int)}{k d s:Nat}{n:Int}
def lst(r:List Int):Int:=r.getLastD 0
theorem Xh(h:r.getLast?=some a):lst r=a:=by
 unfold lst
 rw[List.getLastD_eq_getLast?,h];rfl
theorem MX(h:r≠[]):r.getLast?=some (lst r):=by
 cases e:r.getLast? with
 |none=>exact absurd (List.getLast?_eq_none_iff.mp e) h
 |some a=>rw[Xh e]
variable{R R':Int→Int→Prop}{nb:Int→List Int}{a b p q v:Int}{L M r:List Int}{k d s:Nat}{n:Int}
def VT(R:Int→Int→Prop)(a b u v:Int):Prop:=R u v∧¬(u=a∧v=b)∧¬(u=b∧v=a)
theorem JT:∀{L:List Int},Ch R L→(∀u∈L,∀v∈L,R u v→R' u v)→Ch R' L
 | [],_,_=>trivial
 | [_],_,_=>trivial
 |a::b::L,h,m=> ⟨m a (by simp) b (by simp) h.1,JT h.2 fun u hu v hv=>m u (dw _ hu) v (dw _ hv)⟩
theorem Xj(h:Ring R r):∃a b,R a b∧W (VT R a b) [b] (r.length-1) a:=by
 match r,h with
 | [],h=>exact absurd h.len (by decide)
 | [_],h=>exact absurd h.len (by show¬3≤1;decide)
 | [_,_],h=>exact absurd h.len (by show¬3≤2;decide)
 |x::y::t::L,h=>
  have hne:(t::L)≠[]:=by simp
  have hz:(x::y::t::L).getLast?=some (lst (t::L)):=by
   rw[fU,fU];exact MX hne
  have hmz:lst (t::L)∈t::L:=iG (MX hne)
  generalize lst (t::L)=z at hz hmz
  have nd:=h.nd
  rw[dO,dO] at nd
  refine⟨z,x,h.cl x z rfl hz,?_⟩
  refine Zs (L:=y::t::L) ⟨⟨h.ch.1,fun e=>?_,fun e=>?_⟩,JT h.ch.2 fun u hu v hv r=> ⟨r,fun e=>?_,fun e=>?_⟩⟩ hz
  ·exact nd.1 (e.2▸dP ..)
  ·exact nd.2.1 (e.2▸hmz)
  ·exact nd.1 (e.2▸hv)
  ·exact nd.1 (e.1▸hu)
theorem UN(sy:∀u v,R u v→R v u)(ir:∀u,¬R u u)(h:R a b)(hd:IsD (VT R a b) [a] b d):∃r,Ring R r∧r.length=d+1:=by
 obtain⟨L,l1,l2,l3,l4,l5,_⟩:=UM hd
 refine⟨L,⟨?_,l4,JT l5 fun u _ v _ c=>c.1,fun x z h1 h2=>?_⟩,l1⟩
 ·match d,hd with
  |0,hd=>
   cases hd.1 with
   |«at» hm=>rw[b8.mp hm] at h;exact absurd h (ir _)
  |1,hd=>
   cases hd.1 with
   |go w c=>
    cases w with
    |«at» hm=>rw[b8.mp hm] at c;exact absurd ⟨rfl,rfl⟩ c.2.1
  |d+2,_=>omega
 ·rw[l2] at h1
  rw[l3] at h2
  cases h1
  cases h2
  exact sy _ _ h
theorem UO(hb:∀u v,R u v→0≤v∧v<n)(h:Ring R r):∀z∈r,0≤z∧z<n:=by
 have key:∀{L:List Int} {x:Int},0≤x∧x<n→Ch R (x::L)→∀z∈x::L,0≤z∧z<n:=by
  intro L
  induction L with
  |nil=>intro x hx _ z hz;rw[b8.mp hz];exact hx
  |cons y L ih=>
   intro x hx hc z hz
   rcases dh.mp hz with rfl|hz
   ·exact hx
   ·exact ih (hb _ _ hc.1) hc.2 z hz
 cases r with
 |nil=>intro z hz;cases hz
 |cons x L=>exact key (hb _ _ (h.cl x _ rfl (MX (by simp)))) h.ch
variable{R:Int→Int→Prop}{nb:Int→List Int}{c:Nat→Int→Bool}{p:Int}{r q:List Int}{k s:Nat}{n:Int}
end GrR
namespace K12
open PySem L2 L2.TL PySem.Spec PyProof.Rows GrR
variable{n:Int}{ps:List (Int×Int)}{s:Nat}
theorem Ra:∀u v,Gr.Adj ps u v→Gr.Adj ps v u:=fun _ _ h=>h.symm
theorem MY:∀u v,v∈Be ps u↔Gr.Adj ps u v:=fun _ _=>Hv
theorem On(hw:Gr.HD n ps){i:Nat}:AV ps i=Be ps (i:Int):=by
 unfold AV Be
 induction ps with
 |nil=>rfl
 |cons p ps ih=>
  have ih:=ih fun q hq=>hw q (dw _ hq)
  have hp:=hw p (by simp)
  by_cases h1:p.1=(i:Int)
  ·rw[eT,if_pos h1,fv,if_pos (by simp[h1]),dM,←ih,show p.1+p.2- (i:Int)=p.2 by omega]
  ·by_cases h2:p.2=(i:Int)
   ·rw[eT,if_neg h1,if_pos h2,fv,if_pos (by simp[h2]),dM,←ih,show p.1+p.2- (i:Int)=p.1 by omega]
   ·rw[eT,if_neg h1,if_neg h2,fv,if_neg (by simp only[dh,dI,or_false,decide_eq_true_eq];exact fun z=>z.elim (fun z=>h1 z.symm) (fun z=>h2 z.symm))]
    exact ih
theorem UP(hw:Gr.HD n ps){u:Int}(h:u<0):Be ps u=[]:=by
 cases e:Be ps u with
 |nil=>rfl
 |cons v l=>
  have:Gr.Adj ps u v:=Hv.mp (by rw[e];simp)
  have:=(this.symm.inb hw).1
  omega
theorem Oo(hw:Gr.HD n ps)(hp:ps.Pairwise Oz):∀u,(Be ps u).Pairwise (· < ·):=fun u=>by
 by_cases h:u<0
 ·rw[UP hw h];exact iH
 ·obtain⟨i,rfl⟩:=dZ (show 0≤u by omega)
  rw[←On hw]
  exact JR hw hp
theorem Na(hw:Gr.HD n ps):∀u v,Gr.Adj ps u v→0≤v∧v<n:=fun u v h=> ⟨(h.inb hw).1,(h.inb hw).2.1⟩
theorem VU(hw:Gr.HD n ps)(hp:ps.Pairwise Oz):∀u,(Be ps u).Nodup:=fun u=>eU.imp (fun h=>by omega) (Oo hw hp u)
def PB(ps:List (Int×Int)):Option Int:=Bd (An (ps.map fun p=>CI ps p))
theorem Ke(hw:Gr.HD n ps){p:Int×Int}(hp:p∈ps):Gr.Adj (FP ps p)=VT (Gr.Adj ps) p.1 p.2:=by
 funext u v
 have:=EY hw (a:=p.1) (b:=p.2) (u:=u) (v:=v)
 rw[(NY hw hp).1] at this
 exact propext this
theorem Kf{z:Int}:z∈An (ps.map fun p=>CI ps p)↔∃p∈ps,∃d:Nat,Hw (Gr.Adj (FP ps p)) [p.1] p.2=some d∧z=d+1:=by
 rw[Ci]
 constructor
 ·rintro⟨i,d,h,rfl⟩
  rw[b9] at h
  cases e:ps[i]? with
  |none=>rw[e] at h;cases h
  |some p=>
   rw[e] at h
   have h:CI ps p=some d:=by simpa using h
   unfold CI at h
   cases e2:Hw (Gr.Adj (FP ps p)) [p.1] p.2 with
   |none=>rw[e2] at h;cases h
   |some d'=>
    rw[e2] at h
    have:d'+1=d:=by simpa using h
    exact⟨p,dj e,d',e2,by omega⟩
 ·rintro⟨p,hp,d,h,rfl⟩
  obtain⟨i,hi,rfl⟩:=iR hp
  refine⟨i,d+1,?_,by omega⟩
  rw[b9,di hi]
  unfold CI
  simp[h]
theorem Nb(hw:Gr.HD n ps){r:List Int}(h:Ring (Gr.Adj ps) r):∃m,PB ps=some m∧m≤r.length:=by
 obtain⟨a,b,hab,w⟩:=Xj h
 have key:∃z,z∈An (ps.map fun p=>CI ps p)∧z≤r.length:=by
  have hl:=h.len
  have fin:∀p∈ps,W (VT (Gr.Adj ps) p.1 p.2) [p.1] (r.length-1) p.2→∃z,z∈An (ps.map fun p=>CI ps p)∧z≤r.length:=fun p hp w=>by
   obtain⟨d,hd,hD⟩:=w.least
   rw[←Ke hw hp] at hD
   exact⟨d+1,Kf.mpr ⟨p,hp,d,DP hD,rfl⟩,by omega⟩
  have sy:∀u v,VT (Gr.Adj ps) a b u v→VT (Gr.Adj ps) a b v u:=fun u v c=> ⟨c.1.symm,fun e=>c.2.2 ⟨e.2,e.1⟩,fun e=>c.2.1 ⟨e.2,e.1⟩⟩
  have sw:∀u v,VT (Gr.Adj ps) a b u v→VT (Gr.Adj ps) b a u v:=fun u v c=> ⟨c.1,c.2.2,c.2.1⟩
  rcases hab with hm|hm
  ·exact fin (a,b) hm (w.rev sy)
  ·exact fin (b,a) hm (w.mono sw)
 obtain⟨z,hz,hle⟩:=key
 have hm:=Cj (An (ps.map fun p=>CI ps p))
 unfold PB
 cases e:Bd (An (ps.map fun p=>CI ps p)) with
 |none=>rw[e] at hm;have hm:An (ps.map fun p=>CI ps p)=[]:=hm;rw[hm] at hz;cases hz
 |some m=>
  rw[e] at hm
  exact⟨m,rfl,hZ (hm.2 z hz) hle⟩
theorem Xk(hw:Gr.HD n ps){m:Int}(h:PB ps=some m):∃r,Ring (Gr.Adj ps) r∧(r.length:Int)=m:=by
 have hm:=Cj (An (ps.map fun p=>CI ps p))
 unfold PB at h
 rw[h] at hm
 obtain⟨p,hp,d,hd,rfl⟩:=Kf.mp hm.1
 rw[Ke hw hp] at hd
 obtain⟨r,h1,h2⟩:=UN Ra (fun u hu=> (hu.inb hw).2.2 rfl) (show Gr.Adj ps p.1 p.2 from .inl hp) (ES.mp hd)
 exact⟨r,h1,by rw[h2];rfl⟩
theorem Rb(hw:Gr.HD n ps){r:List Int}(h:Ring (Gr.Adj ps) r):(r.length:Int)≤n∧3≤r.length:=by
 have:=Gr.Iw (n:=n) h.nd (UO (Na hw) h)
 have:=h.len
 omega
theorem UQ(hw:Gr.HD n ps){m:Int}(h:PB ps=some m):∃k:Nat,m=k∧3≤k∧(k:Int)≤n∧(∀M,Ring (Gr.Adj ps) M→k≤M.length)∧∃r,Ring (Gr.Adj ps) r∧r.length=k:=by
 obtain⟨r,h1,h2⟩:=Xk hw h
 have hl:=Rb hw h1
 refine⟨r.length,h2.symm,hl.2,hl.1,fun M hM=>?_,r,h1,rfl⟩
 obtain⟨m',e,hle⟩:=Nb hw hM
 rw[h] at e
 cases e
 omega
end K12
namespace L2
open PySem PySem.Spec PySem.Calls PyProof.Rows
section
variable{prog:Program}{w:World}{A:dH}{E:Value→b6→Prop}{s:b6}
theorem MZ{l:Addr}{o:Obj}{vs:List Value}{n:Nat}{ns:List Int}{Q:Value→b6→Prop}(ho:s.heap.get? l=some o)(hc:o.cls=.type "list")(hd:o.data=.seq vs.toArray n)(hI:j9 vs ns)(h64:vs.length<64)
  (h:∀(h':Heap) (a:Addr) (out:List Value) (ms:List Int) (c:Nat),s.heap.get? a=none→h'.get? a=some (fe "list" out.toArray c)→(∀b o,s.heap.get? b=some o→h'.get? b=some o)→j9 out ms→ms.Perm ns→ms.Pairwise (·≤·)→Q (.ref a) {s with heap:=h'}):
  wpAny (model prog w) A (call (.builtin "sorted") [.ref l]) Q E s:=by
 refine Calls.call_function_entry mY mq mx (mB _) ?_
 unfold Builtin.«sorted»
 refine b4 (m:=checkCount "sorted" 1 1 _) (b7 ?_)
 refine b4 (wpAny_collect_seq l (.inl rfl) ho hc hd (fun h1 hk1=>?_) (by rw[dv,fh];omega))
 show wpAny _ _ (newList vs>>=_) _ _ _
 refine b4 (jL ?_ (by rw[fh];omega))
 have hoL:(h1.push (fe "list" vs.toArray 0)).get? h1.objs.size=some (fe "list" vs.toArray 0):=dF _ rfl
 show wpAny _ _ _ _ _ {s with heap:=h1.push (fe "list" vs.toArray 0)}
 refine b4 (ef (gq lH ⟨_,hoL,rfl⟩ lz (list_sort_tree hoL hI h64 fun out ms a1 a2 a3=> ⟨_,rfl,?_⟩) (lN _)))
 refine b7 ⟨_,rfl,?_⟩
 obtain⟨c,hcat⟩:=sortedHeap_at (out:=out) hoL
 refine h _ h1.objs.size out.toList ms c ?_ hcat (fun b o e=>?_) a1 a2 a3
 ·cases e:s.heap.get? h1.objs.size with
  |none=>rfl
  |some o'=>exact absurd (du (hk1 _ _ e)) (e6 _)
 ·have hlt:=du (hk1 b o e)
  rw[sortedHeap_old (dN hlt) (by rw[size_push'];exact fA hlt)]
  exact da _ (hk1 b o e)
end
section
variable{X:Cx}
theorem JU:BD X (.builtin "sorted") (fun xs H Q=>∃(a:Addr) (ns:List Int),xs=[.ref a]∧Cr X.K H a (ns.map V.int)∧ns.length<64∧∀(p:Addr) (ms:List Int),H p=none→ms.Perm ns→ms.Pairwise (·≤·)→Q (.ref p) (upd H p (.lst (ms.map V.int)))):=by
 intro pins s σ H xs us Q I r h
 obtain⟨a,ns,rfl,hS,hl,q⟩:=h
 obtain⟨u,rfl,ru⟩:=Vals.one r
 cases ru
 obtain⟨its,rv,⟨o,n,e1,e2,_,e3⟩,_⟩:=I.list hS
 have hi:=Fw rv
 have hlen:its.length<64:=by have:=rv.length;simp at this;omega
 refine MZ e1 e2 e3 hi hlen fun h' b out ms c hb hg hk hI pm pw=>?_
 have hf:H b=none:=I.hok.none_of hb
 refine⟨.ref b,upd H b (.lst (ms.map V.int)),I.laidF (t':=s.toks) hk hb ⟨?_,out,c,DR hI,hg⟩,rfl,q b ms hf pm pw⟩
 rw[c9,pm.length_eq,fh]
 omega
end
end L2
namespace L2.TL
open PySem PySem.Spec PyProof.Rows
section
variable{Z:Zx}{ρ:List (Option T)}{O:AH}{e o:Expr}{Φ:BQ}{p pos apos cpos:Pos}{ns:List Int}{i:Int}{j:Nat}
theorem Ma(m:Z.X.mg "sorted" =none)(h:ET Z ρ O e (.lst (ns.map T.int)))(hl:ns.length<64)(k:∀ms:List Int,ms.Perm ns→ms.Pairwise (·≤·)→Φ (.lst (ms.map T.int)) O)(hg:Gl Z.X "sorted":=by rfl)
  (he:df [e] Z.X.env=(false,eval e Z.X.env)::df [] Z.X.env:=by rfl):WE Z ρ O (.Call (.Name "sorted" p) [e] [] pos) Φ:=
 GU JU m Im (AQ h AB he _ (fun H vs Q ok r q=>by
  obtain⟨v,rfl,r1⟩:=r.one_inv
  obtain⟨a,xs,rfl,h1,_,r1⟩:=r1.lst_inv
  cases r1.ints
  exact⟨a,ns,rfl,.inl (.inl h1),hl,fun p ms hp pm pw=>q _ _ _ O (k ms pm pw) (.new ok hp) (.lst AX (ok.none_of hp) (DW ms))⟩)) hg (by decide) (by decide) he
end
end L2.TL
namespace SrtG
open PySem PySem.Calls PySem.W PyProof.Rows
variable{prog:Program}{w:World}{A:dH}{E:Value→b6→Prop}{s:b6}
end SrtG
namespace L2
open PySem PySem.Spec PySem.Calls PyProof.Rows SrtG
section
variable{prog:Program}{w:World}{A:dH}{E:Value→b6→Prop}{s:b6}{U:Heap→Value→Prop}{rk:Heap→Value→Int}{T:Value}
end
section
variable{X:Cx}{pins:List (Addr×Obj)}{σ:St}{H:Hp}{s:b6}
end
end L2
namespace L2.TL
open PySem PySem.Spec PyProof.Rows SrtG
section
variable{K:b5}{O:AH}{H:Hp}
end
section
variable{Z:Zx}{ρ:List (Option T)}{O:AH}{e:Expr}{Φ:BQ}{p pos:Pos}{ks:List Kd}
end
end L2.TL
namespace L2
open PySem PySem.Spec PySem.Calls PyProof.Rows
section
variable{X:Cx}
end
end L2
namespace L2.TL
open PySem PySem.Spec PySem.Calls PyProof.Rows
section
variable{K:b5}{O:AH}{H H':Hp}
end
section
variable{Z:Zx}{ρ:List (Option T)}{O:AH}{e a b:Expr}{Φ:BQ}{p pos:Pos}{d:Addr}{qs:List (Str×T)}{x:Str}{t:T}
end
section
variable{Z:Zx}{ρ:List (Option T)}{O:AH}{a b tg:Expr}{i j:Int}{pos:Pos}{n:Str}{ad:Addr}{xs:List V}
end
section
variable{Z:Zx}{ρ:List (Option T)}{O:AH}{x y z:Str}{p1 p2 p3 pos:Pos}{k:Nat}{ad:Addr}{w:Str}{l m':Int}
end
end L2.TL
namespace L2
open PySem PySem.Spec PyProof.Rows
section
variable{X:Cx}{W:St→XK}
end
end L2
namespace L2.TL
open PySem PySem.Spec PyProof.Rows
section
variable{Z:Zx}{ρ:List (Option T)}{O:AH}{Φ:BQ}{p pos:Pos}{x:Str}{t:T}
end
section
variable{Z:Zx}{ρ:List (Option T)}{O:AH}{Ψ:Es}{a b o e:Expr}{apos cpos pos:Pos}{bs:List Bool}{i:Int}{ns:List Int}
end
end L2.TL
namespace L2
open PySem PySem.Spec PySem.Calls PyProof.Rows
section
variable{X:Cx}
def Rc(ns:List Int):Int:=mT (fun i=>ns.getD i 0) ns.length
theorem Hz{ns:List Int}(h:∀x∈ns,0≤x∧x≤1000000):∀k,0≤mT (fun i=>ns.getD i 0) k∧mT (fun i=>ns.getD i 0) k≤1000000*(k:Int)
 |0=> ⟨gE _,gE _⟩
 |k+1=>by
  have ih:=Hz h k
  have e:0≤ns.getD k 0∧ns.getD k 0≤1000000:=by
   by_cases hk:k<ns.length
   ·have:=h ns[k] (fu hk)
    simpa[iD,hk] using this
   ·simp[iD,e7 (by omega:ns.length≤k)]
  show 0≤mT (fun i=>ns.getD i 0) k+ns.getD k 0∧mT (fun i=>ns.getD i 0) k+ns.getD k 0≤_
  omega
theorem Oq(hc:X.calm=true):BD X (.builtin "sum") (fun vs H Q=>∃(a:Addr) (ns:List Int),vs=[.ref a]∧VC X.K H a (ns.map V.int)∧(∀x∈ns,0≤x∧x≤1000000)∧ns.length≤1000∧Q (.int (Rc ns)) H):=by
 intro pins s σ H vs us Q I r h
 obtain⟨a,ns,rfl,hq,hb,hz,q⟩:=h
 obtain⟨u,rfl,ru⟩:=De r
 cases ru
 obtain⟨its,rv,lt,wk⟩:=I.walk hq
 have hl:its.length=ns.length:=by have:=rv.length;rw[c9] at this;exact this.symm
 refine call_sum_walk (wk X.A.in1 _ _ (I.ok.hd hc) fun o St W st=> ⟨_,_,_,_,_,_,fun i=>ns.getD i 0,rfl,W,st,fun b hb=>?_,fun i v hv=>BL rv i v hv,fun j hj=>?_,fun h' tk t' hk=>?_⟩)
 ·show b< (s.heap.push o).objs.size
  rw[fL]
  simp only[dh,dI,or_false] at hb
  rcases hb with rfl|rfl
  ·exact gL _
  ·exact fA lt
 ·have b1:=Hz hb (j+1)
  have b0:0≤ns.getD j 0∧ns.getD j 0≤1000000:=by
   have hjl:j<ns.length:=by omega
   have:=hb ns[j] (fu hjl)
   simpa[iD,hjl] using this
  have hj':((j+1:Nat):Int)≤1000:=by omega
  unfold InLong
  dsimp only
  constructor
  ·omega
  ·omega
 ·rw[hl]
  exact⟨.int _,H,I.kept (t':=tk) (DC hk),⟨t',rfl⟩,q⟩
end
end L2
namespace L2.TL
open PySem PySem.Spec PySem.Calls PyProof.Rows
section
variable{Z:Zx}{ρ:List (Option T)}{O:AH}{e:Expr}{p pos:Pos}{ns:List Int}
theorem bZ:eC "sum" =some (.builtin "sum"):=by decide+kernel
theorem Re(hb:∀x∈ns,0≤x∧x≤1000000)(hz:ns.length≤1000)(m:Z.X.mg "sum" =none)(hc:Z.X.calm=true)(h:ET Z ρ O e (.lst (ns.map T.int)))(hg:Gl Z.X "sum":=by rfl)(he:df [e] Z.X.env=(false,eval e Z.X.env)::df [] Z.X.env:=by rfl):ET Z ρ O (.Call (.Name "sum" p) [e] [] pos) (.int (Rc ns)):=
 BN (Oq hc) m bZ (AQ h AB he) (fun Φ q H vs Q ok r k=>by
  obtain⟨v,rfl,r1⟩:=r.one_inv
  obtain⟨a,xs,rfl,h1,o1,r1⟩:=r1.lst_inv
  cases Reps.ints r1
  exact⟨a,ns,rfl,.inl (.inl (.inl h1)),hb,hz,k _ H _ O q (.refl ok) (.int _)⟩) hg (by decide) (by decide) he
end
end L2.TL
namespace K12
open PySem L2 L2.TL PySem.Spec PyProof.Rows GrR
theorem Zt{n:Int}{ps:List (Int×Int)}(wn:WebN n ps):Bd (An (ps.map fun p=>CH (Ao n ps) p.1 p.2))=PB ps:=by
 unfold PB
 congr 2
 refine List.map_congr_left fun p hp=>?_
 rw[EZ wn (show Gr.Adj ps p.1 p.2 from .inl hp)]
 exact congrArg (CI ps) (NY wn.hw hp).1
theorem Zu:(Ab ["a","b"] [(("nears" :Str),1)]).Nodup:=by decide+kernel
section
variable{P:Program}{w:World}{K:b5}{mg:Str→Option Value}{base:Heap}
def JV:Bf:=Ij fun ts r=>∃n ps,ts=[Au n ps]∧WebN n ps∧r=Cu (PB ps)
theorem Nc:FnScope ["web","nears"] ["web"] (AA JE):=⟨rfl,rfl,rfl,by decide+kernel,rfl,by decide+kernel,by decide+kernel⟩
theorem Rf{f:Addr}{fd:dD}(F:Fun K "shortest" "shortest" JE f fd)(G:FnT P w K mg base "nears_of" 1 ["web"] Bu)(Gr:FnT P w K mg base "ring_by_tie" 2 ["nears","a","b"] NX)(Gl:FnT P w K mg base "least_told" 1 ["numbers"] RI):FnOk P w K mg base (CXe P w) 3 f fd ["web"] (Bq K JV):=by
 refine AU F Nc ?_ ?_
 ·rintro ts O Φ Ξ ⟨r,⟨n,ps,rfl,_⟩,_⟩
  rfl
 ·rintro cdv A outer s H E O Ξ hr xf _ Φ ⟨_,⟨n,ps,rfl,wn,rfl⟩,q⟩
  have sb:=AS
  have hl:=wn.hl
  refine AD (AK 1 (ET.we (Aa G (hr.mono (by decide)) xf (AE (ev 0) AB) ⟨n,ps,rfl,wn.n0,wn.n1,wn.hw,wn.hl,rfl⟩) ?_) Nc.nd)
  rw[DZ,←Zt wn] at*
  refine AF (AO (ET.we (Aa Gl (hr.mono (by decide)) xf (AE (BU ["a","b"] [("nears",1)] ps AL (fun p=>AY (CH (Ao n ps) p.1 p.2)) rfl (BP (AA JE) ["web","nears"] (by decide+kernel)) (Ex (Aw (ev 0) AC)) (by omega) fun p hp=> ⟨[some (.int p.1),some (.int p.2),some (FN (Ao n ps))],fun X' Oe He is O'=>?_⟩) AB) ⟨ps.map fun p=>CH (Ao n ps) p.1 p.2,by rw[eK];rfl,by rw[c9];omega,rfl⟩) q))
  obtain⟨cl,s',H',fp,rfl⟩:=is
  have hb:=wn.hw p hp
  exact⟨Cc 0 1 rfl Zu (by decide) (by decide),Aa Gr hr BW (AE (ev 2) (AE (ev 0) (AE (ev 1) AB))) ⟨n,Ao n ps,p.1,p.2,rfl,EX wn,Gu wn,by omega,by omega,rfl⟩⟩
end
end K12
namespace L2
open PySem PySem.Spec PySem.Calls PyProof.Rows
section
variable{prog:Program}{w:World}{A:dH}{R:mV→b6→Prop}{I:Addr}{fp wr:List Addr}{n:Nat}{P:Nat→Value→Prop}{St:Nat→Heap→Prop}
theorem Ef:(toString "max" ++toString ".loop" :String)= "max.loop":=by decide
theorem Os{kw:List (Str×Value)}(W:Walks prog w A.in1 I fp wr n P St)(bt:Nat→Nat→Bool)(hcmp:CmpOf prog w A.in1 .Gt P bt)(S:Addr)(hSf:S∉fp):
  ∀(k j:Nat) (s:b6) (vb:Value) (c:Nat),n- (j+1)=k→j+1≤n→St (j+1) s.heap→P (iZ bt j) vb→
  s.heap.get? S=some {cls:=.type "list",dict:=none,data:=.seq #[vb,vb] c,slots:=#[]}→
  (∀v h' tk,P (iZ bt (n-1)) v→(∀b o,b∉wr→b≠S→s.heap.get? b=some o→h'.get? b=some o)→R (.ok (.ret v)) {s with heap:=h',toks:=tk})→
  iY (model prog w) A (.builtin "max.loop" ⟨[.ref I,.none,.ref S],kw⟩) R s:=by
 have hSw:S∉wr:=fun h=>hSf (W.sub _ h)
 intro k
 induction k with
 |zero=>
  intro j s vb c hk hj hst hPb hS hR
  have hin:j+1=n:=by omega
  refine fW kZ ?_
  rw[fD il _]
  show wpAny _ A.in1 (kW (.ref S)>>=_) _ _ s
  refine b4 (ip hS rfl ?_)
  show wpAny _ A.in1 (tryCatch (jz (.ref I)) _>>=_) _ _ s
  refine b4 (gz (W.done s _ _ (hin▸hst) fun h' tk hk'=>?_))
  have hS':=hk' S _ hSw hS
  show wpAny _ A.in1 (mS S (fun _=> #[])>>=_) _ _ _
  refine b4 (i6 hS' rfl (b4 (jc (b7 ?_))))
  exact hR vb _ tk (by rw[←hin];exact hPb) fun b o hbw hbS e=> (eQ _ _ (Ne.symm hbS)).trans (hk' b o hbw e)
 |succ k ih=>
  intro j s vb c hk hj hst hPb hS hR
  have hlt:j+1<n:=by omega
  refine fW kZ ?_
  rw[fD il _]
  show wpAny _ A.in1 (kW (.ref S)>>=_) _ _ s
  refine b4 (ip hS rfl ?_)
  show wpAny _ A.in1 (tryCatch (jz (.ref I)) _>>=_) _ _ s
  refine b4 (gz (W.item (j+1) s _ _ hlt hst fun v h' tk hP hst' hk'=>?_))
  have hS':=hk' S _ hSw hS
  show wpAny _ A.in1 (tryCatch (holding [v,v] (richCompare .Gt v vb>>=_)) _>>=_) _ _ _
  refine b4 (gz (ef (b4 (hcmp (j+1) (iZ bt j) v vb _ _ _ hP hPb ?_))))
  refine b4 (ef (gS (b4 (jc (b7 ?_)))))
  cases hb:bt (j+1) (iZ bt j) with
  |true=>
   simp only[if_true]
   refine b4 (i6 hS' rfl (b4 (jc ?_)))
   rw[Ef]
   refine b7 ⟨gy il _,ih (j+1) _ v _ (by omega) hlt (W.frame _ _ _ hst' fun b hbf o e=>?_) (by simp only[iZ,hb,if_true];exact hP) (gK _ hS' rfl) fun v' h'' tk'' hP' hk''=>?_⟩
   ·exact(eQ _ _ (fun h:S=b=>hSf (by rw[h];exact hbf))).trans e
   ·exact hR v' h'' tk'' hP' fun b o hbw hbS e=>hk'' b o hbw hbS ((eQ _ _ (Ne.symm hbS)).trans (hk' b o hbw e))
  |false=>
   simp only[dC,if_false]
   refine b4 (jc ?_)
   rw[Ef]
   refine b7 ⟨gy il _,ih (j+1) _ vb c (by omega) hlt hst' (by simp only[iZ,hb,dC,if_false];exact hPb) hS' fun v' h'' tk'' hP' hk''=>?_⟩
   exact hR v' h'' tk'' hP' fun b o hbw hbS e=>hk'' b o hbw hbS (hk' b o hbw e)
theorem Mb{nm:Str}{d:Value}(W:Walks prog w A.in1 I fp wr n P St)(bt:Nat→Nat→Bool)(hcmp:CmpOf prog w A.in1 .Gt P bt)(S:Addr)(hSf:S∉fp){s:b6}{c:Nat}(hst:St 0 s.heap)
  (hS:s.heap.get? S=some {cls:=.type "list",dict:=none,data:=.seq #[] c,slots:=#[]})
  (h0:n=0→∀h' tk,(∀b o,b∉wr→b≠S→s.heap.get? b=some o→h'.get? b=some o)→R (.ok (.ret d)) {s with heap:=h',toks:=tk})
  (hR:0<n→∀v h' tk,P (iZ bt (n-1)) v→(∀b o,b∉wr→b≠S→s.heap.get? b=some o→h'.get? b=some o)→R (.ok (.ret v)) {s with heap:=h',toks:=tk}):
  iY (model prog w) A (.builtin "max.loop" ⟨[.ref I,.none,.ref S],[(nm,d)]⟩) R s:=by
 have hSw:S∉wr:=fun h=>hSf (W.sub _ h)
 refine fW kZ ?_
 rw[fD il _]
 show wpAny _ A.in1 (kW (.ref S)>>=_) _ _ s
 refine b4 (ip hS rfl ?_)
 show wpAny _ A.in1 (tryCatch (jz (.ref I)) _>>=_) _ _ s
 by_cases hn:0<n
 ·refine b4 (gz (W.item 0 s _ _ hn hst fun v h' tk hP hst' hk'=>?_))
  have hS':=hk' S _ hSw hS
  show wpAny _ A.in1 (mS S (fun _=> #[v,v])>>=_) _ _ _
  refine b4 (i6 hS' rfl ?_)
  rw[Ef]
  refine b7 ⟨gy il _,Os W bt hcmp S hSf _ 0 _ v _ rfl hn (W.frame _ _ _ hst' fun b hbf o e=>?_) hP (gK _ hS' rfl) fun v' h'' tk'' hP' hk''=>?_⟩
  ·exact(eQ _ _ (fun h:S=b=>hSf (by rw[h];exact hbf))).trans e
  ·exact hR hn v' h'' tk'' hP' fun b o hbw hbS e=>hk'' b o hbw hbS ((eQ _ _ (Ne.symm hbS)).trans (hk' b o hbw e))
 ·have e0:n=0:=by omega
  refine b4 (gz (W.done s _ _ (by rw[e0];exact hst) fun h' tk hk'=>?_))
  show wpAny _ A.in1 (rule _>>=fun _=>ret d) _ _ _
  exact b4 (iW (b7 (h0 e0 h' tk fun b o hbw _ e=>hk' b o hbw e)))
end
section
variable{prog:Program}{w:World}{A:dH}{E:Value→b6→Prop}{s:b6}
theorem Ot{x d:Value}{Q:Value→b6→Prop}
  (h:wpAny (model prog w) A.in1 (lJ x) (fun it s₂=>∃I fp wr n P St bt,it=.ref I∧Walks prog w A.in1 I fp wr n P St∧St 0 s₂.heap∧(∀b∈fp,b<s₂.heap.objs.size)∧CmpOf prog w A.in1 .Gt P bt∧
   (n=0→∀h' tk,(∀b o,b∉wr→s₂.heap.get? b=some o→h'.get? b=some o)→Q d {s₂ with heap:=h',toks:=tk})∧
   (0<n→∀v h' tk,P (iZ bt (n-1)) v→(∀b o,b∉wr→s₂.heap.get? b=some o→h'.get? b=some o)→Q v {s₂ with heap:=h',toks:=tk})) E s):
  wpAny (model prog w) A (call (.builtin "max") [x] [("default",d)]) Q E s:=by
 refine kj (iF F.plain_max F.entry_max ?_)
 refine jv (show jI "max" ⟨[x],[("default",d)]⟩=pure () by kernel_rfl) ?_
 show wpAny _ A.in1 (ic "max" ["key","default"] 0 ⟨[],[("default",d)]⟩>>=_) _ _ s
 refine b4 (jv (show ic "max" ["key","default"] 0 ⟨[],[("default",d)]⟩=pure [none,some d] from rfl) ?_)
 refine b4 (b7 ?_)
 refine b4 (iK h (fun it s₂ h₂=>?_) fun _ _ e=>e)
 obtain⟨I,fp,wr,n,P,St,bt,rfl,W,hst,hfp,hcmp,q0,q1⟩:=h₂
 refine b4 (fS ?_)
 have hSf:s₂.heap.objs.size∉fp:=fun hm=>e6 _ (hfp _ hm)
 rw[Ef]
 refine b7 ⟨gy il _,Mb W bt hcmp s₂.heap.objs.size hSf (W.frame _ _ _ hst fun b _ o e=>da _ e) (dF _ rfl) (fun e0 h' tk hk=>?_) fun hn v h' tk hP hk=>?_⟩
 ·exact q0 e0 h' tk fun b o hbw e=>hk b o hbw (dN (du e)) (da _ e)
 ·exact q1 hn v h' tk hP fun b o hbw e=>hk b o hbw (dN (du e)) (da _ e)
end
section
variable{X:Cx}
def Kg(ns:List Int):Option Int→Prop
 |none=>ns=[]
 |some m=>Bp ns m
theorem UR{e:Expr}{te:TE}{p pos kp np:Pos}{j:Nat}(hc:X.calm=true)(hg:Gl X "max")(hm:X.mg "max" =none)(he:PE X e te)(hn:TL.Bg e=true):
  PE X (.Call (.Name "max" p) [e] [⟨some "default",.Constant .none j np,kp⟩] pos) (fun σ H Q=>te σ H fun v H1=>∃(a:Addr) (ns:List Int),v=.ref a∧VC X.K H1 a (ns.map V.int)∧∀m,Kg ns m→Q (ZZ m) H1):=by
 intro pins s σ H Q I h
 refine iX (Cw I hg hm TL.Wy ?_ (by decide) (by decide))
 rw[TL.DU hn]
 refine EV (Ay (he pins s σ H _ I h) fun u s1 ⟨v,H1,I1,r1,q1⟩=>?_)
 obtain⟨a,ns,rfl,hq,q⟩:=q1
 cases r1
 refine b4 ?_
 show wpAny _ _ (eval (.Constant .none j np) X.env) _ _ _
 refine b7 (b4 (jk (b7 ?_)))
 obtain⟨its,rv,lt,wk⟩:=I1.walk hq
 have hl:its.length=ns.length:=by have:=rv.length;rw[c9] at this;exact this.symm
 refine Ot (wk X.A.in1 _ _ (I1.ok.hd hc) fun o St W st=> ⟨_,_,_,_,_,_,_,rfl,W,st,fun b hb=>?_,CmpOf.ints_gt (fun i=>ns.getD i 0) (fun i v hv=>BL rv i v hv),fun e0 h' tk hk=>?_,fun hn v h' tk hP hk=>?_⟩)
 ·show b< (s1.heap.push o).objs.size
  rw[fL]
  simp only[dh,dI,or_false] at hb
  rcases hb with rfl|rfl
  ·exact gL _
  ·exact fA lt
 ·exact⟨.non,H1,I1.kept (t':=tk) (DC hk),rfl,q none (List.eq_nil_of_length_eq_zero (by omega))⟩
 ·obtain⟨t,rfl⟩:=BL rv _ v hP
  obtain⟨b1,b2⟩:=argBest_gt (fun i=>ns.getD i 0) (its.length-1)
  exact⟨.int _,H1,I1.kept (t':=tk) (DC hk),⟨t,rfl⟩,q (some _) ⟨ED (by omega),fun n hn=>by
   obtain⟨j,hj,rfl⟩:=iR hn
   have:=b2 j (by omega)
   simpa[iD,hj] using this⟩⟩
end
end L2
namespace L2.TL
open PySem PySem.Spec PySem.Calls PyProof.Rows
section
variable{Z:Zx}{ρ:List (Option T)}{O:AH}{e:Expr}{p pos kp np:Pos}{ns:List Int}{j:Nat}
theorem Mc{a b:Option Int}(ha:Kg ns a)(hb:Kg ns b):a=b:=by
 cases a with
 |none=>
  cases b with
  |none=>rfl
  |some m=>rw[show ns=[] from ha] at hb;exact absurd hb.1 (by simp)
 |some m=>
  cases b with
  |none=>rw[show ns=[] from hb] at ha;exact absurd ha.1 (by simp)
  |some k=>rw[jX (ha.2 k hb.1) (hb.2 m ha.1)]
theorem US{m:Option Int}(hm:Kg ns m)(mm:Z.X.mg "max" =none)(hc:Z.X.calm=true)(h:ET Z ρ O e (.lst (ns.map T.int)))(hg:Gl Z.X "max":=by rfl)(hn:Bg e=true:=by rfl):
  ET Z ρ O (.Call (.Name "max" p) [e] [⟨some "default",.Constant .none j np,kp⟩] pos) (Cu m):=fun Φ q=>
 PE.weak (UR hc hg mm (h (fun t O'=>t=.lst (ns.map T.int)∧O'=O) ⟨rfl,rfl⟩) hn) fun σ H Q k=> ⟨k.1,by
  rintro v H' _ _ ⟨rfl,rfl⟩ f r
  obtain⟨a,xs,rfl,h1,o1,r1⟩:=r.lst_inv
  cases Reps.ints r1
  refine⟨a,ns,rfl,.inl (.inl (.inl h1)),fun m' hm'=>?_⟩
  cases Mc hm' hm
  refine k.2 _ H' _ _ q f ?_
  cases m with
  |none=>exact .non
  |some m=>exact .int m⟩
end
section
variable{X:Cx}
end
section
variable{Z:Zx}{ρ:List (Option T)}{O:AH}{e a b hi:Expr}{p p2 pos:Pos}{t:T}{ts:List T}{i:Int}{Φ:BQ}
end
section
variable{Z:Zx}{ρ:List (Option T)}{O:AH}{e lo:Expr}{p2 pos:Pos}{ts:List T}{i:Int}
theorem UT(h:ET Z ρ O e (.lst ts))(h2:ET Z ρ O lo (.int i)):ET Z ρ O (.Subscript e (.Slice (some lo) none none p2) pos) (.lst (HJ ts (some i) none)):=fun Φ k=>by
 refine PE.weak (Fy Mu (BR (ρ:=ρ)) (FX (BR (ρ:=ρ))) Mr) fun σ H0 Q q=>?_
 refine⟨O,_,h (fun t O'=>t=.lst ts∧O'=O) ⟨rfl,rfl⟩,q.1,?_⟩
 rintro v H1 _ _ ⟨rfl,rfl⟩ f1 r1
 refine⟨_,_,h2 (fun t O'=>t=.int i∧O'=_) ⟨rfl,rfl⟩,q.1.step f1,?_⟩
 rintro v2 H2 _ _ ⟨rfl,rfl⟩ f2 r2
 obtain⟨a,xs,rfl,h1,_,r1⟩:=(r1.kp f2.kp f1.ok).lst_inv
 have ff:=f1.trans f2
 exact⟨i,r2.int_inv,a,xs,rfl,.inl (.inl h1),fun l hl=>q.2 _ _ _ _ k (ff.trans (.new ff.ok hl)) (.lst AX (ff.ok.none_of hl) ((r1.cut).kp (BZ ff.ok hl) ff.ok))⟩
theorem Rg{ts:List T}{k:Nat}:HJ ts (some (k:Int)) none=ts.drop k:=by
 unfold HJ
 rw[HT.Jj,HT.Mp]
 rcases Nat.le_total k ts.length with h|h
 ·rw[Nat.min_eq_left h,jC (by rw[ie];exact dm _)]
 ·rw[Nat.min_eq_right h,Nat.sub_self,ku,List.drop_of_length_le h]
end
end L2.TL
namespace K12
open PySem L2 L2.TL PySem.Spec PyProof.Rows Gr
def HM(b:Int):Nat→Int
 |0=>0
 |n+1=>HM b n+b^n
def grown(d:Int)(g:Nat):Int:=if g%2=1 then 1+d*HM (d-1) (g/2) else 2*HM (d-1) (g/2)
section
variable{P:Program}{w:World}{K:b5}{mg:Str→Option Value}{base:Heap}{CN CE CP CL:Addr}
def Rh(CN:Addr)(a b:Int):Bf:=fun ts O Φ Ξ=>∃t,ts=[t]∧Ae t=false∧(CF t a b=true→Φ .non O)∧(CF t a b=false→Ξ (.ref CN) O)
theorem Xl:FnScope ["d"] ["d"] (AA Qj):=⟨rfl,rfl,rfl,by decide+kernel,rfl,by decide+kernel,by decide+kernel⟩
theorem UU{f:Addr}{fd:dD}(F:Fun K "need_ties" "need_ties" Qj f fd)(Tx:Txt mg)(G:FnT P w K mg base "need_number" 2 ["thing","least","most"] (NV CN)):FnOk P w K mg base (CXe P w) 3 f fd ["d"] (Bq K (Rh CN 2 15)):=by
 refine AU F Xl ?_ ?_
 ·rintro ts O Φ Ξ ⟨t,rfl,_⟩
  rfl
 ·rintro cdv A outer s H E O Ξ hr xf _ Φ ⟨t,rfl,ht,q1,q2⟩
  exact AF (Ac (AJ G hr xf (EA.wa (AE (ev 0) (AE (CY Tx.iLT) (AE (CY Tx.iMT) AB))) ⟨t,2,15,rfl,ht,q1,q2⟩)))
theorem Xm:FnScope ["g"] ["g"] (AA Qk):=⟨rfl,rfl,rfl,by decide+kernel,rfl,by decide+kernel,by decide+kernel⟩
theorem UV{f:Addr}{fd:dD}(F:Fun K "need_ring" "need_ring" Qk f fd)(Tx:Txt mg)(G:FnT P w K mg base "need_number" 2 ["thing","least","most"] (NV CN)):FnOk P w K mg base (CXe P w) 3 f fd ["g"] (Bq K (Rh CN 3 16)):=by
 refine AU F Xm ?_ ?_
 ·rintro ts O Φ Ξ ⟨t,rfl,_⟩
  rfl
 ·rintro cdv A outer s H E O Ξ hr xf _ Φ ⟨t,rfl,ht,q1,q2⟩
  exact AF (Ac (AJ G hr xf (EA.wa (AE (ev 0) (AE (CY Tx.iLR) (AE (CY Tx.iMR) AB))) ⟨t,3,16,rfl,ht,q1,q2⟩)))
def Zv(CN:Addr):Bf:=fun ts O Φ Ξ=>∃t u,ts=[t,u]∧Ae t=false∧Ae u=false∧(CF t 2 15=true→CF u 3 16=true→Φ .non O)∧(CF t 2 15=false∨CF u 3 16=false→Ξ (.ref CN) O)
theorem ba:FnScope ["d","g"] ["d","g"] (AA bW):=⟨rfl,rfl,rfl,by decide+kernel,rfl,by decide+kernel,by decide+kernel⟩
theorem Zw{f:Addr}{fd:dD}(F:Fun K "need_ties_and_ring" "need_ties_and_ring" bW f fd)(G:FnT P w K mg base "need_ties" 3 ["d"] (Rh CN 2 15))(G2:FnT P w K mg base "need_ring" 3 ["g"] (Rh CN 3 16)):FnOk P w K mg base (CXe P w) 4 f fd ["d","g"] (Bq K (Zv CN)):=by
 refine AU F ba ?_ ?_
 ·rintro ts O Φ Ξ ⟨t,u,rfl,_⟩
  rfl
 ·rintro cdv A outer s H E O Ξ hr xf _ Φ ⟨t,u,rfl,ht,hu,q1,q2⟩
  refine AD (Ac (AJ G hr xf (EA.wa (AE (ev 0) AB) ⟨t,rfl,ht,fun h=>?_,fun h=>q2 (.inl h)⟩)))
  exact AF (Ac (AJ G2 hr xf (EA.wa (AE (ev 1) AB) ⟨u,rfl,hu,fun h2=>q1 h h2,fun h=>q2 (.inr h)⟩)))
def VV:Bf:=Ij fun ts r=>∃(b:Int) (m:Nat),ts=[.int b,.int (m:Int)]∧(0≤b∧b<100)∧m≤100∧r=.int (HM b m)
def nSum:List Str:=["base","many","total","power","step"]
theorem IA:FnScope nSum ["base","many"] (AA XH):=⟨rfl,rfl,rfl,by decide+kernel,rfl,by decide+kernel,by decide+kernel⟩
theorem Xn{f:Addr}{fd:dD}(F:Fun K "sum_of_powers" "sum_of_powers" XH f fd)(Tx:Txt mg):FnOk P w K mg base (CXe P w) 1 f fd ["base","many"] (Bq K VV):=by
 refine AU F IA ?_ ?_
 ·rintro ts O Φ Ξ ⟨r,⟨b,m,rfl,_⟩,_⟩
  rfl
 ·rintro cdv A outer s H E O Ξ hr xf _ Φ ⟨_,⟨b,m,rfl,hb,hm,rfl⟩,q⟩
  refine AD (AK 2 (ET.we AC ?_) IA.nd)
  refine AD (AK 3 (ET.we AC ?_) IA.nd)
  refine AD (Bc Aq.own rfl (EI.wi (Ak Tx.nRange (ev 1) ⟨by omega,by omega⟩) ⟨fun i ρ' O'=>∃v4,ρ'=[some (.int b),some (.int (m:Int)),some (.int (HM b i)),some (.int (b^i)),v4]∧O=O',⟨none,by rw[lx];rfl,rfl⟩,?_,?_⟩))
  ·rintro i t _ _ e ⟨v4,rfl,rfl⟩
   refine⟨[some (.int b),some (.int (m:Int)),some (.int (HM b i)),some (.int (b^i)),some t],AM 4 IA.nd (by show 4<5;decide),?_⟩
   refine AD (GV 2 Kx rfl (ET.we (ev 3) (fun H v w Q ok r1 r2 acc=> ⟨_,_,r1.int_inv,r2.int_inv,acc _ H (.int (HM b (i+1))) _ ?_ (.refl ok) (.int _)⟩)) IA.nd)
   refine AF (GV 3 Pk rfl (ET.we (ev 0) (fun H v w Q ok r1 r2 acc=> ⟨_,_,r1.int_inv,r2.int_inv,.inr ⟨by omega,by omega⟩,acc _ H (.int (b^(i+1))) _ ⟨_,rfl,rfl⟩ (.refl ok) (by rw[ly];exact .int _)⟩)) IA.nd)
  ·rintro _ _ ⟨v4,rfl,rfl⟩
   refine AF (AO (ET.we (t:=.int (HM b m)) (ev 2 ?_) q))
   rw[BX,eE]
   rfl
def Nd:Bf:=Ij fun ts r=>∃(d:Int) (g:Nat),ts=[.int d,.int (g:Int)]∧(1≤d∧d<100)∧g≤100∧r=.int (grown d g)
theorem Nf:FnScope ["d","g","powers"] ["d","g"] (AA MA):=⟨rfl,rfl,rfl,by decide+kernel,rfl,by decide+kernel,by decide+kernel⟩
theorem Ri{f:Addr}{fd:dD}(F:Fun K "grown_places" "grown_places" MA f fd)(G:FnT P w K mg base "sum_of_powers" 1 ["base","many"] VV):FnOk P w K mg base (CXe P w) 2 f fd ["d","g"] (Bq K Nd):=by
 refine AU F Nf ?_ ?_
 ·rintro ts O Φ Ξ ⟨r,⟨d,g,rfl,_⟩,_⟩
  rfl
 ·rintro cdv A outer s H E O Ξ hr xf _ Φ ⟨_,⟨d,g,rfl,hd,hg,rfl⟩,q⟩
  refine AD (AK 2 (ET.we (Aa G hr xf (AE (BS (ev 0) AC) (AE (Ca (ev 1) AC ⟨by decide,by decide⟩) AB)) ⟨d-1,g/2,rfl,⟨by omega,by omega⟩,by omega,rfl⟩) ?_) Nf.nd)
  refine AF (AO (ET.we (ET.cast (GT (Dn (Dm (ev 1) AC (by decide)) AC) (fun _=>BM AC (CZ (ev 0) (ev 2) (.inl ⟨by omega,by omega⟩))) (fun _=>CZ AC (ev 2) (.inl ⟨by decide,by decide⟩))) ?_) q))
  unfold grown
  by_cases h:g%2=1
  ·rw[if_pos h,decide_eq_true (by omega:(g:Int)%2=1)];rfl
  ·rw[if_neg h,decide_eq_false (by omega:¬(g:Int)%2=1)];rfl
def VW:Bf:=Ij fun ts r=>∃(d:Int) (g:Nat),ts=[.int d,.int (g:Int)]∧(2≤d∧d≤15)∧3≤g∧g≤16∧r=.int (grown d g)
theorem Zy:FnScope ["d","g"] ["d","g"] (AA XI):=⟨rfl,rfl,rfl,by decide+kernel,rfl,by decide+kernel,by decide+kernel⟩
theorem Kh{i a b:Int}(h0:a≤i)(h1:i≤b):CF (.int i) a b=true:=by
 show(decide (a≤i)&&decide (i≤b))=true
 simp
 omega
theorem Xo{f:Addr}{fd:dD}(F:Fun K "least_by_growth" "least_by_growth" XI f fd)(G:FnT P w K mg base "need_ties_and_ring" 4 ["d","g"] (Zv CN))(G2:FnT P w K mg base "grown_places" 2 ["d","g"] Nd):FnOk P w K mg base (CXe P w) 5 f fd ["d","g"] (Bq K VW):=by
 refine AU F Zy ?_ ?_
 ·rintro ts O Φ Ξ ⟨r,⟨d,g,rfl,_⟩,_⟩
  rfl
 ·rintro cdv A outer s H E O Ξ hr xf _ Φ ⟨_,⟨d,g,rfl,hd,h3,hg,rfl⟩,q⟩
  have h1:CF (.int d) 2 15=true:=Kh hd.1 hd.2
  have h2:CF (.int (g:Int)) 3 16=true:=Kh (by omega) (by omega)
  refine AD (Ac (AJ G hr xf (EA.wa (AE (ev 0) (AE (ev 1) AB)) ⟨_,_,rfl,rfl,rfl,fun _ _=>?_,fun h=>?_⟩)))
  ·exact AF (AO (ET.we (Aa G2 (hr.mono (by decide)) xf (AE (ev 0) (AE (ev 1) AB)) ⟨d,g,rfl,⟨by omega,by omega⟩,by omega,rfl⟩) q))
  ·rw[h1,h2] at h
   rcases h with h|h<;>cases h
def UW(d many:Int):List Int:=((dE 14).filter fun k=>decide (grown d (k+3)≤many)).map fun(k:Nat)=>3+(k:Int)
def FQ(p:Nat→Bool):Nat→Option Nat
 |0=>none
 |n+1=>if p n=true then some n else FQ p n
theorem Dr{p:Nat→Bool}:∀{n m:Nat},FQ p n=some m→m<n∧p m=true∧∀k,k<n→p k=true→k≤m
 |n+1,m,h=>by
  unfold FQ at h
  by_cases hp:p n=true
  ·rw[if_pos hp] at h
   cases h
   exact⟨by omega,hp,fun k hk _=>by omega⟩
  ·rw[if_neg hp] at h
   obtain⟨h1,h2,h3⟩:=Dr h
   exact⟨by omega,h2,fun k hk hpk=>by
    by_cases hkn:k=n
    ·subst hkn;exact absurd hpk hp
    ·exact h3 k (by omega) hpk⟩
theorem Ds{p:Nat→Bool}:∀{n:Nat},FQ p n=none→∀k,k<n→p k=false
 |n+1,h,k,hk=>by
  unfold FQ at h
  by_cases hp:p n=true
  ·rw[if_pos hp] at h;cases h
  ·rw[if_neg hp] at h
   by_cases hkn:k=n
   ·subst hkn;exact Bool.not_eq_true _▸hp
   ·exact Ds h k (by omega)
def Ou(d many:Int)(k:Nat):Bool:=decide (grown d (k+3)≤many)
def Ki(d many:Int):Option Int:=(FQ (Ou d many) 14).map fun k=>3+(k:Int)
theorem Ov{d many:Int}:Kg (UW d many) (Ki d many):=by
 unfold Ki
 cases h:FQ (Ou d many) 14 with
 |none=>
  show UW d many=[]
  unfold UW
  rw[List.filter_eq_nil_iff.mpr fun k hk=>by rw[show decide (grown d (k+3)≤many)=Ou d many k from rfl,Ds h k (dU.mp hk)];exact dc]
  rfl
 |some m=>
  obtain⟨h1,h2,h3⟩:=Dr h
  refine⟨dy.mpr ⟨m,dR.mpr ⟨dU.mpr h1,h2⟩,rfl⟩,fun n hn=>?_⟩
  obtain⟨k,hk,rfl⟩:=dy.mp hn
  obtain⟨hk1,hk2⟩:=dR.mp hk
  have:=h3 k (dU.mp hk1) hk2
  show 3+(k:Int)≤3+(m:Int)
  omega
def Rj(CN:Addr):Bf:=fun ts O Φ Ξ=>∃t u,ts=[t,u]∧Ae t=false∧Ae u=false∧(∀d m:Int,t=.int d→u=.int m→2≤d→d≤15→1≤m→m≤16→Φ (Cu (Ki d m)) O)∧(CF t 2 15=false∨CF u 1 16=false→Ξ (.ref CN) O)
theorem Xp:FnScope ["d","many"] ["d","many"] (AA EL):=⟨rfl,rfl,rfl,by decide+kernel,rfl,by decide+kernel,by decide+kernel⟩
theorem Zz:(Ab ["g"] [(("d" :Str),0),(("many" :Str),1)]).Nodup:=by decide+kernel
theorem Rm{t:T}{a b:Int}(h:CF t a b=true):∃i,t=.int i∧a≤i∧i≤b:=by
 obtain⟨i,rfl⟩:=JG h
 have h:(decide (a≤i)&&decide (i≤b))=true:=h
 simp at h
 exact⟨i,rfl,h.1,h.2⟩
theorem UX{f:Addr}{fd:dD}(F:Fun K "longest_fit" "longest_fit" EL f fd)(Tx:Txt mg)(G:FnT P w K mg base "need_ties" 3 ["d"] (Rh CN 2 15))(Gn:FnT P w K mg base "need_number" 2 ["thing","least","most"] (NV CN))(Gl:FnT P w K mg base "least_by_growth" 5 ["d","g"] VW):FnOk P w K mg base (CXe P w) 6 f fd ["d","many"] (Bq K (Rj CN)):=by
 refine AU F Xp ?_ ?_
 ·rintro ts O Φ Ξ ⟨t,u,rfl,_⟩
  rfl
 ·rintro cdv A outer s H E O Ξ hr xf _ Φ ⟨t,u,rfl,ht,hu,q1,q2⟩
  have sb:=AS
  refine AD (Ac (AJ G (hr.mono (by decide)) xf (EA.wa (AE (ev 0) AB) ⟨t,rfl,ht,fun h=>?_,fun h=>q2 (.inl h)⟩)))
  refine AD (Ac (AJ Gn (hr.mono (by decide)) xf (EA.wa (AE (ev 1) (AE AC (AE (CY Tx.iMP) AB))) ⟨u,1,16,rfl,hu,fun h2=>?_,fun h=>q2 (.inr h)⟩)))
  obtain⟨d,rfl,d0,d1⟩:=Rm h
  obtain⟨m,rfl,m0,m1⟩:=Rm h2
  refine AF (AO (ET.we (US Ov Tx.nMax rfl (ET.cast (DI ["g"] [("d",0),("many",1)] (dE 14) (fun k=>T.int (3+((k:Nat):Int))) (fun k=>T.int (3+((k:Nat):Int))) (Ou d m) rfl (BP (AA EL) ["d","many"] (by decide+kernel)) (EI.cast (OW (k:=3) (l:=16+1) Tx.nRange (CY Tx.iLR) (BM (CY Tx.iMR) AC) ⟨by decide,by decide,by decide,by decide⟩) (by rfl)) (by rw[eP];omega) fun x hx=> ⟨[some (.int (3+(x:Int))),some (.int d),some (.int m)],fun X' Oe He is O'=>?_⟩) ?_)) (q1 d m rfl rfl d0 d1 m0 m1)))
  ·obtain⟨cl,s',H',fp,rfl⟩:=is
   have hx:=dU.mp hx
   refine⟨AM 0 Zz (by decide),QO (Aa Gl (hr.mono (by decide)) BW (AE (ev 1) (AE (ev 0) AB)) ⟨d,x+3,?_,⟨d0,d1⟩,by omega,by omega,rfl⟩) (ev 2),fun _=>ev 0⟩
   rw[show((x+3:Nat):Int)=3+(x:Int) by omega]
  ·unfold UW
   rw[eK]
   rfl
end
theorem Md(cs:List Int):(∃d,Kv cs=.int d∧d=cs.headD 0)∨Kv cs=.non:=by
 unfold Kv
 split
 ·exact .inl ⟨_,rfl,rfl⟩
 ·exact .inr rfl
theorem VX{n:Int}{ps:List (Int×Int)}(wn:WebN n ps)(n0:1≤n){d:Int}(h:Kv (Am n ps)=.int d):0≤d∧d≤200:=by
 rcases Md (Am n ps) with⟨d',e,hd⟩|e
 ·rw[h] at e
  cases e
  have hl:(Am n ps).length=n.toNat:=by simp[Am]
  cases z:Am n ps with
  |nil=>rw[z] at hl;simp at hl;omega
  |cons x xs=>
   rw[z] at hd
   have hm:x∈Am n ps:=by rw[z];simp
   unfold Am at hm
   obtain⟨i,_,rfl⟩:=dy.mp hm
   have:=BI (qs:=ps) (i:=i)
   have:=wn.hl
   rw[hd]
   simp
   omega
 ·rw[h] at e;cases e
theorem Ow{n:Int}{ps:List (Int×Int)}(hw:HD n ps){i:Nat}:(Be ps (i:Int)).length=(AV ps i).length:=by
 have key:∀qs:List (Int×Int),(Be qs (i:Int)).length=(AV qs i).length:=by
  intro qs
  induction qs with
  |nil=>rfl
  |cons p qs ih=>
   unfold Be AV at ih ⊢
   rw[c9] at ih ⊢
   by_cases h1:p.1=(i:Int)
   ·rw[eT,if_pos h1,fv,if_pos (by simp[h1]),dA,dA,ih]
   ·by_cases h2:p.2=(i:Int)
    ·rw[eT,if_neg h1,if_pos h2,fv,if_pos (by simp[h2]),dA,dA,ih]
    ·rw[eT,if_neg h1,if_neg h2,fv,if_neg (by simp[Ne.symm h1,Ne.symm h2]),ih]
 exact key ps
def Cp:List (List Int)→Int→Int→Nat
 | [],_,_=>0
 |L::Ls,s,t=>if(L.length:Int)=s then Cp Ls (s*t) t+1 else 0
theorem Rn{fs:List (Option Nat)}{m:Int}{k:Nat}(h:((k:Nat):Int)+1≤m):(BE fs m).drop (k+1)=Af fs (k+1)::(BE fs m).drop (k+2):=by
 unfold BE
 have hlt:k+1< ((dE (m+1).toNat).map fun k=>Af fs k).length:=by simp;omega
 rw[fY hlt]
 simp
section
variable{Z:Zx}{ρ:List (Option T)}{O:AH}{o e:Expr}{apos cpos:Pos}{fs:List (Option Nat)}{k:Nat}{Φ:BQ}
end
section
variable{P:Program}{w:World}{K:b5}{mg:Str→Option Value}{base:Heap}{CN CE CP CL:Addr}
def Ro(CE:Addr):Bf:=fun ts O Φ Ξ=>∃n ps,ts=[Au n ps]∧WebN n ps∧1≤n∧(∀d,Kv (Am n ps)=.int d→Φ (.int d) O)∧(Kv (Am n ps)=.non→Ξ (.ref CE) O)
theorem VY:FnScope ["web","d"] ["web"] (AA XJ):=⟨rfl,rfl,rfl,by decide+kernel,rfl,by decide+kernel,by decide+kernel⟩
theorem Xq{f:Addr}{fd:dD}(F:Fun K "evenness" "evenness" XJ f fd)(mE:mg "NotEven" =some (.ref CE))(xE:gk K CE HH "ValueError.__new__" =true)(G:FnT P w K mg base "even_by" 2 ["web"] MI):FnOk P w K mg base (CXe P w) 3 f fd ["web"] (Bq K (Ro CE)):=by
 refine Ff F VY ?_ ?_
 ·rintro ts O Φ Ξ ⟨n,ps,rfl,_⟩
  rfl
 ·rintro cdv A outer s H E O Ξ hr xo _ Φ ⟨n,ps,rfl,wn,n0,q1,q2⟩
  refine AD (AK 1 (ET.we (Aa G hr xo.f (AE (ev 0) AB) ⟨n,ps,rfl,wn,n0,rfl⟩) ?_) VY.nd)
  rcases Md (Am n ps) with⟨d,h,_⟩|h
  ·rw[h]
   exact AD (As (k:=false) (Ey (t:=.int d) rfl (ev 1)) (fun h=>by cases h) (fun _=>Ap (AF (AO (ET.we (ev 1) (q1 d h))))))
  ·rw[h]
   exact AD (As (k:=true) (Ey (t:=.non) rfl (ev 1)) (fun _=>AF (DX xo rfl mE xE (q2 h))) (fun h=>by cases h))
def JW:Bf:=Ij fun ts r=>∃(Ls:List (List Int)) (s t:Int),ts=[.lst (Ls.map Ad),.int s,.int t]∧(-100≤t∧t<1000)∧r=.int (Cp (Ls.drop 1) s t)
def Xr:List Str:=["layers","due","times","full","size","layer"]
theorem Dc:FnScope Xr ["layers","due","times"] (AA MB):=⟨rfl,rfl,rfl,by decide+kernel,rfl,by decide+kernel,by decide+kernel⟩
theorem Rp{f:Addr}{fd:dD}(F:Fun K "full_layers" "full_layers" MB f fd)(Tx:Txt mg):FnOk P w K mg base (CXe P w) 1 f fd ["layers","due","times"] (Bq K JW):=by
 refine AU F Dc ?_ ?_
 ·rintro ts O Φ Ξ ⟨r,⟨Ls,s,t,rfl,_⟩,_⟩
  rfl
 ·rintro cdv A outer s H E O Ξ hr xf _ Φ ⟨_,⟨Ls,sz,t,rfl,ht,rfl⟩,q⟩
  refine AD (AK 3 (ET.we AC ?_) Dc.nd)
  refine AD (AK 4 (ET.we (ev 1) ?_) Dc.nd)
  have ed:HJ (Ls.map Ad) (some 1) none=(Ls.drop 1).map Ad:=by rw[List.map_drop];exact Rg (k:=1)
  refine AD (Bc Aq.own rfl (EI.wi (EI.cast (Ag (UT (ev 0) AC)) ed) ⟨fun i ρ' O'=>∃v5,ρ'=[some (.lst (Ls.map Ad)),some (.int sz),some (.int t),some (.int (i:Int)),some (.int (sz*t^i)),v5]∧O=O'∧Cp (Ls.drop 1) sz t=i+Cp ((Ls.drop 1).drop i) (sz*t^i) t,⟨none,by rw[lx,lT];rfl,rfl,by rw[lx,lT];simp⟩,?_,?_⟩))
  ·rintro i u _ _ e ⟨v5,rfl,rfl,hf⟩
   rw[b9] at e
   cases ec:(Ls.drop 1)[i]? with
   |none=>rw[ec] at e;cases e
   |some L=>
    rw[ec] at e
    cases e
    obtain⟨hi,hL⟩:=dt.mp ec
    have hd:(Ls.drop 1).drop i=L::(Ls.drop 1).drop (i+1):=by rw[fY hi,hL]
    rw[hd] at hf
    refine⟨[some (.lst (Ls.map Ad)),some (.int sz),some (.int t),some (.int (i:Int)),some (.int (sz*t^i)),some (Ad L)],AM 5 Dc.nd (by show 5<6;decide),?_⟩
    refine AD (As (k:=!decide ((L.length:Int)=sz*t^i)) (EB.cast (Ii (Io Tx.nLen (ev 5)) (ev 4)) (by rw[c9])) (fun h=>?_) (fun h=>Ap ?_))
    ·have hne:¬(L.length:Int)=sz*t^i:=by simpa using h
     rw[Cp,if_neg hne] at hf
     rw[hf] at q
     exact AF (AO (ET.we (ev 3) q))
    ·have heq:(L.length:Int)=sz*t^i:=by simpa using h
     rw[Cp,if_pos heq] at hf
     have e1:sz*t^i*t=sz*t^(i+1):=by rw[mf,ly]
     refine AD (GV 3 Kx rfl (ET.we AC (fun H v w Q ok r1 r2 acc=> ⟨_,_,r1.int_inv,r2.int_inv,acc _ H (.int ((i+1:Nat):Int)) _ ?_ (.refl ok) (.int _)⟩)) Dc.nd)
     refine AF (GV 4 Pk rfl (ET.we (ev 2) (fun H v w Q ok r1 r2 acc=> ⟨_,_,r1.int_inv,r2.int_inv,.inr ⟨by omega,by omega⟩,acc _ H (.int (sz*t^(i+1))) _ ⟨_,rfl,rfl,?_⟩ (.refl ok) (by rw[←e1];exact .int _)⟩)) Dc.nd)
     rw[hf,e1]
     omega
  ·rintro _ _ ⟨v5,rfl,rfl,hf⟩
   rw[c9,kX,Cp] at hf
   refine AF (AO (ET.we (t:=.int (Cp (Ls.drop 1) sz t:Int)) (ev 3 ?_) q))
   rw[hf,c9]
   rfl
def Rq(n:Int)(ps:List (Int×Int))(S:List Int)(sz t:Int)(O:AH)(Φ:BQ):Prop:=∀fs m,All n ps S fs→Bp (An fs) m→Φ (.int (Cp ((BE fs m).drop 1) sz t)) O
def Kj(CE CP:Addr):Bf:=fun ts O Φ Ξ=>∃n ps t,ts=[Au n ps,t]∧Ae t=false∧WebN n ps∧1≤n∧(Kv (Am n ps)=.non→Ξ (.ref CE) O)∧
 ∀d,Kv (Am n ps)=.int d→(∀i:Int,t=.int i→0≤i→i<n→Rq n ps [i] d (d-1) O Φ)∧(CF t 0 (n-1)=false→Ξ (.ref CP) O)
theorem Kl:FnScope ["web","place","d"] ["web","place"] (AA Iz):=⟨rfl,rfl,rfl,by decide+kernel,rfl,by decide+kernel,by decide+kernel⟩
theorem Me{f:Addr}{fd:dD}(F:Fun K "full_at" "full_at" Iz f fd)(Ge:FnT P w K mg base "evenness" 3 ["web"] (Ro CE))(Gf:FnT P w K mg base "full_layers" 1 ["layers","due","times"] JW)(Gl:FnT P w K mg base "layers_of" 4 ["web","place"] (JP CP)):FnOk P w K mg base (CXe P w) 5 f fd ["web","place"] (Bq K (Kj CE CP)):=by
 refine AU F Kl ?_ ?_
 ·rintro ts O Φ Ξ ⟨n,ps,t,rfl,_⟩
  rfl
 ·rintro cdv A outer s H E O Ξ hr xf _ Φ ⟨n,ps,t,rfl,ht,wn,n0,q1,q2⟩
  refine AD (AK 2 (AJ Ge (hr.mono (by decide)) xf (EA.wa (AE (ev 0) AB) ⟨n,ps,rfl,wn,n0,fun d hd=>?_,q1⟩)) Kl.nd)
  obtain⟨q3,q4⟩:=q2 d hd
  have bd:=VX wn n0 hd
  refine AF (AO (AJ Gf (hr.mono (by decide)) xf (Ir (ER (AJ Gl hr xf (EA.wa (AE (ev 0) (AE (ev 1) AB)) ⟨n,ps,t,rfl,ht,wn,fun i e i0 i1 fs m al hm a ha=>?_,fun h=>q4 h⟩))))))
  exact⟨a,_,rfl,ha,rfl,EA.wa (AE (ev 2) (AE (BS (ev 2) AC) AB)) ⟨_,⟨BE fs m,d,d-1,rfl,⟨by omega,by omega⟩,rfl⟩,q3 i e i0 i1 fs m al hm⟩⟩
def Km(CE CP CL:Addr):Bf:=fun ts O Φ Ξ=>∃n ps t u,ts=[Au n ps,t,u]∧Ae t=false∧Ae u=false∧WebN n ps∧1≤n∧(Kv (Am n ps)=.non→Ξ (.ref CE) O)∧
 ∀d,Kv (Am n ps)=.int d→(∀i j:Int,t=.int i→u=.int j→0≤i→i<n→0≤j→j<n→(NR ps i j=true→Rq n ps [i,j] (2*(d-1)) (d-1) O Φ)∧(NR ps i j=false→Ξ (.ref CL) O))∧(CF t 0 (n-1)=false∨CF u 0 (n-1)=false→Ξ (.ref CP) O)
theorem Kn:FnScope ["web","a","b","d"] ["web","a","b"] (AA JA):=⟨rfl,rfl,rfl,by decide+kernel,rfl,by decide+kernel,by decide+kernel⟩
theorem Mf{f:Addr}{fd:dD}(F:Fun K "full_by" "full_by" JA f fd)(Ge:FnT P w K mg base "evenness" 3 ["web"] (Ro CE))(Gf:FnT P w K mg base "full_layers" 1 ["layers","due","times"] JW)(Gl:FnT P w K mg base "layers_by_tie" 5 ["web","a","b"] (Gk CP CL)):FnOk P w K mg base (CXe P w) 6 f fd ["web","a","b"] (Bq K (Km CE CP CL)):=by
 refine AU F Kn ?_ ?_
 ·rintro ts O Φ Ξ ⟨n,ps,t,u,rfl,_⟩
  rfl
 ·rintro cdv A outer s H E O Ξ hr xf _ Φ ⟨n,ps,t,u,rfl,ht,hu,wn,n0,q1,q2⟩
  refine AD (AK 3 (AJ Ge (hr.mono (by decide)) xf (EA.wa (AE (ev 0) AB) ⟨n,ps,rfl,wn,n0,fun d hd=>?_,q1⟩)) Kn.nd)
  obtain⟨q3,q4⟩:=q2 d hd
  have bd:=VX wn n0 hd
  refine AF (AO (AJ Gf (hr.mono (by decide)) xf (Ir (ER (AJ Gl hr xf (EA.wa (AE (ev 0) (AE (ev 1) (AE (ev 2) AB))) ⟨n,ps,t,u,rfl,ht,hu,wn,fun i j e1 e2 i0 i1 j0 j1=> ⟨fun h fs m al hm a ha=>?_,fun h=> (q3 i j e1 e2 i0 i1 j0 j1).2 h⟩,fun h=>q4 h⟩))))))
  exact⟨a,_,rfl,ha,rfl,EA.wa (AE (CZ AC (BS (ev 3) AC) (.inl ⟨by decide,by decide⟩)) (AE (BS (ev 3) AC) AB)) ⟨_,⟨BE fs m,2*(d-1),d-1,rfl,⟨by omega,by omega⟩,rfl⟩,(q3 i j e1 e2 i0 i1 j0 j1).1 h fs m al hm⟩⟩
end
end K12
namespace GrR
variable{R:Int→Int→Prop}{S L M:List Int}{a b p q u v x y:Int}{i j k d s e:Nat}{nb:Int→List Int}{n:Int}
theorem UY(h:IsD R S v j):∃x∈S,∃L,Ch R (x::L)∧(x::L).Nodup∧(x::L).getLast?=some v∧L.length=j∧(∀y∈x::L,y=v∨∃i,i<j∧IsD R S y i)∧∀y∈L,y∉S:=by
 induction j generalizing v with
 |zero=>
  cases h.1 with
  |«at» hv=>exact⟨v,hv,[],trivial,by simp,rfl,rfl,fun y hy=> .inl (b8.mp hy),fun y hy=>by cases hy⟩
 |succ j ih=>
  obtain⟨u,hu,r⟩:=h.prev
  obtain⟨x,hx,L,l1,l2,l3,l4,l5,l6⟩:=ih hu
  obtain⟨M,eM⟩:∃M,x::L=M++[u]:=iz.mp l3
  have lev:∀y∈x::L,∃i,i<j+1∧IsD R S y i:=fun y hy=>by
   rcases l5 y hy with rfl| ⟨i,hi,q⟩
   ·exact⟨j,by omega,hu⟩
   ·exact⟨i,by omega,q⟩
  refine⟨x,hx,L++[v],?_,?_,?_,by simp[l4],fun y hy=>?_,fun y hy hs=>?_⟩
  ·rw[←eZ,eM]
   exact Ed.mpr ⟨eM▸l1,r⟩
  ·rw[←eZ,eY]
   refine⟨l2,by simp,fun y hy z hz e=>?_⟩
   rw[b8.mp hz] at e
   subst e
   obtain⟨i,hi,q⟩:=lev y hy
   have:=q.uniq h
   omega
  ·rw[←eZ,gR]
   rfl
  ·rw[←eZ] at hy
   rcases dJ.mp hy with hy|hy
   ·exact .inr (lev y hy)
   ·exact .inl (b8.mp hy)
  ·rcases dJ.mp hy with hy|hy
   ·exact l6 y hy hs
   ·rw[b8.mp hy] at hs
    exact h.2 0 (by omega) (.at hs)
theorem join(sy:∀u v,R u v→R v u)(hS:∀x∈S,∀y∈S,x=y∨(R x y∧1≤e))(hx:x∈S)(hy:y∈S)(h1:Ch R (x::L))(h2:Ch R (y::M))(n1:(x::L).Nodup)(n2:(y::M).Nodup)(o1:∀z∈L,z∉S)(o2:∀z∈M,z∉S)(t1:(x::L).getLast?=some v)(t2:(y::M).getLast?=some v)(ne:x=y→L≠M):∃Q,Ring R Q∧Q.length≤L.length+M.length+e:=by
 rcases hS x hx y hy with rfl| ⟨r,he⟩
 ·obtain⟨Q,r,l⟩:=Ee sy h1 h2 n1 n2 t1 t2 (ne rfl)
  exact⟨Q,r,by omega⟩
 ·by_cases exy:x=y
  ·subst exy
   obtain⟨Q,r,l⟩:=Ee sy h1 h2 n1 n2 t1 t2 (ne rfl)
   exact⟨Q,r,by omega⟩
  ·obtain⟨Q,r,l⟩:=Ee (p:=L) (q:=y::M) sy h1 ⟨r,h2⟩ n1 (dO.mpr ⟨fun h=>by
    rcases dh.mp h with h|h
    ·exact exy h
    ·exact o2 x h hx,n2⟩) t1 (by rw[fU];exact t2) (fun z=>o1 y (by rw[z];simp) hy)
   exact⟨Q,r,by simp only[dA] at l;omega⟩
theorem Mh(sy:∀u v,R u v→R v u)(hS:∀x∈S,∀y∈S,x=y∨(R x y∧1≤e))(least:∀M,Ring R M→s≤M.length)(hs:2*(j+1)+e<s)(hv:IsD R S v (j+1))(h1:IsD R S a j)(h2:IsD R S b j)(r1:R a v)(r2:R b v):a=b:=by
 obtain⟨x,hx,L,l1,l2,l3,l4,l5,l6⟩:=UY h1
 obtain⟨y,hy,M,m1,m2,m3,m4,m5,m6⟩:=UY h2
 have nv:v∉S:=fun h=>hv.2 0 (by omega) (.at h)
 have app:∀{x:Int} {L:List Int} {a:Int},Ch R (x::L)→(x::L).getLast?=some a→R a v→Ch R (x::(L++[v])):=fun{x L a} h1 h2 h3=>by
  obtain⟨M,eM⟩:∃M,x::L=M++[a]:=iz.mp h2
  rw[←eZ,eM]
  exact Ed.mpr ⟨eM▸h1,h3⟩
 have nd:∀{x:Int} {L:List Int} {a:Int},IsD R S a j→(x::L).Nodup→(∀y∈x::L,y=a∨∃i,i<j∧IsD R S y i)→(x::(L++[v])).Nodup:=fun{x L a} ha h1 h2=>by
  rw[←eZ,eY]
  refine⟨h1,by simp,fun y hy z hz e=>?_⟩
  rw[b8.mp hz] at e
  subst e
  rcases h2 y hy with rfl| ⟨i,hi,q⟩
  ·have:=ha.uniq hv
   omega
  ·have:=q.uniq hv
   omega
 have out:∀{L:List Int},(∀y∈L,y∉S)→∀y∈L++[v],y∉S:=fun{L} h y hy=>by
  rcases dJ.mp hy with hy|hy
  ·exact h y hy
  ·rw[b8.mp hy]
   exact nv
 by_cases ab:a=b
 ·exact ab
 ·obtain⟨Q,r,l⟩:=join (v:=v) sy hS hx hy (app l1 l3 r1) (app m1 m3 r2) (nd h1 l2 l5) (nd h2 m2 m5) (out l6) (out m6) (by rw[←eZ,gR];rfl) (by rw[←eZ,gR];rfl) (fun exy z=>by
   subst exy
   have:L=M:=List.append_cancel_right z
   subst this
   rw[l3] at m3
   cases m3
   exact ab rfl)
  have:=least Q r
  simp only[dz,dA,gY] at l
  omega
theorem Rr(sy:∀u v,R u v→R v u)(ir:∀u,¬R u u)(hS:∀x∈S,∀y∈S,x=y∨(R x y∧1≤e))(least:∀M,Ring R M→s≤M.length)(hj:1≤j)(hs:2*j+1+e<s)(h1:IsD R S a j)(h2:IsD R S b j):¬R a b:=fun r=>by
 obtain⟨x,hx,L,l1,l2,l3,l4,l5,l6⟩:=UY h1
 obtain⟨y,hy,M,m1,m2,m3,m4,m5,m6⟩:=UY h2
 have nv:b∉S:=fun h=>h2.2 0 (by omega) (.at h)
 obtain⟨Q,q,l⟩:=join (v:=b) (L:=L++[b]) sy hS hx hy (by
  obtain⟨N,eN⟩:∃N,x::L=N++[a]:=iz.mp l3
  rw[←eZ,eN]
  exact Ed.mpr ⟨eN▸l1,r⟩) m1 (by
  rw[←eZ,eY]
  refine⟨l2,by simp,fun y hy z hz e=>?_⟩
  rw[b8.mp hz] at e
  subst e
  rcases l5 y hy with rfl| ⟨i,hi,q⟩
  ·exact ir _ r
  ·have:=q.uniq h2
   omega) m2 (fun z hz=>by
  rcases dJ.mp hz with hz|hz
  ·exact l6 z hz
  ·rw[b8.mp hz];exact nv) m6 (by rw[←eZ,gR];rfl) m3 (fun _ z=>by
   have:=congrArg List.length z
   simp only[dz,dA,gY] at this
   omega)
 have:=least Q q
 simp only[dz,dA,gY] at l
 omega
def LV(R:Int→Int→Prop)(S:List Int)(j:Nat)(l:List Int):Prop:=l.Nodup∧∀v,v∈l↔IsD R S v j
theorem CJ{l l':List Int}(h:l.Nodup)(h':l'.Nodup)(e:∀v,v∈l↔v∈l'):l.length=l'.length:=((List.perm_ext_iff_of_nodup h h').mpr e).length_eq
theorem UZ{l:List Int}(h:l.Nodup)(hm:x∈l):(l.filter fun v=>decide (v≠x)).length+1=l.length:=by
 have:((x::l.filter fun v=>decide (v≠x))).length=l.length:=CJ (dO.mpr ⟨fun h=>by simp at h,h.filter _⟩) h fun v=>by
  simp only[dh,dR,decide_eq_true_eq]
  by_cases c:v=x
  ·subst c;simp[hm]
  ·simp[c]
 simpa using this
theorem Ng{f:Int→List Int}:∀{l:List Int},l.Nodup→(∀u∈l,(f u).Nodup)→(∀u∈l,∀w∈l,∀v,v∈f u→v∈f w→u=w)→(l.flatMap f).Nodup
 | [],_,_,_=>by simp
 |u::l,h,h1,h2=>by
  rw[dO] at h
  rw[List.flatMap_cons,eY]
  refine⟨h1 u (by simp),Ng h.2 (fun w hw=>h1 w (by simp[hw])) (fun w hw z hz=>h2 w (by simp[hw]) z (by simp[hz])),fun v hv w hw e=>?_⟩
  subst e
  obtain⟨z,hz,hv2⟩:=List.mem_flatMap.mp hw
  have:=h2 u (by simp) z (by simp[hz]) v hv hv2
  subst this
  exact h.1 hz
theorem Ko{f:Int→List Int}{c:Nat}:∀{l:List Int},(∀u∈l,(f u).length=c)→(l.flatMap f).length=c*l.length
 | [],_=>by simp
 |u::l,h=>by
  rw[List.flatMap_cons,dz,h u (by simp),Ko (l:=l) (fun w hw=>h w (by simp[hw])),dA,Nat.mul_succ,Nat.add_comm]
theorem aA{l l':List Int}(hR:∀u v,v∈nb u↔R u v)(hn:∀u,(nb u).Nodup)(hd:∀u∈l,(nb u).length=d+1)(h:LV R S j l)(h':LV R S (j+1) l')(hw:∀u∈l,∃w,R u w∧∀v,R u v→(v≠w↔IsD R S v (j+1)))(up:∀u∈l,∀w∈l,∀v,IsD R S v (j+1)→R u v→R w v→u=w):l'.length=d*l.length:=by
 classical
 have e:∀u∈l,((nb u).filter fun v=>decide (IsD R S v (j+1))).length=d:=fun u hu=>by
  obtain⟨w,rw',hv⟩:=hw u hu
  have:=UZ (hn u) ((hR u w).mpr rw')
  rw[hd u hu] at this
  rw[show((nb u).filter fun v=>decide (IsD R S v (j+1)))=(nb u).filter fun v=>decide (v≠w) from List.filter_congr fun v hm=>by
   have:=hv v ((hR u v).mp hm)
   simp only[decide_eq_decide]
   exact this.symm]
  omega
 rw[←Ko e]
 refine CJ h'.1 (Ng h.1 (fun u _=> (hn u).filter _) (fun u hu w hw v h1 h2=>?_)) fun v=>?_
 ·rw[dR,decide_eq_true_eq] at h1 h2
  exact up u hu w hw v h1.2 ((hR ..).mp h1.1) ((hR ..).mp h2.1)
 ·rw[h'.2 v,List.mem_flatMap]
  constructor
  ·intro hv
   obtain⟨u,hu,r⟩:=hv.prev
   exact⟨u,(h.2 u).mpr hu,dR.mpr ⟨(hR ..).mpr r,decide_eq_true hv⟩⟩
  ·rintro⟨u,_,hm⟩
   rw[dR,decide_eq_true_eq] at hm
   exact hm.2
theorem Rt(sy:∀u v,R u v→R v u)(hu:IsD R S u (j+1))(r:R u v):∃i,j≤i∧i≤j+2∧IsD R S v i:=by
 obtain⟨i,hi,q⟩:=(W.go hu.1 r).least
 refine⟨i,?_,hi,q⟩
 by_cases c:j≤i
 ·exact c
 ·exact absurd (W.go q.1 (sy _ _ r)) (hu.2 _ (by omega))
theorem Nh{l l':List Int}(sy:∀u v,R u v→R v u)(ir:∀u,¬R u u)(hS:∀x∈S,∀y∈S,x=y∨(R x y∧1≤e))(least:∀M,Ring R M→s≤M.length)(hs:2*(j+2)+e<s)(hR:∀u v,v∈nb u↔R u v)(hn:∀u,(nb u).Nodup)(hd:∀u∈l,(nb u).length=d+1)(h:LV R S (j+1) l)(h':LV R S (j+2) l'):l'.length=d*l.length:=by
 refine aA hR hn hd h h' (fun u hu=>?_) (fun u hu w hw v hv r1 r2=>Mh sy hS least hs hv ((h.2 u).mp hu) ((h.2 w).mp hw) r1 r2)
 have hu:=(h.2 u).mp hu
 obtain⟨w,hw,r⟩:=hu.prev
 refine⟨w,sy _ _ r,fun v rv=> ⟨fun ne=>?_,fun hv z=>?_⟩⟩
 ·obtain⟨i,h1,h2,q⟩:=Rt sy hu rv
  have:i=j∨i=j+1∨i=j+2:=by omega
  rcases this with rfl|rfl|rfl
  ·exact absurd (Mh sy hS least (by omega) hu q hw (sy _ _ rv) r) ne
  ·exact absurd rv (Rr sy ir hS least (by omega) (by omega) hu q)
  ·exact q
 ·subst z
  have:=hv.uniq hw
  omega
theorem JX(sy:∀u v,R u v→R v u)(ir:∀u,¬R u u)(least:∀M,Ring R M→s≤M.length)(hR:∀u v,v∈nb u↔R u v)(hn:∀u,(nb u).Nodup)(hb:∀u v,R u v→0≤v∧v<n)(hd:∀u,0≤u→u<n→(nb u).length=d+1)(hp:0≤p∧p<n){F:Nat→List Int}(hF:∀i,LV R [p] i (F i)):∀i,2*(i+1)<s→(F (i+1)).length=(d+1)*d^i
 |0,_=>by
  rw[Nat.pow_zero,Nat.mul_one,←hd p hp.1 hp.2]
  refine CJ (hF 1).1 (hn p) fun v=>?_
  rw[(hF 1).2,hR]
  constructor
  ·intro h
   obtain⟨u,hu,r⟩:=IsD.prev (s:=0) h
   cases hu.1 with
   |«at» h=>rw[b8.mp h] at r;exact r
  ·intro r
   refine⟨.go (.at (by simp)) r,fun j hj w=>?_⟩
   have:j=0:=by omega
   subst this
   cases w with
   |«at» h=>rw[b8.mp h] at r;exact ir _ r
 |i+1,hs=>by
  have ih:=JX sy ir least hR hn hb hd hp hF i (by omega)
  rw[Nh (e:=0) sy ir (fun x hx y hy=> .inl (by rw[b8.mp hx,b8.mp hy])) least hs hR hn (fun u hu=>by
   have:=(((hF (i+1)).2 u).mp hu).1.inb (n:=n) hb (fun z hz=>by rw[b8.mp hz];exact hp)
   exact hd u this.1 this.2) (hF (i+1)) (hF (i+2)),ih,mJ]
  rw[mK,Nat.mul_assoc]
theorem Mi(sy:∀u v,R u v→R v u)(ir:∀u,¬R u u)(least:∀M,Ring R M→s≤M.length)(hR:∀u v,v∈nb u↔R u v)(hn:∀u,(nb u).Nodup)(hb:∀u v,R u v→0≤v∧v<n)(hd:∀u,0≤u→u<n→(nb u).length=d+1)(r:R a b){F:Nat→List Int}(hF:∀i,LV R [a,b] i (F i)):∀i,2*i+1<s→(F i).length=2*d^i
 |0,_=>by
  have ne:a≠b:=fun z=>ir b (z▸r)
  rw[Nat.pow_zero]
  refine CJ (l':=[a,b]) (hF 0).1 (by simp[ne]) fun v=>?_
  rw[(hF 0).2]
  exact⟨fun h=>by cases h.1 with|«at» h=>exact h,fun h=> ⟨.at h,fun j hj=>by omega⟩⟩
 |i+1,hs=>by
  have ih:=Mi sy ir least hR hn hb hd r hF i (by omega)
  have hab:=hb _ _ r
  have hba:=hb _ _ (sy _ _ r)
  have hS:∀x∈[a,b],∀y∈[a,b],x=y∨(R x y∧1≤1):=fun x hx y hy=>by
   simp only[dh,dI,or_false] at hx hy
   rcases hx with rfl|rfl<;>rcases hy with rfl|rfl
   ·exact .inl rfl
   ·exact .inr ⟨r,dm _⟩
   ·exact .inr ⟨sy _ _ r,dm _⟩
   ·exact .inl rfl
  have hl:∀i,∀u∈F i,(nb u).length=d+1:=fun i u hu=>by
   have:=(((hF i).2 u).mp hu).1.inb (n:=n) hb (fun z hz=>by
    simp only[dh,dI,or_false] at hz
    rcases hz with rfl|rfl
    ·exact hba
    ·exact hab)
   exact hd u this.1 this.2
  rw[mJ,←Nat.mul_assoc,←ih,mK]
  cases i with
  |succ i=>exact Nh (e:=1) sy ir hS least (by omega) hR hn (hl _) (hF (i+1)) (hF (i+2))
  |zero=>
   refine aA hR hn (hl 0) (hF 0) (hF 1) (fun u hu=>?_) (fun u hu w hw v hv r1 r2=>Mh (e:=1) sy hS least (by omega) hv (((hF 0).2 u).mp hu) (((hF 0).2 w).mp hw) r1 r2)
   have h0:=(((hF 0).2 u).mp hu).1
   have key:∀u w,u∈[a,b]→w∈[a,b]→R u w→(∀z∈[a,b],z=u∨z=w)→∀v,R u v→(v≠w↔IsD R [a,b] v 1):=fun u w hu hw ruw al v rv=>by
    constructor
    ·intro ne
     refine⟨.go (.at hu) rv,fun j hj w'=>?_⟩
     have:j=0:=by omega
     subst this
     cases w' with
     |«at» h=>
      rcases al v h with rfl|rfl
      ·exact ir _ rv
      ·exact ne rfl
    ·intro hv z
     subst z
     exact hv.2 0 (by omega) (.at hw)
   cases h0 with
   |«at» h=>
    simp only[dh,dI,or_false] at h
    rcases h with rfl|rfl
    ·exact⟨b,r,key u b (by simp) (by simp) r (fun z hz=>by simpa using hz)⟩
    ·exact⟨a,sy _ _ r,key u a (by simp) (by simp) (sy _ _ r) (fun z hz=>by
      simp only[dh,dI,or_false] at hz
      exact hz.symm)⟩
def Cv(f:Nat→Nat):Nat→Nat
 |0=>0
 |k+1=>Cv f k+f k
theorem Ni(hb:∀u v,R u v→0≤v∧v<n)(hS:∀z∈S,0≤z∧z<n){F:Nat→List Int}(hF:∀i,LV R S i (F i))(k:Nat):∃l:List Int,l.Nodup∧(∀v,v∈l↔∃i,i<k∧IsD R S v i)∧l.length=Cv (fun i=> (F i).length) k:=by
 induction k with
 |zero=>exact⟨[],by simp,fun v=>by simp,rfl⟩
 |succ k ih=>
  obtain⟨l,h1,h2,h3⟩:=ih
  refine⟨l++F k,?_,fun v=>?_,by rw[dz,h3];rfl⟩
  ·rw[eY]
   refine⟨h1,(hF k).1,fun u hu w hw e=>?_⟩
   subst e
   obtain⟨i,hi,q⟩:=(h2 u).mp hu
   have:=q.uniq (((hF k).2 u).mp hw)
   omega
  ·rw[dJ,h2,(hF k).2]
   constructor
   ·rintro(⟨i,hi,q⟩|q)
    ·exact⟨i,by omega,q⟩
    ·exact⟨k,by omega,q⟩
   ·rintro⟨i,hi,q⟩
    by_cases c:i<k
    ·exact .inl ⟨i,c,q⟩
    ·have:i=k:=by omega
     subst this
     exact .inr q
theorem Ru(hb:∀u v,R u v→0≤v∧v<n)(hS:∀z∈S,0≤z∧z<n){F:Nat→List Int}(hF:∀i,LV R S i (F i))(k:Nat):Cv (fun i=> (F i).length) k≤n.toNat:=by
 obtain⟨l,h1,h2,h3⟩:=Ni hb hS hF k
 rw[←h3]
 refine Gr.Iw h1 fun z hz=>?_
 obtain⟨i,_,q⟩:=(h2 z).mp hz
 exact q.1.inb hb hS
theorem Rv(sy:∀u v,R u v→R v u)(ir:∀u,¬R u u)(hR:∀u v,v∈nb u↔R u v)(hn:∀u,(nb u).Nodup)(hb:∀u v,R u v→0≤v∧v<n)(hd:∀u,0≤u→u<n→(nb u).length=d+1)(d1:1≤d)(hp:0≤p∧p<n){F:Nat→List Int}(hF:∀i,LV R [p] i (F i)):∃M,Ring R M:=by
 by_cases h:∃M,Ring R M
 ·exact h
 ·have:=JX (s:=2*(n.toNat+1)+1) sy ir (fun M r=>absurd ⟨M,r⟩ h) hR hn hb hd hp hF n.toNat (by omega)
  have pos:0< (d+1)*d^n.toNat:=Nat.mul_pos (by omega) (Nat.pow_pos (by omega))
  rw[←this] at pos
  obtain⟨v,hv⟩:=List.exists_mem_of_length_pos pos
  have:=(((hF _).2 v).mp hv).lt hb (fun z hz=>by rw[b8.mp hz];exact hp)
  omega
open Classical in
def aB (R:Int→Int→Prop) (S:List Int) (n:Int) (i:Nat):List Int:=((dE n.toNat).map fun(j:Nat)=> (j:Int)).filter fun v=>decide (IsD R S v i)
theorem Rx(hb:∀u v,R u v→0≤v∧v<n)(hS:∀z∈S,0≤z∧z<n)(i:Nat):LV R S i (aB R S n i):=by
 refine⟨jT _ ?_,fun v=>?_⟩
 ·rw[gC]
  exact List.nodup_range.imp fun{a b} h z=>h (by omega)
 ·classical
  unfold aB
  rw[dR,dy]
  refine⟨fun h=>of_decide_eq_true h.2,fun h=> ⟨?_,decide_eq_true h⟩⟩
  have:=h.1.inb hb hS
  exact⟨v.toNat,dU.mpr (by omega),by omega⟩
theorem JY{f g:Nat→Nat}:∀k,(∀i,i<k→f i=g i)→Cv f k=Cv g k
 |0,_=>rfl
 |k+1,h=>by show Cv f k+f k=Cv g k+g k;rw[JY k fun i hi=>h i (by omega),h k (by omega)]
theorem IB{f:Nat→Nat}:∀k,Cv f (k+1)=f 0+Cv (fun i=>f (i+1)) k
 |0=>by show 0+f 0=f 0+0;omega
 |k+1=>by show Cv f (k+1)+f (k+1)=f 0+(Cv (fun i=>f (i+1)) k+f (k+1));rw[IB k];omega
theorem Ry{l:List Int}(h:LV R [p] 0 l):l.length=1:=CJ (l':=[p]) h.1 (by simp) fun v=>by
 rw[h.2]
 exact⟨fun h=>by cases h.1 with|«at» h=>exact h,fun h=> ⟨.at h,fun j hj=>by omega⟩⟩
theorem Ua(sy:∀u v,R u v→R v u)(ir:∀u,¬R u u)(least:∀M,Ring R M→s≤M.length)(hR:∀u v,v∈nb u↔R u v)(hn:∀u,(nb u).Nodup)(hb:∀u v,R u v→0≤v∧v<n)(hd:∀u,0≤u→u<n→(nb u).length=d+1)(hp:0≤p∧p<n){F:Nat→List Int}(hF:∀i,LV R [p] i (F i))(k:Nat)(hk:2*k<s):Cv (fun i=> (F i).length) (k+1)=1+Cv (fun i=> (d+1)*d^i) k:=by
 rw[IB,Ry (hF 0),JY k fun i hi=>JX sy ir least hR hn hb hd hp hF i (by omega)]
theorem Ub(sy:∀u v,R u v→R v u)(ir:∀u,¬R u u)(least:∀M,Ring R M→s≤M.length)(hR:∀u v,v∈nb u↔R u v)(hn:∀u,(nb u).Nodup)(hb:∀u v,R u v→0≤v∧v<n)(hd:∀u,0≤u→u<n→(nb u).length=d+1)(r:R a b){F:Nat→List Int}(hF:∀i,LV R [a,b] i (F i))(k:Nat)(hk:2*k≤s):Cv (fun i=> (F i).length) k=Cv (fun i=>2*d^i) k:=JY k fun i hi=>Mi sy ir least hR hn hb hd r hF i (by omega)
end GrR
namespace L2.TL
open PySem PySem.Spec PyProof.Rows
structure Fi(K:b5)(x:Str)(st:Stmt)(f:Addr)(fd:dD):Prop where
 F:Fun K x x st f fd
 a:gP K fj x=some (some (.ref f))
def Fx(K:b5)(x:Str)(st:Stmt):Prop:=∃f fd,Fi K x st f fd
def Zn(K:b5)(x:Str):Prop:=gP K fj x=some none
def Cn(K:b5)(x:Str)(C:Addr):Prop:=gP K fj x=some (some (.ref C))
structure Mg(P:Program)(w:World)(K:b5)(mg:Str→Option Value)(base:Heap):Prop where
 mm:∀{x:Str} {v:Value},gP K fj x=some (some v)→mg x=some v
section
variable{P:Program}{w:World}{K:b5}{mg:Str→Option Value}{base:Heap}{x:Str}{st:Stmt}{f:Addr}{fd:dD}{ps:List Str}{k:Nat}
theorem fi{oc:Value}{od:Option Addr}{kV doc pm:Value}{an:Option Addr}{cdv ct:Value}{osl:Array (Option Value)}(a:gP K fj x=some (some (.ref f)))(l:K.lookup f=some ⟨oc,od,.func (jh x x (Dv st) (BA st) (AA st) .none kV doc pm an cdv ct),osl⟩)(q:lP K cdv x=true)(h:iu K (.ref f)=true):
  Fx K x st:=⟨f,_,⟨⟨⟨oc,od,kV,doc,pm,an,cdv,ct,osl,rfl,l,q⟩,h⟩,a⟩⟩
abbrev Bi(x:Str)(st:Stmt)(ps:List Str)(us:List Value):Prop:=∀(kV doc pm:Value) (an:Option Addr) (cdv ct:Value),bindArgs (jh x x (Dv st) (BA st) (AA st) .none kV doc pm an cdv ct) ⟨us,[]⟩=pure (ps.zip us)
theorem Fi.b1(h:Fi K x st f fd)(hl:ps.length=1)(q:∀a,Bi x st ps [a]):Binds K fd ps []:=h.F.binds fun _ _ _ _ _ _ us e=>match us,e.trans hl with| [a],_=>q a ..
theorem Fi.b2(h:Fi K x st f fd)(hl:ps.length=2)(q:∀a b,Bi x st ps [a,b]):Binds K fd ps []:=h.F.binds fun _ _ _ _ _ _ us e=>match us,e.trans hl with| [a,b],_=>q a b ..
theorem Fi.b3(h:Fi K x st f fd)(hl:ps.length=3)(q:∀a b c,Bi x st ps [a,b,c]):Binds K fd ps []:=h.F.binds fun _ _ _ _ _ _ us e=>match us,e.trans hl with| [a,b,c],_=>q a b c ..
theorem Fi.t{s:Bf}(h:Fi K x st f fd)(M:Mg P w K mg base)(ok:FnOk P w K mg base (CXe P w) k f fd ps (Bq K s))(b:Binds K fd ps []):FnT P w K mg base x k ps s:=⟨f,fd,ok,M.mm h.a,h.F.kp,b⟩
end
end L2.TL
namespace L2
open PySem PySem.Spec PySem.Calls PyProof.Rows Builtin.ObjectAttr
section
variable{prog:Program}{w:World}{A:dH}{E:Value→b6→Prop}{s:b6}{K:b5}{x dx C f:Addr}{name:Str}{v:Value}
end
section
variable{prog:Program}{w:World}{A:dH}{E:Value→b6→Prop}{s:b6}{K:b5}{x dx C f:Addr}{name:Str}{v:Value}
end
section
variable{prog:Program}{w:World}{A:dH}{E:Value→b6→Prop}{s:b6}{K:b5}{C f:Addr}
end
section
variable{X:Cx}{pins:List (Addr×Obj)}{σ:St}{H:Hp}{s:b6}
end
section
variable{X:Cx}{o value:Expr}{n:Str}{pos pos':Pos}{ta tv:TE}
end
end L2
namespace L2.TL
open PySem PySem.Spec PySem.Calls PyProof.Rows
section
variable{Z:Zx}{ρ:List (Option T)}{O:AH}{e a b:Expr}{es:List Expr}{Ψ:Es}{Φ:BQ}{pos p:Pos}{t:T}{ts:List T}{x:Str}
end
end L2.TL
namespace L2
open PySem PySem.Spec PySem.Calls PyProof.Rows
end L2
namespace L2.TL
open PySem PySem.Spec PySem.Calls PyProof.Rows
section
variable{Z:Zx}{ρ:List (Option T)}{O O':AH}{e a b:Expr}{es:List Expr}{Ψ:Es}{Φ:BQ}{pos p:Pos}{t:T}{ts:List T}{x y C D:Addr}{H':Hp}{o:HO}{cls:Value}{fs:Str}
end
section
variable{P:Program}{w:World}{K:b5}{mg:Str→Option Value}{base:Heap}
end
section
variable{P:Program}{w:World}{K:b5}{mg:Str→Option Value}{base:Heap}{C R f:Addr}{q x:Str}{st:Stmt}{fd:dD}
end
end L2.TL
namespace K12
open PySem L2 L2.TL PySem.Spec PyProof.Rows
variable{n:Int}{ps:List (Int×Int)}{S:List Int}{fs:List (Option Nat)}
def HN(xs:List (Option Nat)):Option Nat:=(Bd (An xs)).map nC
theorem BO{xs:List (Option Nat)}{z:Int}:z∈An xs↔∃d:Nat,some d∈xs∧z=d:=by
 rw[Ci]
 constructor
 ·rintro⟨i,d,h,rfl⟩
  exact⟨d,dj h,rfl⟩
 ·rintro⟨d,h,rfl⟩
  obtain⟨i,hi⟩:=eJ h
  exact⟨i,d,hi,rfl⟩
theorem Bl{ns:List Int}{m:Int}(h:Bd ns=some m):m∈ns∧∀z∈ns,m≤z:=by
 have:=Cj ns
 rw[h] at this
 exact this
theorem FD{ns:List Int}(h:Bd ns=none):ns=[]:=by
 have:=Cj ns
 rw[h] at this
 exact this
theorem Uc{xs ys:List Int}(h1:∀z∈xs,∃y∈ys,y≤z)(h2:∀z∈ys,∃y∈xs,y≤z):Bd xs=Bd ys:=by
 cases e1:Bd xs with
 |none=>
  have:=FD e1
  subst this
  cases e2:Bd ys with
  |none=>rfl
  |some m=>
   obtain⟨y,hy,_⟩:=h2 m (Bl e2).1
   cases hy
 |some m=>
  have a:=Bl e1
  cases e2:Bd ys with
  |none=>
   have:=FD e2
   subst this
   obtain⟨y,hy,_⟩:=h1 m a.1
   cases hy
  |some k=>
   have b:=Bl e2
   obtain⟨y,hy,l1⟩:=h1 m a.1
   obtain⟨z,hz,l2⟩:=h2 k b.1
   have:=a.2 z hz
   have:=b.2 y hy
   exact congrArg some (by omega)
theorem Kq{xs:List (Option Nat)}:AY (HN xs)=Cu (Bd (An xs)):=by
 unfold HN
 cases e:Bd (An xs) with
 |none=>rfl
 |some m=>
  obtain⟨d,_,rfl⟩:=BO.mp (Bl e).1
  rfl
theorem Xs(wn:WebN n ps):Bd (An ((dE n.toNat).map fun i=>HN (Jd n ps i)))=PB ps:=by
 unfold PB
 refine Uc (fun z hz=>?_) (fun z hz=>?_)
 ·obtain⟨d,hd,rfl⟩:=BO.mp hz
  obtain⟨i,hi,e⟩:=dy.mp hd
  unfold HN at e
  cases e1:Bd (An (Jd n ps i)) with
  |none=>rw[e1] at e;cases e
  |some m=>
   rw[e1] at e
   have e:m.toNat=d:=by simpa using e
   have a:=(Bl e1).1
   rw[RO wn] at a
   obtain⟨c,hc,rfl⟩:=BO.mp a
   unfold Zh at hc
   obtain⟨p,hp,ep⟩:=dy.mp hc
   refine⟨(c:Int),BO.mpr ⟨c,dy.mpr ⟨p,(dR.mp hp).1,ep⟩,rfl⟩,by omega⟩
 ·obtain⟨d,hd,rfl⟩:=BO.mp hz
  obtain⟨p,hp,ep⟩:=dy.mp hd
  have hw:=wn.hw p hp
  have hm:(d:Int)∈An (Jd n ps p.1.toNat):=by
   rw[RO wn]
   refine BO.mpr ⟨d,dy.mpr ⟨p,dR.mpr ⟨hp,?_⟩,ep⟩,rfl⟩
   simp
   omega
  cases e1:Bd (An (Jd n ps p.1.toNat)) with
  |none=>rw[FD e1] at hm;cases hm
  |some m=>
   have a:=Bl e1
   obtain⟨c,hc,rfl⟩:=BO.mp a.1
   refine⟨(c:Int),BO.mpr ⟨c,dy.mpr ⟨p.1.toNat,dU.mpr (by omega),?_⟩,rfl⟩,a.2 _ hm⟩
   unfold HN
   rw[e1]
   rfl
theorem FE{k:Nat}{v:Int}:v∈Af fs k↔∃j:Nat,fs[j]?=some (some k)∧v=j:=by
 unfold Af
 rw[dy]
 constructor
 ·rintro⟨j,hj,rfl⟩
  obtain⟨h1,h2⟩:=dR.mp hj
  have hl:=dU.mp h1
  have h2:=of_decide_eq_true h2
  refine⟨j,?_,rfl⟩
  rw[eB,di hl] at h2
  rw[di hl]
  exact congrArg some h2
 ·rintro⟨j,h,rfl⟩
  have hl:=(dt.mp h).1
  refine⟨j,dR.mpr ⟨dU.mpr hl,decide_eq_true ?_⟩,rfl⟩
  rw[eB,h]
  rfl
theorem Gz(wn:WebN n ps)(hS:∀z∈S,0≤z∧z<n)(al:Gr.All n ps S fs){k:Nat}{v:Int}:v∈Af fs k↔Gr.IsD ps S v k:=by
 rw[FE]
 have hl:=al.len
 constructor
 ·rintro⟨j,h,rfl⟩
  have:=(dt.mp h).1
  exact(al.eq j (by omega) (by omega) k).mp (by rw[eE];exact h)
 ·intro h
  have b:=h.1.inb wn.hw hS
  exact⟨v.toNat,(al.eq v b.1 b.2 k).mpr h,by omega⟩
theorem HA(wn:WebN n ps)(hS:∀z∈S,0≤z∧z<n)(al:Gr.All n ps S fs)(k:Nat):GrR.LV (Gr.Adj ps) S k (Af fs k):=by
 refine⟨?_,fun v=> (Gz wn hS al).trans GrR.JQ⟩
 unfold Af
 rw[iw,gC]
 refine jT _ ?_
 exact List.nodup_range.imp fun{a b} h z=>h (by omega)
theorem Nj{m s t:Int}:∀(c k:Nat),((k+c:Nat):Int)≤m→(∀i,k≤i→i<k+c→((Af fs (i+1)).length:Int)=s*t^i)→c≤Cp ((BE fs m).drop (k+1)) (s*t^k) t
 |0,_,_,_=>fb _
 |c+1,k,hm,h=>by
  rw[Rn (by omega)]
  show c+1≤if((Af fs (k+1)).length:Int)=s*t^k then Cp ((BE fs m).drop (k+2)) (s*t^k*t) t+1 else 0
  rw[if_pos (h k (by omega) (by omega)),mf,←ly]
  have:=Nj (m:=m) (s:=s) (t:=t) c (k+1) (by omega) (fun i h1 h2=>h i (by omega) (by omega))
  exact Nat.succ_le_succ this
theorem Ud{m s t:Int}{c:Nat}(hm:Bp (An fs) m)(h:∀i,i<c→((Af fs (i+1)).length:Int)=s*t^i)(hs:1≤s)(ht:1≤t):c≤Cp ((BE fs m).drop 1) s t:=by
 have hc:((0+c:Nat):Int)≤m:=by
  cases c with
  |zero=>
   obtain⟨d,_,e⟩:=BO.mp hm.1
   omega
  |succ c=>
   have e:=h c (by omega)
   have pos:0<s*t^c:=Int.mul_pos (by omega) (Int.pow_pos (by omega))
   have:0< (Af fs (c+1)).length:=by omega
   obtain⟨v,hv⟩:=List.exists_mem_of_length_pos this
   obtain⟨j,hj,_⟩:=FE.mp hv
   have:=hm.2 ((c+1:Nat):Int) (Ci.mpr ⟨j,c+1,hj,rfl⟩)
   omega
 have:=Nj (s:=s) (t:=t) c 0 hc (fun i _ h2=>h i (by omega))
 rwa[lx,lT] at this
theorem Ue(wn:WebN n ps){d:Int}(h:Kv (Am n ps)=.int d):∀u:Int,0≤u→u<n→((Be ps u).length:Int)=d:=by
 intro u u0 u1
 obtain⟨i,rfl⟩:=dZ u0
 unfold Kv at h
 split at h
 ·rename_i ha
  have hm:((AV ps i).length:Int)∈Am n ps:=dy.mpr ⟨i,dU.mpr (by omega),rfl⟩
  have:=of_decide_eq_true (gx.mp ha _ hm)
  cases h
  rw[Ow wn.hw]
  exact this
 ·cases h
theorem FF{c d:Nat}:∀k,((GrR.Cv (fun i=>c*d^i) k:Nat):Int)=c*HM d k
 |0=>by show(0:Int)=c*0;omega
 |k+1=>by
  show((GrR.Cv (fun i=>c*d^i) k+c*d^k:Nat):Int)=c*(HM d k+(d:Int)^k)
  rw[Int.natCast_add,FF k,Int.mul_add,lF,lE]
theorem Rz(hw:Gr.HD n ps):∀u,¬Gr.Adj ps u u:=fun u h=> (h.inb hw).2.2 rfl
structure Grw(n:Int)(ps:List (Int×Int))(d k:Nat):Prop where
 sh:PB ps=some (k:Int)
 k3:3≤k
 kn:(k:Int)≤n
 at_:∀p fs,0≤p→p<n→Gr.All n ps [p] fs→∀i,2*(i+1)<k→((Af fs (i+1)).length:Int)=((d:Int)+1)*(d:Int)^i
 by_:∀a b fs,Gr.Adj ps a b→Gr.All n ps [a,b] fs→∀i,2*i+1<k→((Af fs i).length:Int)=2*(d:Int)^i
 gr:grown ((d:Int)+1) k≤n
theorem SA(wn:WebN n ps)(n0:1≤n)(pw:ps.Pairwise Oz){d:Nat}(hd:∀u:Int,0≤u→u<n→(Be ps u).length=d+1)(d1:1≤d):∃k,Grw n ps d k:=by
 have sy:=Ra (ps:=ps)
 have ir:=Rz wn.hw
 have hR:=MY (ps:=ps)
 have hn:=VU wn.hw pw
 have hb:=Na wn.hw
 have h0:(0:Int)≤0∧(0:Int)<n:=⟨by omega,by omega⟩
 have S0:∀z∈[(0:Int)],0≤z∧z<n:=fun z hz=>by rw[b8.mp hz];exact h0
 obtain⟨M,rM⟩:=GrR.Rv sy ir hR hn hb hd d1 h0 (GrR.Rx hb S0)
 obtain⟨m,hm,_⟩:=Nb wn.hw rM
 obtain⟨k,rfl,k3,kn,least,r,rr,rk⟩:=UQ wn.hw hm
 refine⟨k,hm,k3,kn,fun p fs p0 p1 al i hi=>?_,fun a b fs ad al i hi=>?_,?_⟩
 ·have:=GrR.JX sy ir least hR hn hb hd ⟨p0,p1⟩ (HA wn (fun z hz=>by rw[b8.mp hz];exact⟨p0,p1⟩) al) i hi
  rw[this,lF,lE]
  rfl
 ·have h1:=ad.inb wn.hw
  have h2:=ad.symm.inb wn.hw
  have:=GrR.Mi sy ir least hR hn hb hd ad (HA wn (fun z hz=>by
   simp only[dh,dI,or_false] at hz
   rcases hz with rfl|rfl
   ·exact⟨h2.1,h2.2.1⟩
   ·exact⟨h1.1,h1.2.1⟩) al) i hi
  rw[this,lF,lE]
  rfl
 ·unfold grown
  rw[show(d:Int)+1-1=d by omega]
  split
  ·rename_i hodd
   have:=GrR.Ru hb S0 (GrR.Rx hb S0) (k/2+1)
   rw[GrR.Ua sy ir least hR hn hb hd h0 (GrR.Rx hb S0) (k/2) (by omega)] at this
   have e:=FF (c:=d+1) (d:=d) (k/2)
   rw[Int.natCast_add] at e
   have e1:((1:Nat):Int)=1:=rfl
   rw[e1] at e
   rw[←e]
   omega
  ·have:∃a b,Gr.Adj ps a b:=by
    cases r with
    |nil=>cases rr.len
    |cons x r=>
     cases r with
     |nil=>have:=rr.len;simp at this
     |cons y r=>exact⟨x,y,rr.ch.1⟩
   obtain⟨a,b,ad⟩:=this
   have h1:=ad.inb wn.hw
   have h2:=ad.symm.inb wn.hw
   have Sab:∀z∈[a,b],0≤z∧z<n:=fun z hz=>by
    simp only[dh,dI,or_false] at hz
    rcases hz with rfl|rfl
    ·exact⟨h2.1,h2.2.1⟩
    ·exact⟨h1.1,h1.2.1⟩
   have:=GrR.Ru hb Sab (GrR.Rx hb Sab) (k/2)
   rw[GrR.Ub sy ir least hR hn hb hd ad (GrR.Rx hb Sab) (k/2) (by omega)] at this
   have e:=FF (c:=2) (d:=d) (k/2)
   have e1:((2:Nat):Int)=2:=rfl
   rw[e1] at e
   rw[←e]
   omega
theorem Ug{d m:Int}{k:Nat}(h3:3≤k)(h16:k≤16)(h:grown d k≤m):∃x:Int,Ki d m=some x∧(k:Int)≤x:=by
 unfold Ki
 have hb:Ou d m (k-3)=true:=decide_eq_true (by rw[show k-3+3=k by omega];exact h)
 cases e:FQ (Ou d m) 14 with
 |none=>
  have:=Ds e (k-3) (by omega)
  rw[hb] at this
  cases this
 |some x=>
  have:=(Dr e).2.2 (k-3) (by omega) hb
  exact⟨3+(x:Int),rfl,by omega⟩
theorem Xu{p q v:Int}(ad:Gr.Adj ps p q):(∃k,Gr.W ps [p,q] k v)↔∃k,Gr.W ps [p] k v:=by
 constructor
 ·rintro⟨k,h⟩
  induction h with
  |«at» h=>
   simp only[dh,dI,or_false] at h
   rcases h with rfl|rfl
   ·exact⟨0,.at (by simp)⟩
   ·exact⟨1,.go (.at (by simp)) ad⟩
  |go _ a ih=>
   obtain⟨k,w⟩:=ih
   exact⟨k+1,.go w a⟩
 ·rintro⟨k,h⟩
  induction h with
  |«at» h=>exact⟨0,.at (by rw[b8.mp h];simp)⟩
  |go _ a ih=>
   obtain⟨k,w⟩:=ih
   exact⟨k+1,.go w a⟩
def FG:List (List Int)→Nat
 | []=>0
 |L::Ls=>L.length+FG Ls
theorem IC{f:Nat→List Int}:∀k,FG ((dE k).map f)=GrR.Cv (fun i=> (f i).length) k
 |0=>rfl
 |k+1=>by
  have app:∀xs ys:List (List Int),FG (xs++ys)=FG xs+FG ys:=fun xs ys=>by
   induction xs with
   |nil=>show _=0+_;rw[List.nil_append];omega
   |cons x xs ih=>show x.length+FG (xs++ys)=x.length+FG xs+FG ys;rw[ih];omega
  rw[List.range_succ,e8,app,IC k]
  show _+((f k).length+0)=_
  rfl
theorem Nk(wn:WebN n ps)(hS:∀z∈S,0≤z∧z<n)(al:Gr.All n ps S fs){m:Int}(hm:Bp (An fs) m):∃l:List Int,l.Nodup∧(∀v,v∈l↔∃k,Gr.W ps S k v)∧l.length=FG (BE fs m):=by
 obtain⟨l,h1,h2,h3⟩:=GrR.Ni (Na wn.hw) hS (HA wn hS al) (m+1).toNat
 refine⟨l,h1,fun v=>?_,by rw[h3];exact(IC _).symm⟩
 rw[h2]
 constructor
 ·rintro⟨i,_,q⟩
  exact⟨i,GrR.RH.mpr q.1⟩
 ·rintro⟨k,w⟩
  obtain⟨d,_,q⟩:=w.least
  have b:=w.inb wn.hw hS
  have:=hm.2 (d:Int) (Ci.mpr ⟨v.toNat,d,(al.eq v b.1 b.2 d).mpr q,rfl⟩)
  exact⟨d,by omega,GrR.JQ.mp q⟩
theorem SB(wn:WebN n ps){p q:Int}(ad:Gr.Adj ps p q){gs:List (Option Nat)}{m m':Int}(a1:Gr.All n ps [p] fs)(a2:Gr.All n ps [p,q] gs)(h1:Bp (An fs) m)(h2:Bp (An gs) m'):FG (BE gs m')=FG (BE fs m):=by
 have b1:=ad.inb wn.hw
 have b2:=ad.symm.inb wn.hw
 obtain⟨l,n1,e1,s1⟩:=Nk wn (S:=[p]) (fun z hz=>by rw[b8.mp hz];exact⟨b2.1,b2.2.1⟩) a1 h1
 obtain⟨l',n2,e2,s2⟩:=Nk wn (S:=[p,q]) (fun z hz=>by
  simp only[dh,dI,or_false] at hz
  rcases hz with rfl|rfl
  ·exact⟨b2.1,b2.2.1⟩
  ·exact⟨b1.1,b1.2.1⟩) a2 h2
 rw[←s1,←s2]
 exact GrR.CJ n2 n1 fun v=>by rw[e1,e2];exact Xu ad
theorem Cq{n i:Int}(h0:0≤i)(h1:i<n):CF (.int i) 0 (n-1)=true:=Kh h0 (by omega)
theorem JZ{n:Int}{ps:List (Int×Int)}(hp:∀p∈ps,KP n p){i j:Int}:NR ps i j=true↔Gr.Adj ps i j:=by
 unfold NR mm
 rw[decide_eq_true_eq]
 constructor
 ·intro h
  rcases jG i j with hij|hij
  ·rw[show(min i j,max i j)=(i,j) from fK (by show min i j=i;omega) (by show max i j=j;omega)] at h
   exact .inl h
  ·rw[show(min i j,max i j)=(j,i) from fK (by show min i j=j;omega) (by show max i j=i;omega)] at h
   exact .inr h
 ·rintro(h|h)
  ·have:=(hp _ h).2.1
   rw[show(min i j,max i j)=(i,j) from fK (by show min i j=i;simp only at this;omega) (by show max i j=j;simp only at this;omega)]
   exact h
  ·have:=(hp _ h).2.1
   rw[show(min i j,max i j)=(j,i) from fK (by show min i j=j;simp only at this;omega) (by show max i j=i;simp only at this;omega)]
   exact h
theorem Fm{x:Option Int}:Cd (Cu x)=true:=by cases x<;>rw[Cu,Cd]
theorem HB{x:Option Int}:(dT (Cu x)).depth≤100:=by cases x<;> (show 0≤100;decide)
theorem Kr{x:Option Int}:gX (dT (Cu x)) (dT (Cu x))=true:=by
 cases x with
 |none=>rfl
 |some i=>show((i:Int)==i)=true;simp
section
variable{Z:Zx}{ρ:List (Option T)}{O:AH}{a b:Expr}{pos:Pos}{x:Option Int}
theorem SC{hu:Z.X.A.units+101<cLine}(ha:ET Z ρ O a (Cu x))(hb:ET Z ρ O b (Cu x)):EB Z ρ O (.Compare a [.NotEq] [b] pos) false:=
 EB.cast (BH (Iv hu) (Ah _) (Lw Fm Fm HB) ha hb) (by rw[Kr];rfl)
theorem Xv{hu:Z.X.A.units+101<cLine}(ha:ET Z ρ O a (Cu x))(hb:ET Z ρ O b (Cu x)):ET Z ρ O (.Compare a [.Eq] [b] pos) (.bl true):=
 ET.cast (Eo (Lv hu) (Ah _) (Lw Fm Fm HB) ha hb) (by rw[Kr])
end
variable{n:Int}{ps:List (Int×Int)}{O:AH}{Φ:BQ}{Ξ:Value→AH→Prop}{CP CL:Addr}
theorem Uh{i:Nat}(wn:WebN n ps)(h1:(i:Int)<n)(q:Φ (AY (HN (Jd n ps i))) O):Gv CP [Au n ps,.int (i:Int)] O Φ Ξ:=
 ⟨n,ps,_,rfl,rfl,wn,fun i' e _=>by
  have:i'=i:=by injection e with e;omega
  subst this
  rw[←Kq]
  exact q,fun h=>by rw[Cq (by omega) h1] at h;cases h⟩
theorem Nl{i j:Int}(wn:WebN n ps)(hp:∀p∈ps,KP n p)(ad:Gr.Adj ps i j)(q:Φ (AY (CH (Ao n ps) i j)) O):Gx CP CL [Au n ps,.int i,.int j] O Φ Ξ:=by
 have h1:=ad.symm.inb wn.hw
 have h2:=ad.inb wn.hw
 exact⟨n,ps,_,_,rfl,rfl,rfl,wn,fun i' j' e1 e2 _ _ _ _=>by
  cases e1
  cases e2
  exact⟨fun _=>q,fun h=>by rw[(JZ hp).mpr ad] at h;cases h⟩,fun h=>by rw[Cq h1.1 h1.2.1,Cq h2.1 h2.2.1] at h;rcases h with h|h<;>cases h⟩
theorem ID{i:Nat}(wn:WebN n ps)(h1:(i:Int)<n)(q:Φ (.tup ((AV ps i).map T.int)) O):JL CP [Au n ps,.int (i:Int)] O Φ Ξ:=
 ⟨n,ps,_,rfl,rfl,wn,fun i' e _=>by
  have:i'=i:=by injection e with e;omega
  subst this
  exact q,fun h=>by rw[Cq (by omega) h1] at h;cases h⟩
theorem aC{α:Type}{xs:List α}:((xs.map fun _=>true).all id)=true:=by
 rw[gx]
 intro x hx
 obtain⟨_,_,rfl⟩:=dy.mp hx
 rfl
section
variable{P:Program}{w:World}{K:b5}{mg:Str→Option Value}{base:Heap}
def aD:Bf:=Ij fun ts r=>∃(n:Int) (ps:List (Int×Int)),ts=[Au n ps]∧WebA n ps∧r=.bl true
def aE:List Str:=["_law_web","_law_ats"]
theorem aF:FnScope aE ["_law_web"] (AA VP):=⟨rfl,rfl,rfl,by decide+kernel,rfl,by decide+kernel,by decide+kernel⟩
theorem aG:(Ab ["_law_place"] [(("_law_web" :Str),0)]).Nodup:=by decide+kernel
theorem aH:(Ab ["_law_a","_law_b"] [(("_law_web" :Str),0)]).Nodup:=by decide+kernel
theorem aI:(Ab ["_law_place"] [(("_law_ats" :Str),1),(("_law_web" :Str),0)]).Nodup:=by decide+kernel
theorem aJ:(Ab ["_law_near"] [(("_law_place" :Str),0),(("_law_web" :Str),2)]).Nodup:=by decide+kernel
def bb:Scope:={kind:=.function,names:=[(".0",.local),("_law_place",.cell),("_law_least",.globalImplicit),("near_of",.globalImplicit),("_law_ats",.cell),("_law_web",.cell)],isGenerator:=false,isCoroutine:=false}
theorem aK{f:Addr}{fd:dD}(F:Fun K "_law_rings_right" "_law_rings_right" VP f fd)(Tx:Txt mg)(Ga:FnT P w K mg base "ring_at" 4 ["web","place"] (Gv CP))(Gb:FnT P w K mg base "ring_by" 5 ["web","a","b"] (Gx CP CL))(Gs:FnT P w K mg base "shortest" 3 ["web"] JV)(Gl:FnT P w K mg base "_law_least" 1 ["_law_some"] Zi)(Gn:FnT P w K mg base "near_of" 4 ["web","place"] (JL CP)):
  FnOk P w K mg base (CXe P w) 6 f fd ["_law_web"] (Bq K aD):=by
 refine AU F aF ?_ ?_
 ·rintro ts O Φ Ξ ⟨r,⟨n,ps,rfl,_⟩,_⟩
  rfl
 ·rintro cdv A outer s H E O Ξ hr xf _ Φ ⟨_,⟨n,ps,rfl,wa,rfl⟩,q⟩
  have sb:=AS
  have n1:=wa.n1
  have n0:=wa.n0
  have hpl:=wa.hl
  have wn:=wa.wn
  have hu:(A.deeper (je "_law_rings_right" (AA VP) s.heap.objs.size f cdv)).units+102<cLine:=by have:=hr.un;omega
  have hu1:=kI hu
  have hs:∀{ρ:List (Option T)},ρ[0]?=some (some (Au n ps))→∀{p1 p2 p3:Pos},ET (zB P w K mg base aE "_law_rings_right" (AA VP) f cdv A outer s H E O Ξ) ρ O (.Call (.Name "shortest" p1) [.Name "_law_web" p2] [] p3) (Cu (PB ps)):=fun h=>Aa Gs (hr.mono (by decide)) xf (AE (ev 0 h) AB) ⟨n,ps,rfl,wn,rfl⟩
  refine AD (AK 1 (ET.we (BU ["_law_place"] [("_law_web",0)] (dE n.toNat) (fun i=>T.int ((i:Nat):Int)) (fun i=>AY (HN (Jd n ps i))) rfl (BP (AA VP) aE (by decide+kernel)) (EI.cast (Ak Tx.nRange (Aw (ev 0) AC) ⟨by omega,by omega⟩) (by unfold FU;simp)) (by rw[eP];omega) fun x hx=> ⟨[some (.int (x:Int)),some (Au n ps)],fun X' Oe He is O'=>?_⟩) ?_) aF.nd)
  ·obtain⟨cl,s',H',fp,rfl⟩:=is
   have:=dU.mp hx
   exact⟨AM 0 aG (by decide),BV Ga (hr.mono (by decide)) BW (AE (ev 1) (AE (ev 0) AB)) fun Φ q=>Uh wn (by omega) q⟩
  refine AD (As (k:=false) (EW.eb (EW.cast (QR (x:=false) (y:=false) (SC (hu:=hu1) (hs rfl) (ET.cast (Aa Gl (hr.mono (by decide)) xf (AE (ET.cast (ev 1) (by rw[eK];rfl)) AB) ⟨(dE n.toNat).map fun i=>HN (Jd n ps i),rfl,by rw[c9,eP];omega,rfl⟩) (by rw[Xs wn]))) fun _=>Lk (SC (hu:=hu1) (hs rfl) (Aa Gl (hr.mono (by decide)) xf (AE (ET.cast (BU ["_law_a","_law_b"] [("_law_web",0)] ps AL (fun p=>AY (CI ps p)) rfl (BP (AA VP) aE (by decide+kernel)) (Ex (Aw (ev 0) AC)) (by omega) fun x hx=> ⟨[some (.int x.1),some (.int x.2),some (Au n ps)],fun X' Oe He is O'=>?_⟩) ?_) AB) ⟨ps.map fun p=>CI ps p,rfl,by rw[c9];omega,rfl⟩))) rfl)) (fun h=>by cases h) fun _=>Ap ?_)
  ·obtain⟨cl,s',H',fp,rfl⟩:=is
   have ad:Gr.Adj ps x.1 x.2:=.inl hx
   refine⟨Cc 0 1 rfl aH (by decide) (by decide),ET.cast (BV Gb (hr.mono (by decide)) BW (AE (ev 2) (AE (ev 0) (AE (ev 1) AB))) fun Φ q=>Nl wn wa.hp ad q) ?_⟩
   rw[EZ wn ad,show mm (x.1,x.2)=x from(NY wn.hw hx).1]
  ·rw[eK]
   rfl
  refine AF (AO (ET.we (ET.cast (XC Tx.nAll rfl (ET.cast (BU ["_law_place"] [("_law_ats",1),("_law_web",0)] (dE n.toNat) (fun i=>T.int ((i:Nat):Int)) (fun _=> .bl true) rfl (BP (AA VP) aE (by decide+kernel)) (EI.cast (Ak Tx.nRange (Aw (ev 0) AC) ⟨by omega,by omega⟩) (by unfold FU;simp)) (by rw[eP];omega) fun x hx=> ⟨[some (.int (x:Int)),some (.lst ((dE n.toNat).map fun i=>AY (HN (Jd n ps i)))),some (Au n ps)],fun X' Oe He is O'=>?_⟩) (show _=T.lst (((dE n.toNat).map fun _=>true).map T.bl) by rw[eK];rfl))) (by rw[aC])) q))
  obtain⟨cl,s',H',fp,rfl⟩:=is
  have hx:=dU.mp hx
  refine⟨AM 0 aI (by decide),Xv (x:=Bd (An (Jd n ps x))) (hu:=hu1) (ET.cast (Cb (t:=AY (HN (Jd n ps x))) (ev 1) (ev 0) (BJ ?_)) Kq) (Aa Gl (hr.mono (by decide)) BW (AE (ET.cast (BU ["_law_near"] [("_law_place",0),("_law_web",2)] (AV ps x) T.int (fun v=>AY (CH (Ao n ps) (x:Int) v)) rfl ?lk (Ex (BV Gn (hr.mono (by decide)) BW (AE (ev 2) (AE (ev 0) AB)) fun Φ q=>ID wn (by omega) q)) ?ln fun v hv=> ⟨[some (.int v),some (.int (x:Int)),some (Au n ps)],fun X' Oe He is O'=>?_⟩) ?_) AB) ⟨Jd n ps x,rfl,?_,rfl⟩)⟩
  case lk=>
   exact BP bb (Ab ["_law_place"] [("_law_ats",1),("_law_web",0)]) (by decide+kernel)
  case ln=>
   have:=BI (qs:=ps) (i:=x)
   omega
  ·rw[b9,fO hx]
   rfl
  ·obtain⟨cl,s',H',fp,rfl⟩:=is
   exact⟨AM 0 aJ (by decide),BV Gb (hr.mono (by decide)) BW (AE (ev 2) (AE (ev 1) (AE (ev 0) AB))) fun Φ q=>Nl wn wa.hp ((CG wn.hw).mp hv) q⟩
  ·unfold Jd
   rw[eK]
   rfl
  ·unfold Jd
   have:=BI (qs:=ps) (i:=x)
   rw[c9]
   omega
end
variable{n:Int}{ps:List (Int×Int)}{O:AH}{Φ:BQ}{Ξ:Value→AH→Prop}{CP CL:Addr}{fs:List (Option Nat)}{m:Int}
theorem SD:EK ((BE fs m).map Ad)=(dE (m+1).toNat).map fun k=> .tup [.int (k:Int),Ad (Af fs k)]:=by
 unfold EK BE
 rw[eK]
 apply fo
 intro k
 rw[b9,b9,jS,b9]
 by_cases hk:k< (m+1).toNat
 ·rw[fO hk]
  simp
 ·rw[e7 (show(dE (m+1).toNat).length≤k by rw[eP];omega)]
  rfl
def aL:Option Nat→List Int
 |none=> []
 |some d=> [(d:Int)]
theorem FH:∀{xs:List Nat} {q:Nat→Bool},(∀k∈xs,q k=false)→xs.filter q=[]
 | [],_,_=>rfl
 |x::xs,q,h=>by rw[fv,if_neg (by rw[h x (by simp)];decide),FH fun k hk=>h k (by simp[hk])]
theorem Ks:∀{N:Nat} {q:Nat→Bool} {d:Nat},d<N→(∀k,q k=decide (k=d))→(dE N).filter q=[d]
 |0,_,_,h,_=>by omega
 |N+1,q,d,h,e=>by
  rw[List.range_succ,List.filter_append]
  by_cases c:d=N
  ·subst c
   rw[FH (fun k hk=>by rw[e];have:=dU.mp hk;exact decide_eq_false (by omega)),fv,if_pos (by rw[e];simp)]
   rfl
  ·rw[Ks (by omega) e,fv,if_neg (by rw[e];simp;omega)]
   rfl
theorem Ui{j:Nat}{x:Option Nat}(hm:Bp (An fs) m)(hx:fs[j]?=some x):(((dE (m+1).toNat).filter fun k=>decide ((j:Int)∈Af fs k)).map fun(k:Nat)=>T.int (k:Int))=(aL x).map T.int:=by
 have e:∀k,((j:Int)∈Af fs k)↔x=some k:=fun k=>by
  rw[FE]
  constructor
  ·rintro⟨i,h,e⟩
   have:i=j:=by omega
   subst this
   rw[hx] at h
   exact dW.inj h
  ·rintro rfl
   exact⟨j,hx,rfl⟩
 cases x with
 |none=>
  rw[FH fun k _=>decide_eq_false fun h=>by have:=(e k).mp h;cases this]
  rfl
 |some d=>
  have hd:=hm.2 (d:Int) (Ci.mpr ⟨j,d,hx,rfl⟩)
  rw[Ks (d:=d) (by omega) fun k=>decide_eq_decide.mpr ((e k).trans ⟨fun h=> (dW.inj h).symm,fun h=>by rw[h]⟩)]
  rfl
theorem Kt{k:Nat}:(Af fs k).Pairwise (· < ·):=by
 unfold Af
 rw[gC]
 exact(jT _ jE).imp fun{a b} h=>by omega
theorem SE{i:Int}(wn:WebN n ps)(h:0≤i∧i<n)(al:Gr.All n ps [i] fs):Af fs 0=[i]:=
 NZ Kt (by simp) fun v=> (Gz wn (fun z hz=>by rw[b8.mp hz];exact h) al).trans Gj
theorem SF{i j:Int}(wn:WebN n ps)(ad:Gr.Adj ps i j)(al:Gr.All n ps [i,j] fs):Af fs 0=[min i j,max i j]:=by
 have h1:=ad.inb wn.hw
 have h2:=ad.symm.inb wn.hw
 refine NZ Kt (by simp;omega) fun v=> ((Gz wn (fun z hz=>by
  simp only[dh,dI,or_false] at hz
  rcases hz with rfl|rfl
  ·exact⟨h2.1,h2.2.1⟩
  ·exact⟨h1.1,h1.2.1⟩) al).trans Gj).trans ?_
 simp only[dh,dI,or_false]
 omega
theorem FR{ns:List Int}:∀k,mT (fun i=>ns.getD i 0) k=(ns.take k).sum
 |0=>rfl
 |k+1=>by
  show mT (fun i=>ns.getD i 0) k+ns.getD k 0=_
  rw[FR k,gh,List.sum_append]
  congr 1
  rw[eB]
  cases ns[k]? with
  |none=>rfl
  |some x=>simp
theorem SG{ns:List Int}:Rc ns=ns.sum:=by unfold Rc;rw[FR,fM]
theorem FI:∀{Ls:List (List Int)},Rc (Ls.map fun L=> (((L.map T.int).length:Nat):Int))=(FG Ls:Nat)
 | []=>rfl
 |L::Ls=>by
  have ih:=FI (Ls:=Ls)
  rw[SG] at ih ⊢
  show((L.map T.int).length:Int)+(Ls.map fun L=> (((L.map T.int).length:Nat):Int)).sum=((L.length+FG Ls:Nat):Int)
  rw[ih,c9]
  omega
theorem Uj{L:List Int}(al:Gr.All n ps S fs)(n1:n≤16)(h:L∈BE fs m):L.length≤16:=by
 unfold BE at h
 obtain⟨k,_,rfl⟩:=dy.mp h
 have:=iy (fun j=>decide (fs.getD j none=some k)) (dE fs.length)
 have hl:=al.len
 rw[eP] at this
 unfold Af
 rw[c9]
 omega
section
variable{Z:Zx}{ρ:List (Option T)}{O:AH}{e a b:Expr}{p pos:Pos}{i j:Int}
theorem SH(m:Z.X.mg "sorted" =none)(hij:i≠j)(h:ET Z ρ O e (.lst ([i,j].map T.int)))(hg:Gl Z.X "sorted":=by rfl)(he:df [e] Z.X.env=(false,eval e Z.X.env)::df [] Z.X.env:=by rfl):ET Z ρ O (.Call (.Name "sorted" p) [e] [] pos) (.lst ([min i j,max i j].map T.int)):=fun Φ q=>
 Ma m h (by show 2<64;decide) (fun ms pm pw=>by
  have nd:ms.Nodup:=pm.nodup_iff.mpr (by simp[hij])
  have e:ms=[min i j,max i j]:=NZ (by
   rw[iw] at nd
   exact(pw.and nd).imp fun{a b} h=>by omega) (by simp;omega) fun v=>by
   rw[pm.mem_iff]
   simp only[dh,dI,or_false]
   omega
  rw[e]
  exact q) hg he
theorem Uk{ns:List Int}(hu:Z.X.A.units+101<cLine)(ha:ET Z ρ O a (.lst (ns.map T.int)))(hb:ET Z ρ O b (.lst (ns.map T.int))):EB Z ρ O (.Compare a [.NotEq] [b] pos) false:=
 EB.cast (BH (Iv hu) (Ah _) (Lw (by rw[Cd];exact Cf) (by rw[Cd];exact Cf) (by show i7 _+1≤100;have:=Cg (ns:=ns);omega)) ha hb) (by
  show(!jO (dTs (ns.map T.int)) (dTs (ns.map T.int)))=false
  rw[DN,decide_eq_true rfl]
  rfl)
theorem Ul{ns:List Int}(hu:Z.X.A.units+101<cLine)(ha:ET Z ρ O a (Ad ns))(hb:ET Z ρ O b (Ad ns)):EB Z ρ O (.Compare a [.NotEq] [b] pos) false:=
 EB.cast (BH (Iv hu) (Ah _) (Lw EO EO FO) ha hb) (by
  show(!jO (dTs (ns.map T.int)) (dTs (ns.map T.int)))=false
  rw[DN,decide_eq_true rfl]
  rfl)
theorem Um{ns:List Int}(hu:Z.X.A.units+101<cLine)(ha:ET Z ρ O a (Ad ns))(hb:ET Z ρ O b (Ad ns)):ET Z ρ O (.Compare a [.Eq] [b] pos) (.bl true):=
 ET.cast (Eo (Lv hu) (Ah _) (Lw EO EO FO) ha hb) (by
  show T.bl (jO (dTs (ns.map T.int)) (dTs (ns.map T.int)))=_
  rw[DN,decide_eq_true rfl])
end
theorem Fn:(BE fs m).length=(m+1).toNat:=by unfold BE;rw[c9,eP]
theorem SI{S:List Int}(al:Gr.All n ps S fs)(n1:n≤16):∀x∈(BE fs m).map fun L=> (((L.map T.int).length:Nat):Int),0≤x∧x≤1000000:=fun x hx=>by
 obtain⟨L,hL,rfl⟩:=dy.mp hx
 have:=Uj al n1 hL
 rw[c9]
 omega
theorem Ku{ns:List Int}(h:0≤m)(e:Af fs 0=ns):atI ((BE fs m).map Ad) 0=some (Ad ns):=BJ (j:=0) (by
 unfold BE
 rw[eK,b9,fO (by omega)]
 subst e
 rfl)
theorem SJ{i j:Nat}{x:Option Nat}(wn:WebN n ps)(h1:(i:Int)<n)(h2:(j:Int)<n)(al:Gr.All n ps [(i:Int)] fs)(hx:fs[j]?=some x)(q:Φ (AY x) O):JM CP [Au n ps,.int (i:Int),.int (j:Int)] O Φ Ξ:=
 ⟨n,ps,_,_,rfl,rfl,rfl,wn,fun i' j' e1 e2 _ _ gs ag y hy=>by
  have:i'=i:=by injection e1 with e;omega
  subst this
  have:j'=j:=by injection e2 with e;omega
  subst this
  rw[ag.uniq al,hx] at hy
  cases hy
  exact q,fun h=>by rw[Cq (by omega) h1,Cq (by omega) h2] at h;rcases h with h|h<;>cases h⟩
theorem aM{ts:List T}{k:Nat}:HJ ts none (some (k:Int))=ts.take k:=by
 unfold HJ
 rw[HT.Jj,HT.Mp,lS,Nat.sub_zero]
 rcases Nat.le_total k ts.length with h|h
 ·rw[Nat.min_eq_left h]
 ·rw[Nat.min_eq_right h,fM,jC h]
section
variable{P:Program}{w:World}{K:b5}{mg:Str→Option Value}{base:Heap}
def VZ:Bf:=Ij fun ts r=>∃(n:Int) (ps:List (Int×Int)) (i:Nat),ts=[Au n ps,.int (i:Int)]∧WebA n ps∧(i:Int)<n∧r=.bl true
def Uo:List Str:=["_law_web","_law_place","_law_found","_law_other","_law_far","_law_near","_law_some","_law_places"]
theorem HC:FnScope Uo ["_law_web","_law_place"] (AA MD):=⟨rfl,rfl,rfl,by decide+kernel,rfl,by decide+kernel,by decide+kernel⟩
theorem aN:(Ab ["_law_at","_law_layer"] [(("_law_other" :Str),3)]).Nodup:=by decide+kernel
theorem Va:(Ab ["_law_layer"] []).Nodup:=by decide+kernel
theorem Xw{f:Addr}{fd:dD}(F:Fun K "_law_layers_right" "_law_layers_right" MD f fd)(Tx:Txt mg)(Go:FnT P w K mg base "layers_of" 4 ["web","place"] (JP CP))(Gt:FnT P w K mg base "layers_by_tie" 5 ["web","a","b"] (Gk CP CL))(Gf:FnT P w K mg base "far_of" 4 ["web","one","other"] (JM CP))(Gn:FnT P w K mg base "near_of" 4 ["web","place"] (JL CP)):
  FnOk P w K mg base (CXe P w) 6 f fd ["_law_web","_law_place"] (Bq K VZ):=by
 refine AU F HC ?_ ?_
 ·rintro ts O Φ Ξ ⟨r,⟨n,ps,i,rfl,_⟩,_⟩
  rfl
 ·rintro cdv A outer s H E O Ξ hr xf _ Φ ⟨_,⟨n,ps,i,rfl,wa,hi,rfl⟩,q⟩
  have sb:=AS
  have n1:=wa.n1
  have n0:=wa.n0
  have hpl:=wa.hl
  have wn:=wa.wn
  have hu:(A.deeper (je "_law_layers_right" (AA MD) s.heap.objs.size f cdv)).units+102<cLine:=by have:=hr.un;omega
  have hu1:=kI hu
  refine AD (AK 2 (ER (AJ Go (hr.mono (by decide)) xf (EA.wa (AE (ev 0) (AE (ev 1) AB)) ⟨n,ps,_,rfl,rfl,wn,fun i' e i0 i1 fs m al hm a ha=> ⟨a,_,rfl,ha,rfl,?_⟩,fun h=>by rw[Cq (by omega) hi] at h;cases h⟩))) HC.nd)
  cases e
  have hfl:=al.len
  have hm0:=MK wn al (fun z hz=>by rw[b8.mp hz];exact⟨i0,i1⟩) hm.1
  refine AD (Bc Aq.own rfl (EI.wi (Ak Tx.nRange (Aw (ev 0) AC) ⟨by omega,by omega⟩) ⟨fun j ρ' O'=>∃v3 v4,ρ'=[some (Au n ps),some (.int (i:Int)),some (.lst ((BE fs m).map Ad)),v3,v4,none,none,none]∧O=O',⟨none,none,rfl,rfl⟩,?_,?_⟩))
  ·rintro j t _ _ e ⟨v3,v4,rfl,rfl⟩
   obtain⟨hj,rfl⟩:=DF e
   rw[Int.zero_add]
   have hjl:j<fs.length:=by omega
   refine⟨[some (Au n ps),some (.int (i:Int)),some (.lst ((BE fs m).map Ad)),some (.int (j:Int)),v4,none,none,none],AM 3 HC.nd (by show 3<8;decide),?_⟩
   have hx:fs[j]?=some fs[j]:=di hjl
   generalize fs[j]=x at hx
   refine AD (AK 4 (ET.we (t:=AY x) (BV Gf (hr.mono (by decide)) xf (AE (ev 0) (AE (ev 1) (AE (ev 3) AB))) fun Φ q=>SJ wn hi (by omega) al hx q) ?_) HC.nd)
   refine AF (As (k:=false) (Uk (ns:=aL x) hu1 (ET.cast (DI ["_law_at","_law_layer"] [("_law_other",3)] (dE (m+1).toNat) (fun k=> .tup [.int (k:Int),Ad (Af fs k)]) (fun k=> .int (k:Int)) (fun k=>decide ((j:Int)∈Af fs k)) rfl (BP (AA MD) Uo (by decide+kernel)) (EI.cast (NO Tx.nEnum (ev 2)) SD) (by rw[eP];omega) fun k hk=> ⟨[some (.int (k:Int)),some (Ad (Af fs k)),some (.int (j:Int))],fun X' Oe He is O'=>?_⟩) (by rw[Ui hm hx])) (ET.cast (GT (x:=FM (AY x)) (ta:=.lst []) (tb:=.lst [AY x]) (Ey DM (ev 4)) (fun _=>Bb AB (by show 0≤sizeLine;decide)) (fun _=>Bb (AE (ev 4) AB) (by show 1≤sizeLine;decide))) (by cases x<;>rfl))) (fun h=>by cases h) fun _=>Ap ⟨_,_,rfl,rfl⟩)
   obtain⟨cl,s',H',fp,rfl⟩:=is
   exact⟨Cc 0 1 rfl aN (by decide) (by decide),EB.cast (BH (VN hu) rfl (Qc (t:=.int (j:Int)) (us:=(Af fs k).map T.int) (by rw[Cd]) Cf (by show 0≤100;decide)) (ev 2) (ev 1)) (by rw[Hu];rfl),fun _=>ev 0⟩
  ·rintro _ _ ⟨v3,v4,rfl,rfl⟩
   refine AD (Bc Aq.own rfl (EI.wi (Ex (ET.cast (QY (BV Gn (hr.mono (by decide)) xf (AE (ev 0) (AE (ev 1) AB)) fun Φ q=>ID wn hi q) AC) (show _=T.tup (((AV ps i).take 2).map T.int) by rw[show(some (2:Int))=some ((2:Nat):Int) from rfl,aM,me]))) ⟨fun j ρ' O'=>∃v5 v6 v7,ρ'=[some (Au n ps),some (.int (i:Int)),some (.lst ((BE fs m).map Ad)),v3,v4,v5,v6,v7]∧O=O',⟨none,none,none,rfl,rfl⟩,?_,?_⟩))
   ·rintro j t _ _ e ⟨v5,v6,v7,rfl,rfl⟩
    rw[b9] at e
    cases ec:((AV ps i).take 2)[j]? with
    |none=>rw[ec] at e;cases e
    |some v=>
     rw[ec] at e
     cases e
     have ad:Gr.Adj ps (i:Int) v:=(CG wn.hw).mp (jg (dj ec))
     have b1:=ad.inb wn.hw
     refine⟨[some (Au n ps),some (.int (i:Int)),some (.lst ((BE fs m).map Ad)),v3,v4,some (.int v),v6,v7],AM 5 HC.nd (by show 5<8;decide),?_⟩
     refine AD (AK 6 (ER (AJ Gt hr xf (EA.wa (AE (ev 0) (AE (ev 1) (AE (ev 5) AB))) ⟨n,ps,_,_,rfl,rfl,rfl,wn,fun i' j' e1 e2 _ _ _ _=> ⟨fun h gs m' ag hg a ha=> ⟨a,_,rfl,ha,rfl,?_⟩,?_⟩,fun h=>by rw[Cq i0 i1,Cq b1.1 b1.2.1] at h;rcases h with h|h<;>cases h⟩))) HC.nd)
     ·cases e1
      cases e2
      have hgl:=ag.len
      have hm1:=MK wn ag (fun z hz=>by
       simp only[dh,dI,or_false] at hz
       rcases hz with rfl|rfl
       ·exact⟨i0,i1⟩
       ·exact⟨b1.1,b1.2.1⟩) hg.1
      refine AD (AK 7 (ET.we (Re (ns:=(BE fs m).map fun L=> (((L.map T.int).length:Nat):Int)) (SI al n1) (by rw[c9,Fn];omega) Tx.nSum rfl (ET.cast (BU ["_law_layer"] [] (BE fs m) Ad (fun L=> .int (((L.map T.int).length:Nat):Int)) rfl (BP (AA MD) Uo (by decide+kernel)) (Ag (ev 2)) (by rw[Fn];omega) fun L hL=> ⟨[some (Ad L)],fun X' Oe He is O'=>?_⟩) (by rw[eK];rfl))) ?_) HC.nd)
      ·obtain⟨cl,s',H',fp,rfl⟩:=is
       exact⟨AM 0 Va (by decide),Io Tx.nLen (ev 0)⟩
      rw[FI]
      refine AF (As (k:=false) (EW.eb (EW.cast (QR (x:=false) (y:=false) (Ul (ns:=[min (i:Int) v,max (i:Int) v]) hu1 (Cb (ev 6) AC (Ku (by omega) (SF wn ad ag))) (GX Tx.nTuple (SH Tx.nSorted b1.2.2 (Bb (AE (ev 1) (AE (ev 5) AB)) (by show 2≤sizeLine;decide))))) fun _=>Lk (EB.cast (Ii (Re (ns:=(BE gs m').map fun L=> (((L.map T.int).length:Nat):Int)) (SI ag n1) (by rw[c9,Fn];omega) Tx.nSum rfl (ET.cast (BU ["_law_layer"] [] (BE gs m') Ad (fun L=> .int (((L.map T.int).length:Nat):Int)) rfl (BP (AA MD) Uo (by decide+kernel)) (Ag (ev 6)) (by rw[Fn];omega) fun L hL=> ⟨[some (Ad L)],fun X' Oe He is O'=>?_⟩) (by rw[eK];rfl))) (ev 7)) (by rw[FI,SB wn ad al ag hm hg,decide_eq_true rfl];rfl))) rfl)) (fun h=>by cases h) fun _=>Ap ⟨_,_,_,rfl,rfl⟩)
      obtain⟨cl,s',H',fp,rfl⟩:=is
      exact⟨AM 0 Va (by decide),Io Tx.nLen (ev 0)⟩
     ·cases e1
      cases e2
      intro h
      rw[(JZ wa.hp).mpr ad] at h
      cases h
   ·rintro _ _ ⟨v5,v6,v7,rfl,rfl⟩
    refine AF (AO (ET.we (Um (ns:=[(i:Int)]) hu1 (Cb (ev 2) AC (Ku (by omega) (SE wn ⟨i0,i1⟩ al))) (Ih (AE (ev 1) AB) (by show 1≤sizeLine;decide))) q))
end
variable{n:Int}{ps:List (Int×Int)}{O:AH}{Φ:BQ}{Ξ:Value→AH→Prop}{CE CP CL CN:Addr}{S:List Int}
theorem Xx(wn:WebN n ps):∃fs,Gr.All n ps S fs:=by
 have hn:=wn.n0
 refine⟨(dE n.toNat).map fun(j:Nat)=>GrR.Hw (Gr.Adj ps) S (j:Int),by rw[c9,eP];omega,fun v v0 v1 d=>?_⟩
 rw[b9,fO (by omega),GrR.JQ,←GrR.ES]
 show some (GrR.Hw (Gr.Adj ps) S ((v.toNat:Nat):Int))=some (some d)↔_
 rw[gD v0]
 exact⟨dW.inj,congrArg some⟩
theorem Ox{ns:List Int}{a b:Int}(h1:Bp ns a)(h2:Bp ns b):a=b:=by
 have:=h1.2 b h2.1
 have:=h2.2 a h1.1
 omega
theorem Nm(wn:WebN n ps)(hS:∀z∈S,0≤z∧z<n)(h0:S≠[]){s t:Int}{c:Nat}(hs:1≤s)(ht:1≤t)(h:∀fs,Gr.All n ps S fs→∀i,i<c→((Af fs (i+1)).length:Int)=s*t^i):∃N:Nat,c≤N∧∀(O:AH) (Φ:BQ),Φ (.int (N:Int)) O→Rq n ps S s t O Φ:=by
 obtain⟨fs,al⟩:=Xx (S:=S) wn
 obtain⟨m,hm⟩:=Fj (RD al hS h0)
 refine⟨_,Ud hm (h fs al) hs ht,fun O Φ q fs' m' al' hm'=>?_⟩
 have:=al'.uniq al
 subst this
 rw[Ox hm' hm]
 exact q
theorem Xy(wn:WebN n ps)(pw:ps.Pairwise Oz){u:Int}(u0:0≤u)(u1:u<n):((Be ps u).length:Int)≤n-1:=by
 have:=Gr.Iw (n:=n) (L:=u::Be ps u) (dO.mpr ⟨fun h=>Rz wn.hw u ((MY u u).mp h),VU wn.hw pw u⟩) fun z hz=>by
  rcases dh.mp hz with rfl|hz
  ·exact⟨u0,u1⟩
  ·exact Na wn.hw u z ((MY u z).mp hz)
 rw[dA] at this
 omega
section
variable{Z:Zx}{ρ:List (Option T)}{O:AH}{a b:Expr}{t:T}{p1 pos:Pos}{i j:Int}
theorem Up{k:Nat}(hr:Ae t=false)(ha:ET Z ρ O a t):ET Z ρ O (.Compare a [.IsNot] [.Constant .none k p1] pos) (.bl (!FM t)):=Eo Mn (Ah _) (fun Φ p H v w Q ok r1 r2 q=>by
 refine⟨r2.non_inv,?_⟩
 have e:decide (v=V.non)=FM t:=by
  cases r1<;>first|rfl|cases hr
 rw[e]
 exact q _ H _ O p (.refl ok) (.bl _)) ha Dl
theorem QL(ha:ET Z ρ O a (.int i))(hb:ET Z ρ O b (.int j)):ET Z ρ O (.Compare a [.GtE] [b] pos) (.bl (decide (j≤i))):=Eo PP (Ah _) FL ha hb
end
section
variable{P:Program}{w:World}{K:b5}{mg:Str→Option Value}{base:Heap}
def aO:Bf:=Ij fun ts r=>∃(n:Int) (ps:List (Int×Int)) (d:Int),ts=[Au n ps,.int d]∧WebA n ps∧ps.Pairwise Oz∧Kv (Am n ps)=.int d∧2≤d∧r=.bl true
def cw:List Str:=["_law_web","_law_d","_law_size","_law_place","_law_one","_law_other","_law_found"]
theorem SK:FnScope cw ["_law_web","_law_d"] (AA bX):=⟨rfl,rfl,rfl,by decide+kernel,rfl,by decide+kernel,by decide+kernel⟩
theorem aP{f:Addr}{fd:dD}(F:Fun K "_law_full_right" "_law_full_right" bX f fd)(Tx:Txt mg)(Gs:FnT P w K mg base "shortest" 3 ["web"] JV)(Ga:FnT P w K mg base "full_at" 5 ["web","place"] (Kj CE CP))(Gb:FnT P w K mg base "full_by" 6 ["web","a","b"] (Km CE CP CL))(Gl:FnT P w K mg base "longest_fit" 6 ["d","many"] (Rj CN)):
  FnOk P w K mg base (CXe P w) 7 f fd ["_law_web","_law_d"] (Bq K aO):=by
 refine AU F SK ?_ ?_
 ·rintro ts O Φ Ξ ⟨r,⟨n,ps,d,rfl,_⟩,_⟩
  rfl
 ·rintro cdv A outer s H E O Ξ hr xf _ Φ ⟨_,⟨n,ps,d,rfl,wa,pw,hd,d2,rfl⟩,q⟩
  have sb:=AS
  have n1:=wa.n1
  have n0:=wa.n0
  have hpl:=wa.hl
  have wn:=wa.wn
  have hev:=Ue wn hd
  obtain⟨D,rfl⟩:∃D:Nat,d=(D:Int)+1:=⟨(d-1).toNat,by omega⟩
  have d15:(D:Int)+1≤15:=by
   have:=Xy wn pw (u:=0) (by omega) (by omega)
   rw[hev 0 (by omega) (by omega)] at this
   omega
  obtain⟨k,g⟩:=SA wn n0 pw (d:=D) (fun u u0 u1=>by have:=hev u u0 u1;omega) (by omega)
  have k3:=g.k3
  have kn:=g.kn
  refine AD (AK 2 (ET.we (t:=.int (k:Int)) (ET.cast (Aa Gs (hr.mono (by decide)) xf (AE (ev 0) AB) ⟨n,ps,rfl,wn,rfl⟩) (by rw[g.sh];rfl)) ?_) SK.nd)
  refine AD (Bc Aq.own rfl (EI.wi (Ak Tx.nRange (Aw (ev 0) AC) ⟨by omega,by omega⟩) ⟨fun j ρ' O'=>∃v3,ρ'=[some (Au n ps),some (.int ((D:Int)+1)),some (.int (k:Int)),v3,none,none,none]∧O=O',⟨none,rfl,rfl⟩,?_,?_⟩))
  ·rintro j t _ _ e ⟨v3,rfl,rfl⟩
   obtain⟨hj,rfl⟩:=DF e
   rw[Int.zero_add]
   refine⟨[some (Au n ps),some (.int ((D:Int)+1)),some (.int (k:Int)),some (.int (j:Int)),none,none,none],AM 3 SK.nd (by show 3<7;decide),?_⟩
   obtain⟨N,hN,fN⟩:=Nm (S:=[(j:Int)]) (s:=(D:Int)+1) (t:=(D:Int)+1-1) (c:=(k-1)/2) wn (fun z hz=>by rw[b8.mp hz];omega) (by simp) (by omega) (by omega) fun fs al i hi=>by
    rw[show(D:Int)+1-1=D by omega]
    exact g.at_ _ fs (by omega) (by omega) al i (by omega)
   refine AF (As (k:=false) (EB.cast (QN (i:=(N:Int)) (BV Ga (hr.mono (by decide)) xf (AE (ev 0) (AE (ev 3) AB)) fun Φ q=> ⟨n,ps,_,rfl,rfl,wn,n0,(fun h=>by rw[hd] at h;cases h),fun d' hd'=> ⟨fun i e _ _=>?_,fun h=>by rw[Cq (by omega) (by omega)] at h;cases h⟩⟩) (Ca (BS (ev 2) AC) AC ⟨by decide,by decide⟩)) (decide_eq_false ?_)) (fun h=>by cases h) fun _=>Ap ⟨_,rfl,rfl⟩)
   ·cases e
    rw[hd] at hd'
    cases hd'
    exact fN _ _ q
   ·omega
  ·rintro _ _ ⟨v3,rfl,rfl⟩
   refine AD (Bc Aq.own rfl (EI.wi (Ex (Aw (ev 0) AC)) ⟨fun j ρ' O'=>∃v4 v5,ρ'=[some (Au n ps),some (.int ((D:Int)+1)),some (.int (k:Int)),v3,v4,v5,none]∧O=O',⟨none,none,rfl,rfl⟩,?_,?_⟩))
   ·rintro j t _ _ e ⟨v4,v5,rfl,rfl⟩
    rw[b9] at e
    cases ec:ps[j]? with
    |none=>rw[ec] at e;cases e
    |some p=>
     rw[ec] at e
     cases e
     have ad:Gr.Adj ps p.1 p.2:=.inl (dj ec)
     have b1:=ad.inb wn.hw
     have b2:=ad.symm.inb wn.hw
     refine⟨[some (Au n ps),some (.int ((D:Int)+1)),some (.int (k:Int)),v3,some (.int p.1),some (.int p.2),none],Cc 4 5 rfl SK.nd (by show 4<7;decide) (by show 5<7;decide),?_⟩
     obtain⟨N,hN,fN⟩:=Nm (S:=[p.1,p.2]) (s:=2*((D:Int)+1-1)) (t:=(D:Int)+1-1) (c:=k/2-1) wn (fun z hz=>by
      simp only[dh,dI,or_false] at hz
      rcases hz with rfl|rfl
      ·exact⟨b2.1,b2.2.1⟩
      ·exact⟨b1.1,b1.2.1⟩) (by simp) (by omega) (by omega) fun fs al i hi=>by
      rw[show(D:Int)+1-1=D by omega,g.by_ _ _ fs ad al (i+1) (by omega),ly,mf,Int.mul_comm (D:Int)]
     refine AF (As (k:=false) (EB.cast (QN (i:=(N:Int)) (BV Gb hr xf (AE (ev 0) (AE (ev 4) (AE (ev 5) AB))) fun Φ q=> ⟨n,ps,_,_,rfl,rfl,rfl,wn,n0,(fun h=>by rw[hd] at h;cases h),fun d' hd'=> ⟨fun i j e1 e2 _ _ _ _=> ⟨fun _=>?_,?_⟩,fun h=>by rw[Cq b1.1 b1.2.1,Cq b2.1 b2.2.1] at h;rcases h with h|h<;>cases h⟩⟩) (BS (Ca (ev 2) AC ⟨by decide,by decide⟩) AC)) (decide_eq_false ?_)) (fun h=>by cases h) fun _=>Ap ⟨_,_,rfl,rfl⟩)
     ·cases e1
      cases e2
      rw[hd] at hd'
      cases hd'
      exact fN _ _ q
     ·cases e1
      cases e2
      intro h
      rw[(JZ wa.hp).mpr ad] at h
      cases h
     ·omega
   ·rintro _ _ ⟨v4,v5,rfl,rfl⟩
    obtain⟨x,ex,kx⟩:=Ug k3 (by omega) g.gr
    refine AD (AK 6 (ET.we (t:=.int x) (BV Gl hr xf (AE (ev 1) (AE (Aw (ev 0) AC) AB)) fun Φ q=> ⟨_,_,rfl,rfl,rfl,fun d' m' e1 e2 _ _ _ _=>by cases e1;cases e2;rw[ex];exact q,fun h=>by rw[Kh (by omega) d15,Kh n0 n1] at h;rcases h with h|h<;>cases h⟩) ?_) SK.nd)
    exact AF (AO (ET.we (ET.cast (Wq (x:=true) (y:=decide ((k:Int)≤x)) (Up (t:=.int x) rfl (ev 6)) fun _=>Wp (QL (ev 6) (ev 2))) (by rw[decide_eq_true kx];rfl)) q))
end
def bf(i:Nat):Stmt:=(BA Ob).getD i (.Pass ⟨0,0,0,0⟩)
def bh:Stmt→Expr
 | .For _ e _ _ _=>e
 |_=> .Constant .none 0 ⟨0,0,0,0⟩
def aQ:Stmt→List Stmt
 | .For _ _ b _ _=>b
 |_=> []
def Xz:List Str:=["_law_script","_law_cell","_law_pen","_law_web","_law_d"]
theorem IE:FnScope Xz ["_law_script"] (AA Ob):=⟨rfl,rfl,rfl,by decide+kernel,rfl,by decide+kernel,by decide+kernel⟩
section
variable{P:Program}{w:World}{K:b5}{mg:Str→Option Value}{base:Heap}{f:Addr}{cdv:Value}{A:dH}{outer:List Env}{s:b6}{H:Hp}{E:XK}
abbrev zL(P:Program)(w:World)(K:b5)(mg:Str→Option Value)(base:Heap)(f:Addr)(cdv:Value)(A:dH)(outer:List Env)(s:b6)(H:Hp)(E:XK):Zx:=zB P w K mg base Xz "law" (AA Ob) f cdv A outer s H E VL (fun _ _=>False)
structure Has(P:Program)(w:World)(K:b5)(mg:Str→Option Value)(base:Heap):Prop where
 gd:FnT P w K mg base "_law_draw" 2 ["_law_pen","_law_many"] DL
 gp:FnT P w K mg base "_law_pen_of" 1 ["_law_cell"] VQ
 gs:FnT P w K mg base "_law_some_web" 3 ["_law_pen","_law_most"] RY
 ge:FnT P w K mg base "even_by" 2 ["web"] MI
 gr:FnT P w K mg base "_law_rings_right" 6 ["_law_web"] aD
 gl:FnT P w K mg base "_law_layers_right" 6 ["_law_web","_law_place"] VZ
 gf:FnT P w K mg base "_law_full_right" 7 ["_law_web","_law_d"] aO
def Nn(K:b5):Sp:=fun vs H Q _=>∃(a:Addr) (ns:List Int),vs=[.ref a]∧Cr K H a (ns.map V.int)∧ns.length≤63∧∀H',Q (.bl true) H'
def bj:BQ:=fun t _=>t=.bl true
theorem SL{ρ:List (Option T)}{a:Addr}{ns:List Int}{Φ:BQ}{fC:Addr}{fdC:dD}(hr:Room 7 (zL P w K mg base f cdv A outer s H E).X.A)(xf:XFly (zL P w K mg base f cdv A outer s H E).X (zL P w K mg base f cdv A outer s H E).W)(hS:Cr K H a (ns.map V.int))(hn:ns.length≤63)(hρ:ρ[0]?=some (some (.raw (.ref a))))
  (FC:FnOk P w K mg base (CXe P w) 1 fC fdC ["_law_script","_law_k"] (Gi K)) (mC:mg "_law_cell_at" =some (.ref fC)) (kC:iu K (.ref fC)=true) (bC:Binds K fdC ["_law_script","_law_k"] [])
  (k:∀ms:List Int,ms.length≤64→Φ (.lst (ms.map T.int)) VL):HWE (zL P w K mg base f cdv A outer s H E) ρ VL (bh (bf 0)) Φ:=by
 have sb:=AS
 refine⟨?_⟩
 refine EF LH ?_
 refine QK (Ir (QZ FC mC kC bC (hr.mono (by decide)) xf (AE (ev 0 hρ) (AE AC AB)) ?_))
 intro σ H1 vs Q as r acc
 obtain⟨v,u,rfl,r1,r2⟩:=r.two_inv
 cases r1.raw_inv
 cases r2.int_inv
 refine⟨a,ns,rfl,VM as.fr.kp hS,fun c=>acc _ _ _ _ ?_ (.refl as.ok) (.int c)⟩
 refine Ba ⟨by show 1≤sizeLine;decide,?_⟩
 refine XG rfl hS (ev 0 hρ) AC AC fun ms hm=>?_
 exact Ip (ts:=[T.int c]) (us:=ms.map T.int) (by simp;omega) _ (k (c::ms) (by simp;omega))
theorem Uq{n:Int}{ps:List (Int×Int)}(wa:WebA n ps)(k:Nat):WebA n (ps.take k):=⟨wa.n0,wa.n1,fun p hp=>wa.hp p (jg hp),by have:=wa.hl;rw[eH];omega⟩
theorem SM{O:AH}{v0 v2 v3 v4:Option T}{c:Int}{Φ:BQ}{N Bk Ct:Ln}(B:Has P w K mg base)(hr:Room 7 (zL P w K mg base f cdv A outer s H E).X.A)(xf:XFly (zL P w K mg base f cdv A outer s H E).X (zL P w K mg base f cdv A outer s H E).W)
  (k:∀v2 v3 v4 O',N [v0,some (.int c),v2,v3,v4] O'):HS (zL P w K mg base f cdv A outer s H E) [v0,some (.int c),v2,v3,v4] O (aQ (bf 0)) {nx:=N,rt:=Φ,bk:=Bk,ct:=Ct}:=by
 refine DV (AK 2 (AJ B.gp (hr.mono (by decide)) xf (EA.wa (AE (ev 1) AB) ⟨c,rfl,fun p xs hp px=>?_⟩)) IE.nd)
 refine DV (AK 3 (AJ B.gs (hr.mono (by decide)) xf (EA.wa (AE (ev 2) (AE AC AB)) ⟨p,xs,rfl,AG,px,fun n qs O1 n0 n1 hP pwq hl po=>?_⟩)) IE.nd)
 have wq:WebA n qs:=⟨by omega,n1,hP,hl⟩
 refine DV (AK 3 (ET.we (t:=Au n (qs.take 45)) (Ih (AE (Aw (ev 3) AC) (AE (ET.cast (QY (Aw (ev 3) AC) AC) (by rw[me,←aM (k:=45)];rfl)) AB)) (by show 2≤sizeLine;decide)) ?_) IE.nd)
 have wa:=Uq wq 45
 have pw:(qs.take 45).Pairwise Oz:=pwq.sublist (kK ..)
 generalize qs.take 45=ps at wa pw
 have wn:=wa.wn
 have rr:EB (zL P w K mg base f cdv A outer s H E) [v0,some (.int c),some (.raw (.ref p)),some (Au n ps),v4] O1 (match (aQ (bf 0)).getD 3 (.Pass ⟨0,0,0,0⟩) with| .If (.BoolOp _ (c::_) _) _ _ _=>c|_=> .Constant .none 0 ⟨0,0,0,0⟩) false:=EB.cast (Ep (k:=true) (Hm (Aa B.gr (hr.mono (by decide)) xf (AE (ev 3) AB) ⟨n,ps,rfl,wa,rfl⟩))) rfl
 refine DV (QS (WW.wt (VE (rr _ ?_))))
 rw[if_neg dc]
 refine QQ (QP (KG (AJ B.gl (hr.mono (by decide)) xf (Ir (ET.we (ev 3) (Ir (Bh B.gd (hr.mono (by decide)) xf po (ev 2) (Aw (ev 3) AC) (by omega) (by omega) fun r O2 r0 r1 po2=>Ba ?_)))))))
 obtain⟨i,rfl⟩:=dZ r0
 refine⟨.bl true,⟨n,ps,i,rfl,wa,r1,rfl⟩,true,rfl,?_⟩
 refine Pd (Ap ?_)
 refine DV (AK 4 (ET.we (Aa B.ge (hr.mono (by decide)) xf (AE (ev 3) AB) ⟨n,ps,rfl,wn,wa.n0,rfl⟩) ?_) IE.nd)
 rcases Md (Am n ps) with⟨d,hd,_⟩|hd
 ·rw[hd]
  exact Lq (As (k:=false) (EW.eb (EW.cast (Er (x:=true) (y:=false) (EN (t:=.int d) rfl (ev 4)) fun _=>EW.cast (Er (x:=decide (1<d)) (y:=false) (ZE (ev 4) AC) fun h=>Fc (EB.cast (Ep (k:=true) (Hm (Aa B.gf hr xf (AE (ev 3) (AE (ev 4) AB)) ⟨n,ps,d,rfl,wa,pw,hd,by have:=of_decide_eq_true h;omega,rfl⟩))) rfl)) (by simp)) rfl)) (fun h=>by cases h) (fun _=>Ap (k _ _ _ _)))
 ·rw[hd]
  exact Lq (As (k:=false) (EW.eb (EW.cast (Er (x:=false) (y:=false) (EN (t:=.non) rfl (ev 4)) fun h=>by cases h) rfl)) (fun h=>by cases h) (fun _=>Ap (k _ _ _ _)))
theorem SN{a:Addr}{ns:List Int}{fC:Addr}{fdC:dD}(B:Has P w K mg base)(hr:Room 7 (zL P w K mg base f cdv A outer s H E).X.A)(xf:XFly (zL P w K mg base f cdv A outer s H E).X (zL P w K mg base f cdv A outer s H E).W)(hS:Cr K H a (ns.map V.int))(hn:ns.length≤63)
  (FC:FnOk P w K mg base (CXe P w) 1 fC fdC ["_law_script","_law_k"] (Gi K)) (mC:mg "_law_cell_at" =some (.ref fC)) (kC:iu K (.ref fC)=true) (bC:Binds K fdC ["_law_script","_law_k"] []):HS (zL P w K mg base f cdv A outer s H E) (Do Xz [.raw (.ref a)]) VL (BA Ob) {nx:=fun _ O'=>bj .non O',rt:=bj}:=by
 refine DV (Td Aq.own rfl (SL hr xf hS hn rfl FC mC kC bC fun ms hm=> ⟨ms.map T.int,rfl,fun i ρ' O'=>∃v1 v2 v3 v4,ρ'=[some (.raw (.ref a)),v1,v2,v3,v4],⟨none,none,none,none,rfl⟩,?_,?_⟩) (by intro _;rfl))
 ·rintro i t _ O1 e ⟨v1,v2,v3,v4,rfl⟩
  rw[b9] at e
  cases ec:ms[i]? with
  |none=>rw[ec] at e;cases e
  |some c=>
   rw[ec] at e
   cases e
   exact⟨[some (.raw (.ref a)),some (.int c),v2,v3,v4],AM 1 IE.nd (by show 1<5;decide),(SM B hr xf fun _ _ _ _=> ⟨_,_,_,_,rfl⟩)⟩
 ·rintro _ _ ⟨v1,v2,v3,v4,rfl⟩
  exact Lq (AO (ET.we VD rfl))
theorem YA{fd:dD}{fC:Addr}{fdC:dD}(F:Fun K "law" "law" Ob f fd)(B:Has P w K mg base)
  (FC:FnOk P w K mg base (CXe P w) 1 fC fdC ["_law_script","_law_k"] (Gi K)) (mC:mg "_law_cell_at" =some (.ref fC)) (kC:iu K (.ref fC)=true) (bC:Binds K fdC ["_law_script","_law_k"] []):
  FnOk P w K mg base (CXe P w) 8 f fd ["_law_script"] (Nn K):=by
 refine ZL F IE (fun vs H Q E h=>?_) (fun cdv A outer s H vs Q E hr h=>?_)
 ·obtain⟨a,ns,rfl,_⟩:=h
  rfl
 ·obtain⟨a,ns,rfl,hS,hn,k⟩:=h
  refine⟨[.raw (.ref a)],VL,bj,fun _ _=>False,.cons (.raw _) .nil,Qb,fun xf=>SN B hr xf hS hn FC mC kC bC,fun v H' t O' p f r=>?_,fun cls O' H' z=>z.elim⟩
  have p:t=T.bl true:=p
  subst p
  cases r.bl_inv
  exact k H'
end
theorem YB{P:Program}{w:World}{K:b5}{mg:Str→Option Value}{base:Heap}(G:FnT P w K mg base "fars_from" 1 ["nears","starts"] JO):FnT P w K mg base "fars_from" 1 ["nears","starts"] MF:=by
 obtain⟨f,fd,h1,h2⟩:=G.ex
 refine⟨f,fd,h1.imp ?_,h2⟩
 rintro vs H Q E ⟨ts,O,Φ,Ξ,a,b,⟨n,ps,S,rfl,wn,hS,q⟩,d⟩
 refine⟨_,O,Φ,Ξ,a,b,⟨n,Ao n ps,S,by rw[DZ],EX wn,hS,fun fs al=>q fs ⟨al.len,fun v v0 v1 k=> (al.eq v v0 v1 k).trans ?_⟩⟩,d⟩
 have e:Rw (Ao n ps)=Gr.Adj ps:=funext fun u=>funext fun v=>propext (Fk wn.hw)
 rw[e]
 exact GrR.JQ.symm
theorem YC{l:lB}{w:World}{K:b5}{h:Heap}{mg:Str→Option Value}{fa CNoPlace CNoNumber CNoLine CNotEven:Addr}{tMOST_PLACES tLEAST_RING tLEAST_TIES tMOST_TIES tMOST_RING:Tok}(X:K.In h)(G:h.Ns fj mg)(hfa:mg "law" =some (.ref fa))
  (H0:Fx K "is_whole" Ly) (H1:Fx K "need_number" JH) (H2:Fx K "least_told" JC) (H3:Fx K "is_place" Lz) (H4:Fx K "need_place" Qi) (H5:Fx K "are_tied" NP) (H6:Fx K "nears_of" JI) (H7:Fx K "near_of" Qv) (H8:Fx K "fars_from" Ht) (H9:Fx K "far_of" ME) (H10:Fx K "even_by" NS) (H11:Fx K "ring_by_tie" Tn) (H12:Fx K "shortest" JE) (H13:Fx K "need_ties" Qj) (H14:Fx K "need_ring" Qk) (H15:Fx K "need_ties_and_ring" bW) (H16:Fx K "sum_of_powers" XH) (H17:Fx K "grown_places" MA) (H18:Fx K "least_by_growth" XI) (H19:Fx K "need_tie" XM) (H20:Fx K "layers_from" DJ) (H21:Fx K "places_so_far" Gh) (H22:Fx K "layers_of" MC) (H23:Fx K "layers_by_tie" JB) (H24:Fx K "ring_at" Fg) (H25:Fx K "ring_by" JD) (H26:Fx K "evenness" XJ) (H27:Fx K "full_layers" MB) (H28:Fx K "full_at" Iz) (H29:Fx K "full_by" JA) (H30:Fx K "longest_fit" EL) (H31:Fx K "_law_cell_at" Qm) (H32:Fx K "_law_next" Qn) (H33:Fx K "_law_pen_of" XN) (H34:Fx K "_law_draw" Qo) (H35:Fx K "_law_web_of" Gg) (H36:Fx K "_law_round" Iy) (H37:Fx K "_law_some_web" Co) (H38:Fx K "_law_least" Ce) (H39:Fx K "_law_rings_right" VP) (H40:Fx K "_law_layers_right" MD) (H41:Fx K "_law_full_right" bX) (H42:Fx K "law" Ob)
  (zint:Zn K "int") (zbool:Zn K "bool") (ztuple:Zn K "tuple") (zlist:Zn K "list") (zset:Zn K "set") (zrange:Zn K "range") (zisinstance:Zn K "isinstance") (zmax:Zn K "max") (zmin:Zn K "min") (zlen:Zn K "len") (zall:Zn K "all") (zsorted:Zn K "sorted") (zrepr:Zn K "repr") (zValueError:Zn K "ValueError") (zenumerate:Zn K "enumerate") (zsum:Zn K "sum") (vMOST_PLACES:gP K fj "MOST_PLACES" =some (some (.int 16 tMOST_PLACES))) (vLEAST_RING:gP K fj "LEAST_RING" =some (some (.int 3 tLEAST_RING))) (vLEAST_TIES:gP K fj "LEAST_TIES" =some (some (.int 2 tLEAST_TIES))) (vMOST_TIES:gP K fj "MOST_TIES" =some (some (.int 15 tMOST_TIES))) (vMOST_RING:gP K fj "MOST_RING" =some (some (.int 16 tMOST_RING))) (mNoPlace:Cn K "NoPlace" CNoPlace) (xNoPlace:gk K CNoPlace HH "ValueError.__new__" =true) (mNoNumber:Cn K "NoNumber" CNoNumber) (xNoNumber:gk K CNoNumber HH "ValueError.__new__" =true) (mNoLine:Cn K "NoLine" CNoLine) (xNoLine:gk K CNoLine HH "ValueError.__new__" =true) (mNotEven:Cn K "NotEven" CNotEven) (xNotEven:gk K CNotEven HH "ValueError.__new__" =true)
  :∃fd:dD,(∀(s:b6) (v:Value),mR s fd ⟨[v],[]⟩ [("_law_script",v)])∧∀base:Heap,K.In base→base.Ns fj mg→FnOk l.prog w K mg base (CXe l.prog w) 8 fa fd ["_law_script"] (Nn K):=by
 obtain⟨f0,d0,h0⟩:=H0
 obtain⟨f1,d1,h1⟩:=H1
 obtain⟨f2,d2,h2⟩:=H2
 obtain⟨f3,d3,h3⟩:=H3
 obtain⟨f4,d4,h4⟩:=H4
 obtain⟨f5,d5,h5⟩:=H5
 obtain⟨f6,d6,h6⟩:=H6
 obtain⟨f7,d7,h7⟩:=H7
 obtain⟨f8,d8,h8⟩:=H8
 obtain⟨f9,d9,h9⟩:=H9
 obtain⟨f10,d10,h10⟩:=H10
 obtain⟨f11,d11,h11⟩:=H11
 obtain⟨f12,d12,h12⟩:=H12
 obtain⟨f13,d13,h13⟩:=H13
 obtain⟨f14,d14,h14⟩:=H14
 obtain⟨f15,d15,h15⟩:=H15
 obtain⟨f16,d16,h16⟩:=H16
 obtain⟨f17,d17,h17⟩:=H17
 obtain⟨f18,d18,h18⟩:=H18
 obtain⟨f19,d19,h19⟩:=H19
 obtain⟨f20,d20,h20⟩:=H20
 obtain⟨f21,d21,h21⟩:=H21
 obtain⟨f22,d22,h22⟩:=H22
 obtain⟨f23,d23,h23⟩:=H23
 obtain⟨f24,d24,h24⟩:=H24
 obtain⟨f25,d25,h25⟩:=H25
 obtain⟨f26,d26,h26⟩:=H26
 obtain⟨f27,d27,h27⟩:=H27
 obtain⟨f28,d28,h28⟩:=H28
 obtain⟨f29,d29,h29⟩:=H29
 obtain⟨f30,d30,h30⟩:=H30
 obtain⟨f31,d31,h31⟩:=H31
 obtain⟨f32,d32,h32⟩:=H32
 obtain⟨f33,d33,h33⟩:=H33
 obtain⟨f34,d34,h34⟩:=H34
 obtain⟨f35,d35,h35⟩:=H35
 obtain⟨f36,d36,h36⟩:=H36
 obtain⟨f37,d37,h37⟩:=H37
 obtain⟨f38,d38,h38⟩:=H38
 obtain⟨f39,d39,h39⟩:=H39
 obtain⟨f40,d40,h40⟩:=H40
 obtain⟨f41,d41,h41⟩:=H41
 obtain⟨f42,d42,h42⟩:=H42
 have e:=hfa.symm.trans (PySem.W.mg_of X G h42.a)
 cases e
 have mm:∀{x:Str} {v:Value},gP K fj x=some (some v)→mg x=some v:=fun e=>PySem.W.mg_of X G e
 have nn:∀{x:Str},Zn K x→mg x=none:=fun e=>PySem.W.mg_none_of X G e
 have Tx:Txt mg:=⟨nn zint,nn zbool,nn ztuple,nn zlist,nn zset,nn zrange,nn zisinstance,nn zmax,nn zmin,nn zlen,nn zall,nn zsorted,nn zrepr,nn zValueError,nn zenumerate,nn zsum,⟨tMOST_PLACES,mm vMOST_PLACES⟩,⟨tLEAST_RING,mm vLEAST_RING⟩,⟨tLEAST_TIES,mm vLEAST_TIES⟩,⟨tMOST_TIES,mm vMOST_TIES⟩,⟨tMOST_RING,mm vMOST_RING⟩⟩
 refine⟨d42,fun s v=>?_,fun base _ _=>?_⟩
 ·obtain⟨⟨_,_,_,_,_,_,_,_,_,rfl,_⟩,_⟩:=h42.F
  exact .of_eq rfl
 have M:Mg l.prog w K mg base:=⟨mm⟩
 have G0:=h0.t M (Ql h0.F Tx) (h0.b3 rfl fun _ _ _ _ _ _ _ _ _=>rfl)
 have G1:=h1.t M (XU h1.F (mm mNoNumber) xNoNumber G0) (h1.b3 rfl fun _ _ _ _ _ _ _ _ _=>rfl)
 have G2:=h2.t M (RJ h2.F Tx) (h2.b1 rfl fun _ _ _ _ _ _ _=>rfl)
 have G3:=h3.t M (Qt h3.F G0) (h3.b2 rfl fun _ _ _ _ _ _ _ _=>rfl)
 have G4:=h4.t M (Tt h4.F (mm mNoPlace) xNoPlace G3) (h4.b2 rfl fun _ _ _ _ _ _ _ _=>rfl)
 have G5:=h5.t M (Tu h5.F Tx) (h5.b3 rfl fun _ _ _ _ _ _ _ _ _=>rfl)
 have G6:=h6.t M (Qw h6.F Tx) (h6.b1 rfl fun _ _ _ _ _ _ _=>rfl)
 have G7:=h7.t M (Tv h7.F Tx G4 G6) (h7.b2 rfl fun _ _ _ _ _ _ _ _=>rfl)
 have G8:=h8.t M (RA h8.F) (h8.b2 rfl fun _ _ _ _ _ _ _ _=>rfl)
 have A8:=YB G8
 have G9:=h9.t M (Oc h9.F G4 G6 A8) (h9.b3 rfl fun _ _ _ _ _ _ _ _ _=>rfl)
 have G10:=h10.t M (UA h10.F Tx G6) (h10.b1 rfl fun _ _ _ _ _ _ _=>rfl)
 have G11:=h11.t M (Xd h11.F Tx G8) (h11.b3 rfl fun _ _ _ _ _ _ _ _ _=>rfl)
 have G12:=h12.t M (Rf h12.F G6 G11 G2) (h12.b1 rfl fun _ _ _ _ _ _ _=>rfl)
 have G13:=h13.t M (UU h13.F Tx G1) (h13.b1 rfl fun _ _ _ _ _ _ _=>rfl)
 have G14:=h14.t M (UV h14.F Tx G1) (h14.b1 rfl fun _ _ _ _ _ _ _=>rfl)
 have G15:=h15.t M (Zw h15.F G13 G14) (h15.b2 rfl fun _ _ _ _ _ _ _ _=>rfl)
 have G16:=h16.t M (Xn h16.F Tx) (h16.b2 rfl fun _ _ _ _ _ _ _ _=>rfl)
 have G17:=h17.t M (Ri h17.F G16) (h17.b2 rfl fun _ _ _ _ _ _ _ _=>rfl)
 have G18:=h18.t M (Xo h18.F G15 G17) (h18.b2 rfl fun _ _ _ _ _ _ _ _=>rfl)
 have G19:=h19.t M (XZ h19.F (mm mNoLine) xNoLine G4 G5) (h19.b3 rfl fun _ _ _ _ _ _ _ _ _=>rfl)
 have G21:=h21.t M (Og h21.F Tx) (h21.b2 rfl fun _ _ _ _ _ _ _ _=>rfl)
 have G20:=h20.t M (UD h20.F Tx G6 A8 G21) (h20.b2 rfl fun _ _ _ _ _ _ _ _=>rfl)
 have G22:=h22.t M (Oh h22.F G4 G20) (h22.b2 rfl fun _ _ _ _ _ _ _ _=>rfl)
 have G23:=h23.t M (MN h23.F G19 G20) (h23.b3 rfl fun _ _ _ _ _ _ _ _ _=>rfl)
 have G24:=h24.t M (MQ h24.F G4 G6 G11 G2) (h24.b2 rfl fun _ _ _ _ _ _ _ _=>rfl)
 have G25:=h25.t M (MR h25.F G19 G6 G11) (h25.b3 rfl fun _ _ _ _ _ _ _ _ _=>rfl)
 have G26:=h26.t M (Xq h26.F (mm mNotEven) xNotEven G10) (h26.b1 rfl fun _ _ _ _ _ _ _=>rfl)
 have G27:=h27.t M (Rp h27.F Tx) (h27.b3 rfl fun _ _ _ _ _ _ _ _ _=>rfl)
 have G28:=h28.t M (Me h28.F G26 G27 G22) (h28.b2 rfl fun _ _ _ _ _ _ _ _=>rfl)
 have G29:=h29.t M (Mf h29.F G26 G27 G23) (h29.b3 rfl fun _ _ _ _ _ _ _ _ _=>rfl)
 have G30:=h30.t M (UX h30.F Tx G13 G1 G18) (h30.b2 rfl fun _ _ _ _ _ _ _ _=>rfl)
 have W31:FnOk l.prog w K mg base (CXe l.prog w) 1 f31 _ _ (Gi K):=Tp h31.F Tx
 have G32:=h32.t M (Tq h32.F) (h32.b1 rfl fun _ _ _ _ _ _ _=>rfl)
 have G33:=h33.t M (XQ h33.F Tx) (h33.b1 rfl fun _ _ _ _ _ _ _=>rfl)
 have G34:=h34.t M (Tr h34.F G32) (h34.b2 rfl fun _ _ _ _ _ _ _ _=>rfl)
 have G35:=h35.t M (Om h35.F Tx) (h35.b2 rfl fun _ _ _ _ _ _ _ _=>rfl)
 have G36:=h36.t M (RN h36.F Tx) (h36.b3 rfl fun _ _ _ _ _ _ _ _ _=>rfl)
 have G37:=h37.t M (Kc h37.F Tx G34 G36 G35) (h37.b2 rfl fun _ _ _ _ _ _ _ _=>rfl)
 have G38:=h38.t M (Zl h38.F Tx) (h38.b1 rfl fun _ _ _ _ _ _ _=>rfl)
 have G39:=h39.t M (aK h39.F Tx G24 G25 G12 G38 G7) (h39.b1 rfl fun _ _ _ _ _ _ _=>rfl)
 have G40:=h40.t M (Xw h40.F Tx G22 G23 G9 G7) (h40.b2 rfl fun _ _ _ _ _ _ _ _=>rfl)
 have G41:=h41.t M (aP h41.F Tx G12 G28 G29 G30) (h41.b2 rfl fun _ _ _ _ _ _ _ _=>rfl)
 exact YA h42.F ⟨G34,G33,G37,G10,G39,G40,G41⟩ W31 (mm h31.a) h31.F.kp (h31.b2 rfl fun _ _ _ _ _ _ _ _=>rfl)
theorem walk{l:lB}{q:Program}{loose:List Str}{XP:(Str→Option Value)→Heap→Prop}{YP:World→Heap→Prop}{d:DefRec}{K:Params→b5}(hn:l.most=some 63)(hdf:d.params.defaults=[])
  (hY:∀(w:World) (h:Heap),YP w h→(K w.params).In h)
  (F:∀(w:World) (mg:Str→Option Value) (fa:Addr) (h:Heap),(K w.params).In h→h.Ns fj mg→mg d.name=some (.ref fa)→
   ∃fd:dD,(∀(s:b6) (u:Value),mR s fd ⟨[u],[]⟩ [("_law_script",u)])∧∀base:Heap,(K w.params).In base→base.Ns fj mg→FnOk l.prog w (K w.params) mg base (CXe l.prog w) 8 fa fd ["_law_script"] (Nn (K w.params))):
  PySem.W.WalkO q loose XP YP l.row.toRowW d [] (fun f vs=>PySem.call f vs):=
 L2.Sl (n:=63) (k:=8) (x:="_law_script") (CX:=fun w=>CXe l.prog w) (sp:=fun w=>Nn (K w.params)) hn (by decide) hdf ⟨rfl,by decide,by decide,rfl⟩ hY F (fun _ _ a ns hl _ hS=> ⟨a,ns,rfl,hS,hl,fun _=>rfl⟩) fun _ _ _ _ _ z=>z.never
end K12
open PySem PySem.W PyProof.Rows
set_option maxRecDepth 100000 in
set_option maxHeartbeats 0 in
theorem PySem.Challenge.cw_noshortring_k12_whole_growth_holds : PySem.Challenge.rw_noshortring_k12_whole_growth.Holds := by
 w_on;o_law
 refine PySem.W.holds_open (q:=K12.kq) (loose:=[]) (Xt:=fun s=>mF K12.kq [] s&&l9 [] s) (XP:=PySem.W.XL K12.kq []) (Yf:=fun s=>K12.ka.map s.heap.get?) (Ya:=fun w=> (K12.Kk w.params).map fun(p:Addr×Obj)=>some p.2) (YP:=mZ K12.Kk) (N:=4900) K12.left (mZ.of fun _=>by kernel_rfl) mZ.keeps (fun s e=>xl_of s (Bool.and_eq_true_iff.mp e).1) XL.keeps (by rfl) (by rfl) (by rfl) (fun s e=>recFacts_of (Bool.and_eq_true_iff.mp e).2) (by rfl) (by first|assumption|decide+kernel) (by first|k_qdec|decide+kernel) ⟨rfl,rfl,rfl,rfl,rfl,by decide+kernel⟩ ?hw ?hc
 (case hw=>w_witness2)
 k_fill
 refine K12.walk (l:=PySem.Challenge.rw_noshortring_k12_whole_growth) rfl rfl (fun w h Y=>Y) ?F
 case F=>
  intro w mg fa h KX G hmg
  refine' K12.YC KX G hmg ?H0 ?H1 ?H2 ?H3 ?H4 ?H5 ?H6 ?H7 ?H8 ?H9 ?H10 ?H11 ?H12 ?H13 ?H14 ?H15 ?H16 ?H17 ?H18 ?H19 ?H20 ?H21 ?H22 ?H23 ?H24 ?H25 ?H26 ?H27 ?H28 ?H29 ?H30 ?H31 ?H32 ?H33 ?H34 ?H35 ?H36 ?H37 ?H38 ?H39 ?H40 ?H41 ?H42 ?zint ?zbool ?ztuple ?zlist ?zset ?zrange ?zisinstance ?zmax ?zmin ?zlen ?zall ?zsorted ?zrepr ?zValueError ?zenumerate ?zsum ?vMOST_PLACES ?vLEAST_RING ?vLEAST_TIES ?vMOST_TIES ?vMOST_RING ?mNoPlace ?xNoPlace ?mNoNumber ?xNoNumber ?mNoLine ?xNoLine ?mNotEven ?xNotEven
  case H0|H1|H2|H3|H4|H5|H6|H7|H8|H9|H10|H11|H12|H13|H14|H15|H16|H17|H18|H19|H20|H21|H22|H23|H24|H25|H26|H27|H28|H29|H30|H31|H32|H33|H34|H35|H36|H37|H38|H39|H40|H41|H42=> (refine' L2.TL.fi ?a ?l ?q ?k;(case a=>k_is);(case l=>k_is);(case q=>k_is);(case k=>k_is))
  case zint|zbool|ztuple|zlist|zset|zrange|zisinstance|zmax|zmin|zlen|zall|zsorted|zrepr|zValueError|zenumerate|zsum=> (delta L2.TL.Zn;k_is)
  case mNoPlace|mNoNumber|mNoLine|mNotEven=> (delta L2.TL.Cn;k_is)
  case vMOST_PLACES=>k_is
  case vLEAST_RING=>k_is
  case vLEAST_TIES=>k_is
  case vMOST_TIES=>k_is
  case vMOST_RING=>k_is
  case xNoPlace=>k_exc
  case xNoNumber=>k_exc
  case xNoLine=>k_exc
  case xNotEven=>k_exc
