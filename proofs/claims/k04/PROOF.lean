import PyProof.Rows.All
import Wide.All
import OpenK.AllK
import Wide.FinOn
import Lean
import PyProof.EqAt
import PyProof.EqKinds
import PyProof.TupleCall
import PySem.Challenge.RW_noshortring_k04_rings
noncomputable section
open Array renaming length_toList→eG,getElem?_toList→fh,getElem?_eq_some_iff→fT,toList_extract→gh,toList_reverse→gL,toList_append→i8,toList_push→jo,ext'→jZ,getD→lS,toList_map→mE,replicate→mU
open Bool renaming false_ne_true→eC,false_eq_true→e9,and_eq_true→fx,eq_iff_iff→ic,not_eq_true'→iy,true_and→jw,not_true→kc,not_eq_false'→lR,not_false→nu,and_false→nv
open Classical renaming byContradiction→il
open False renaming elim→jv
open ForInStep renaming yield→iM
open Function renaming comp_def→kO
open Int renaming eq_ofNat_of_zero_le→e7,toNat_natCast→fg,le_of_lt→iH,toNat_of_nonneg→iJ,mul_le_mul_of_nonneg_right→iV,emod_lt_of_pos→iW,zero_add→ja,le_refl→jb,emod_nonneg→jj,le_trans→jL,mul_assoc→nP,pow_succ→oh,le_total→oi,add_mul→oD
open List renaming length_map→b6,getElem?_map→c9,mem_singleton→dr,getElem?_eq_getElem→dt,mem_of_getElem?→dw,getElem?_eq_some_iff→eB,length_cons→eD,replicate→eE,mem_cons_of_mem→eF,mem_cons→eJ,length_append→eK,mem_append→eO,size_toArray→eP,mem_map→eQ,map_cons→eT,range→eW,mem_cons_self→eY,getElem?_set_self→eZ,getElem?_append_right→e8,getElem?_set_ne→fc,map_append→fj,length_take→fk,getElem?_append_left→fq,nodup_cons→fu,Pairwise→fv,mem_range→fy,getD_eq_getElem?_getD→fz,mem_filter→fD,map_map→fE,pairwise_iff_getElem→fF,extract_eq_drop_take→fG,lookup_cons→fJ,length_nil→fL,getElem?_of_mem→fM,mem_append_right→fP,take_add_one→fQ,take_length→fR,not_mem_nil→fW,nodup_append→fX,getLast?_cons_cons→fY,length_drop→gi,append_assoc→gk,length_replicate→gr,filterMap_cons→gD,append_nil→gE,getElem_mem→gF,getElem?_replicate→gG,length_range→gH,ext_getElem?→gI,mem_append_left→gK,getD→gQ,mem_map_of_mem→gU,take_append_drop→gW,pairwise_map→hC,getElem_of_mem→iq,reverse_cons→iw,getElem?_eq_none→iA,getElem?_drop→iE,getElem?_cons_succ→iF,length_set→iL,getLast?_eq_some_iff→iN,drop_eq_getElem_cons→iO,perm_append_comm→iQ,mem_filterMap→iU,mem_of_getLast?→iX,pairwise_singleton→i5,Perm→jc,getElem?_take_of_lt→jt,length_eq_zero_iff→jC,all_eq_true→jD,map_set→jJ,getElem_cons_drop→jK,length_filter_le→jR,nodup_iff_pairwise_ne→jV,mem_of_mem_take→jW,filter_cons→j4,cons_append→j5,length_reverse→j6,getElem?_range→j7,flatMap_append→j8,getElem?_take→ko,take_zero→kJ,take_sublist→kK,pairwise_lt_range→kL,map_nil→kM,head?_append→kN,mem_flatMap→kT,getElem_map→kU,pairwise_append→k7,mem_of_mem_drop→k8,forIn_cons→lu,reverse_append→lA,toArray→lF,flatMap_cons→lZ,zipIdx_cons→mz,mem_reverse→mB,all_map→mL,of_mem_zip→mS,nil_append→mT,map_id→nh,forIn_nil→ni,drop_zero→nj,map_take→nN,map_drop→nO,foldl→oK
open List.Pairwise renaming imp_of_mem→gR,imp→jS,map→l0
open Nat renaming le_refl→dv,lt_of_lt_of_le→eX,ne_of_lt→fb,le_trans→fo,zero_le→fB,lt_irrefl→gw,lt_succ_of_lt→gZ,lt_trichotomy→iu,le_of_lt→iC,lt_succ_self→iT,zero_add→jn,ne_of_gt→jI,not_lt_zero→jM,lt_of_le_of_lt→km,le_of_not_lt→kS,succ_pos→lD,lt_trans→lE,le_of_succ_le→lY,strongRecOn→mR,add_assoc→nM,mod_lt→nU,succ_add→n9,add_zero→oa,log2_lt→oC
open Option renaming some→gc,isSome→mi
open Or renaming inr→lP,inl→mh
open Prod renaming fst→fK,ext→jB,snd→my
open PyProof.Rows renaming wpS_bind→dy,wpS_pure→dz,slot_tuple_getitem→fA,SortSt→fH,wpS_forRange→fS,seqObj→fU,wpS_mono→ig,callWith_type1→i9,envOfC→jr,failedOf→jA,wpS_modify→jE,SortKind→jU,wpS_get→ke,wpS_lift→kX,get?_update_seq→lj,entry_tuple_getitem→lz,AllBare→lG,slicePart_none→lJ,setPending→lK,args_tuple_getitem→lM,listUpdate_at→ma,seqEpoch_at→mW,minRun'→nC,tupleItemsOf_→nE,subscriptTail→nH,firstMet→nW
open PyProof.Rows.F renaming plain_set_update_loop→ip
open PyProof.Rows.SortSt renaming mk'→lO
open PySem renaming wpAny_bind→a7,Shared→a9,wpAny_pure→b9,starEach→du,Around→eU,Spec→eV,FuncData→fm,bootBuiltins→fw,wpAny_holding→fI,wpAny_newObj_type→fV,wpAny_callSpecial?_slot→gu,wpAny_call_entry→gz,SetTable→gB,sizeLine_eq→gC,wpAny_field→gJ,compareOp→gM,wpAny_seqItems→gO,mainGlobals→gT,wpAny_setState_of→gX,foldedSetIterable→gY,wpAny_setField_rec→hV,cellsFrom→iz,assignEach→iR,wpAny_truthy_bool→iZ,codeAny_builtin→i6,backTo→i7,wpAny_rule→je,wpAny_passesOwn→ji,codeAny_call_builtin→jk,binaryOp→jl,wpAny_attempt→jq,Builtin→js,IsPair→ju,mem_of_lookup→jx,wpAny_pyIter_tuple→jF,wpAny_mono→jG,plainId_quiet→jN,wpAny_eqBool_int→j0,codeAny→j1,wpAny_Call_Name_kw→kh,pyNext→ki,wpAny_letGo→kr,sliceBounds→ku,wpAny_typeOf→ky,wpAny_tryCatch→kz,rawInt→kA,isSubtype_type→kB,wpAny_askSetting→kP,swapsWith→kQ,wpAny_standAt→kW,wpAny_updateSeq_pair→kY,wpAny_of_eq→kZ,wpAny_execs_nil→k9,letOwnedTupleGo→lh,codeAny_mono→lC,pickOrder→lH,PassesOwn→lI,firstArgMember→lL,wpAny_sequenceKey→lT,wpAny_pyIter_list→lU,ofAClassStatement→lV,getItem→lW,Keyword→l7,wpAny_onRaise→l8,wpAny_newList→l9,attributeBase→md,wpAny_isInstance→mj,wpAny_forIn_list→ml,noFill_tuple_add→mn,checkBuiltinCall→mq,wpAny_call→mF,argBest→mG,IsPart→mM,wpAny_updateSeq→mN,wpAny_newTuple→mV,pyIter→mX,newFunctionEnv→mY,keywordEach→mZ,Operator→ng,seqItems?→nz,seqIndex?→nA,pushCells→nB,callerA→nD,swapsWithSole→nF,swappedStores→nG,seq_tuple_add→nI,evalPart_none→nJ,frameOf→nL,sysModules→nQ,setEntries→nR,call_meets→nS,builtinsNs→nT,entryPlaceOf→nX,concat_meets→nY,compEnvC→nZ,ZipApart→n6,Within→n8,BindsTo→om,scanBound→oq,preSum→ot,Result→ow,Fin→oy,seqIndex_of→oA,backToKw→oI
open PySem.Around renaming under_plainId→iY
open PySem.Builtin.Slice renaming sliceAdjust→gx,slicePlaces→gN,sliceApplied→jY
open PySem.Builtin.SmallTypes renaming nextOf→fO,ownedTupleIsFree→iB
open PySem.Builtin.Tuple renaming tupleExact→gS,tupleItemsOf→jX
open PySem.Challenge renaming pw_noshortring_k04_rings→gq
open PySem.Data renaming cell→oz
open PySem.EntryCells renaming newEntry→lB
open PySem.Expr renaming Call→oQ
open PySem.F renaming slot_tuple_iterator_next→iG,plain_min_loop→jd,slot_zip_next→jQ,args_tuple_add_2→kb,called_set→kl,entry_tuple_add→kv,slot_tuple_add→kI,entry_min_loop→mD
open PySem.Heap renaming get?_push_of_some→dm,lt_size→eM,get?_push_size→eS,size_push→fZ,get?_update_other→ie,SameBut→iI,get?_update_self→jh,get?_update_ne→j9,ExtBut→nr,FlyingW→oj
open PySem.Heap.SameBut renaming update→jz
open PySem.NameKind renaming cell→jP
open PySem.Obj renaming mapSeq→hZ,putSet→lQ
open PySem.PyData renaming eqv→iD,depthAll→iK,weightAll→mx
open PySem.SetTable renaming insertAt→iP,runEnd→jT,sizeAbove→ny,fill→nK
open PySem.SetTable.below renaming go→oH
open PySem.SetTable.probe renaming go→k4
open PySem.Str renaming ofString→jm
open PySem.Value renaming none→iS,type→jH,int→kR,bool→lN,str→ou
open PySem.W renaming Frag→a8,kitOne→fe,kia_one→gP,kitCls→jf,keepIn→jg,hideAll_get→jy,Looks→jO,fnOf→j3,hideAll→kg,of_hideAll→kj,nsIn→kG,findIn→kH,looks_findIn→k6,methodObj→lX,mroIn→me,clsIn→mf,kat_cons→mw,kat_yes→mO,instObj→mP,OpenLaw→mQ,lookIn→m6,kat_no→m7,kat_go→m8,codeIn→m9,KatTups→og,InK→oB
open PySem.pickOrder renaming go→nV
open Sum renaming inr→mJ,inl→mK
open True renaming intro→mH
set_option Elab.async false
set_option linter.all false
set_option maxRecDepth 100000
namespace L2
open PySem PySem.Spec PyProof.Rows
abbrev Kf:=Sum Int Str
def VA:Kf→Value→Bool
 | .inl k,v=>Value.isInt k v
 | .inr x,v=>Value.isStrOf x v
def au(w:World):Kf→Int
 | .inl k=>hashInt k
 | .inr x=>hashStr w x
theorem Ap:∀{k:Kf} {v:Value},VA k v=true→(∃i t,k=mK i∧v=kR i t)∨(∃x t,k=mJ x∧v=ou x t)
 | .inl i,v,h=>by
  obtain⟨t,e⟩:=Value.isInt_shape (k:=i) (v:=v) h
  exact .inl ⟨i,t,rfl,e⟩
 | .inr x,v,h=>by
  obtain⟨t,e⟩:=Value.isStrOf_shape (x:=x) (v:=v) h
  exact .inr ⟨x,t,rfl,e⟩
theorem Vi(a b:Int):decide ((mK a:Kf)=mK b)=(a==b):=by
 by_cases e:a=b
 ·subst e;simp
 ·have h:¬(mK a:Kf)=mK b:=fun q=>e (mK.inj q)
  rw[decide_eq_false h]
  exact(beq_eq_false_iff_ne.mpr e).symm
theorem Vj(a b:Str):decide ((mJ a:Kf)=mJ b)=decide (a=b):=by
 by_cases e:a=b
 ·subst e;simp
 ·have h:¬(mJ a:Kf)=mJ b:=fun q=>e (mJ.inj q)
  rw[decide_eq_false h,decide_eq_false e]
theorem Vk(a:Int)(b:Str):decide ((mK a:Kf)=mJ b)=false:=decide_eq_false (fun q=>nomatch q)
theorem Vl(a:Str)(b:Int):decide ((mJ a:Kf)=mK b)=false:=decide_eq_false (fun q=>nomatch q)
def JP(prog:Program)(w:World):PySem.KeyKind prog w Kf where
 is:=VA
 hash:=au w
 inj:=fun v a b ha hb=>by
  rcases Ap ha with⟨i,t,rfl,rfl⟩| ⟨x,t,rfl,rfl⟩
  ·rcases Ap hb with⟨j,u,rfl,e⟩| ⟨y,u,rfl,e⟩
   ·injection e with e1 _;rw[e1]
   ·exact nomatch e
  ·rcases Ap hb with⟨j,u,rfl,e⟩| ⟨y,u,rfl,e⟩
   ·exact nomatch e
   ·injection e with e1 _;rw[e1]
 byValue:=fun k v h=>by
  rcases Ap h with⟨i,t,rfl,rfl⟩| ⟨x,t,rfl,rfl⟩<;>rfl
 pyHash:=fun hv h=>by
  rcases Ap hv with⟨i,t,rfl,rfl⟩| ⟨x,t,rfl,rfl⟩
  ·exact wpAny_pyHash_int h
  ·exact wpAny_pyHash_str h
 eqBool:=fun hu hv h=>by
  rcases Ap hu with⟨i,t,rfl,rfl⟩| ⟨x,t,rfl,rfl⟩
  ·rcases Ap hv with⟨j,u,rfl,rfl⟩| ⟨y,u,rfl,rfl⟩
   ·rw[Vi] at h;exact j0 h
   ·rw[Vk] at h;exact SeqAt.EqAt.int_str i t y u _ _ _ _ h
  ·rcases Ap hv with⟨j,u,rfl,rfl⟩| ⟨y,u,rfl,rfl⟩
   ·rw[Vl] at h;exact SeqAt.EqAt.str_int x t j u _ _ _ _ h
   ·rw[Vj] at h;exact wpAny_eqBool_str h
 «strs»:=fun k x t v h=>by
  rcases Ap h with⟨i,u,rfl,e⟩| ⟨y,u,rfl,e⟩
  ·exact nomatch e
  ·injection e with e1 _
   subst e1
   cases v<;>rfl
inductive V where
 |non|bl (b:Bool)|int (i:Int)|str (x:Str)|byt (b:Array UInt8)|flt (b:UInt64)|ref (a:Addr)|ty (n:String)
 deriving DecidableEq
def RelV:V→Value→Prop
 | .non,u=>u=iS
 | .bl b,u=>u=lN b
 | .int i,u=>∃t,u=kR i t
 | .str x,u=>∃t,u=ou x t
 | .byt b,u=>∃t,u=Value.bytes b t
 | .flt b,u=>∃t,u=Value.float b t
 | .ref a,u=>u=Value.ref a
 | .ty n,u=>u=jH n
abbrev Vals:List V→List Value→Prop:=Paired RelV
theorem Vals.length{xs:List V}{us:List Value}(r:Vals xs us):xs.length=us.length:=Paired.length r
theorem Vals.get:∀{xs:List V} {us:List Value} {i:Nat} {x:V},Vals xs us→xs[i]?=some x→∃u,us[i]?=some u∧RelV x u
 |_,_,_,_,.nil,e=>by simp at e
 |_,_,0,_,.cons r _,e=>by simp at e;subst e;exact⟨_,rfl,r⟩
 |_,_,i+1,x,.cons _ t,e=>by
  obtain⟨u,h1,h2⟩:=Vals.get (i:=i) (x:=x) t (by simpa using e)
  exact⟨u,by simpa using h1,h2⟩
theorem Vals.set{x:V}{u:Value}(r:RelV x u):∀{xs:List V} {us:List Value} (i:Nat),Vals xs us→Vals (xs.set i x) (us.set i u)
 |_,_,_,.nil=> .nil
 |_,_,0,.cons _ t=> .cons r t
 |_,_,i+1,.cons q t=> .cons q (Vals.set r i t)
theorem Vals.append:∀{xs ys:List V} {us ws:List Value},Vals xs us→Vals ys ws→Vals (xs++ys) (us++ws)
 |_,_,_,_,.nil,s=>s
 |_,_,_,_,.cons r t,s=> .cons r (Vals.append t s)
theorem Vals.take:∀{xs:List V} {us:List Value} (n:Nat),Vals xs us→Vals (xs.take n) (us.take n)
 |_,_,0,_=> .nil
 |_,_,_+1,.nil=> .nil
 |_,_,n+1,.cons r t=> .cons r (Vals.take n t)
theorem Vals.drop:∀{xs:List V} {us:List Value} (n:Nat),Vals xs us→Vals (xs.drop n) (us.drop n)
 |_,_,0,r=>r
 |_,_,_+1,.nil=> .nil
 |_,_,n+1,.cons _ t=>Vals.drop n t
def Sm:Option V→Option Value→Prop
 |some v,some u=>RelV v u
 |none,none=>True
 |_,_=>False
def KV{κ:Type}:List (κ×V)→List (κ×Value)→Prop:=Paired fun(p:κ×V) (q:κ×Value)=>p.1=q.1∧RelV p.2 q.2
def kV:Kf→V
 | .inl i=> .int i
 | .inr x=> .str x
inductive HO where
 /-- a list -/
 | lst (xs:List V)
 /-- a tuple (never changes) -/
 | tup (xs:List V)
 /-- a dict whose keys are ints and texts; one whose keys are tuples of ints and texts (the empty one is both) -/
 | dK (kvs:List (Kf × V)) | dT (kvs:List (List Kf × V))
 /-- a set of ints: its members,its size -/
 | set (S:Int→Bool) (n:Nat)
 /-- an instance of the class at C,its dict at dx,its attributes -/
 | ins (C dx:Addr) (fs:List (Str × V))
 /-- the dict of the instance at x -/
 | own (x:Addr)
 /-- the dict of an exception -/
 | xd (fs:List (Str × V))
 /-- a bound method,f of x -/
 | met (f x:Addr)
 /-- a range object lo,lo + 1,.. below hi -/
 | rng (lo hi:Int)
 /-- a thing that is known to the object (the script; a dict while a loop walks it): read,never written while it is so -/
 | frz (o:Obj) (u:HO)
 /-- a code object's table -/
 | tbl (ps:Array Value)
 /-- any other thing,by what is true of its one object (a def of one's own: SetO a S n:=HO.ext fun h => ..) -/
 | ext (φ:Heap→Prop)
abbrev Hp:=Addr→Option HO
def upd(H:Hp)(a:Addr)(o:HO):Hp:=fun b=>if b=a then some o else H b
theorem AW{H:Hp}{a:Addr}{o:HO}:upd H a o a=some o:=by unfold upd;rw[if_pos rfl]
theorem AX{H:Hp}{a b:Addr}{o:HO}(h:b≠a):upd H a o b=H b:=by unfold upd;rw[if_neg h]
theorem AU{H:Hp}{a b:Addr}{o:HO}(h:H a=some o)(h':H b=none):a≠b:=by
 intro e;subst e;rw[h] at h';cases h'
section
variable(P:Program)(w:World)
def ObjOk(H:Hp)(h:Heap)(a:Addr):HO→Prop
 | .lst xs=>xs.length≤sizeLine∧∃(its:List Value) (n:Nat),Vals xs its∧h.get? a=some {cls:=.type "list",data:=.seq its.toArray n}
 | .tup xs=>xs.length≤sizeLine∧∃its:List Value,Vals xs its∧IsTup h a its.toArray
 | .dK kvs=>kvs.length≤sizeLine∧(a==nQ)=false∧∃vs,KV kvs vs∧h.DictOf (JP P w) a vs
 | .dT kvs=>kvs.length≤sizeLine∧(a==nQ)=false∧∃xs:List (List Kf×Addr×Value),
   Paired (fun(p:List Kf×V) (q:List Kf×Addr×Value)=>p.1=q.1∧H q.2.1=some (.tup (p.1.map kV))∧RelV p.2 q.2.2) kvs xs∧
   ∃o es ep,h.get? a=some o∧o.ExactDict∧o.data=.dict es ep∧es.toList=xs.map (entryOfKey (tupleKind (JP P w)))∧(xs.map (·.1)).Nodup
 | .set S n=>h.SetOf (intKind P w) a S n
 | .ins C dx fs=>H dx=some (.own a)∧fs.length≤1000∧dx≠a∧h.get? a=some (mP C dx)∧
   ∃mA,h.Ns1 dx mA∧(∀f,Sm (fs.lookup f) (mA f))∧n8 mA (fs.map (·.1))
 | .own _=>∃o,h.get? a=some o
 | .xd fs=>∃mA,h.Ns1 a mA∧∀f,Sm (fs.lookup f) (mA f)
 | .rng lo hi=>∃t u v,h.get? a=some {cls:=.type "range",data:=.fields #[.int lo t,.int hi u,.int 1 v]}
 | .frz o u=>h.get? a=some o∧ObjOk H h a u
 | .tbl ps=>h.get? a=some {cls:=.none,data:=.fields ps}
 | .met f x=>h.get? a=some (lX (.ref f) (.ref x))
 | .ext φ=>φ h∧(∃o,h.get? a=some o)∧∀h1 h2:Heap,φ h1→(∀o,h1.get? a=some o→h2.get? a=some o)→φ h2
def HOk(H:Hp)(h:Heap):Prop:=∀a o,H a=some o→ObjOk P w H h a o
end
section
variable{P:Program}{w:World}{H H':Hp}{h h':Heap}{a:Addr}{o:HO}
theorem ObjOk.lt(x:ObjOk P w H h a o):a<h.objs.size:=by
 cases o with
 |lst xs=>obtain⟨_,_,_,_,e⟩:=x;exact eM e
 |tup xs=>obtain⟨_,_,_,p⟩:=x;exact p.lt
 |dK kvs=>obtain⟨_,_,_,_,o,_,_,e,_⟩:=x;exact eM e
 |dT kvs=>obtain⟨_,_,_,_,o,_,_,e,_⟩:=x;exact eM e
 |set S n=>obtain⟨o,_,_,_,e,_⟩:=x;exact eM e
 |ins C dx fs=>obtain⟨_,_,_,e,_⟩:=x;exact eM e
 |own y=>obtain⟨_,e⟩:=x;exact eM e
 |xd fs=>obtain⟨_,⟨_,_,_,e,_⟩,_⟩:=x;exact eM e
 |rng lo hi=>obtain⟨_,_,_,e⟩:=x;exact eM e
 |frz ob u=>obtain⟨e,_⟩:=x;exact eM e
 |tbl ps=>exact eM (show h.get? a=some _ from x)
 |met f y=>exact eM (show h.get? a=some _ from x)
 |ext φ=>obtain⟨_,⟨_,e⟩,_⟩:=x;exact eM e
theorem Paired.mapP{α β:Type}{F G:α→β→Prop}:∀{l₁:List α} {l₂:List β},Paired F l₁ l₂→(∀a b,F a b→G a b)→Paired G l₁ l₂
 |_,_,.nil,_=> .nil
 |_,_,.cons r t,f=> .cons (f _ _ r) (Paired.mapP t f)
theorem ObjOk.stay(x:ObjOk P w H h a o)(k:∀b u,(b=a∨H b=some (.own a))→h.get? b=some u→h'.get? b=some u)
  (ho:∀b,H b=some (.own a)→H' b=some (.own a)) (ht:∀b xs,H b=some (.tup xs)→H' b=some (.tup xs)):ObjOk P w H' h' a o:=by
 induction o with
 |lst xs=>obtain⟨z,its,n,r,e⟩:=x;exact⟨z,its,n,r,k _ _ (.inl rfl) e⟩
 |tup xs=>obtain⟨z,its,r,ob,e,c⟩:=x;exact⟨z,its,r,ob,k _ _ (.inl rfl) e,c⟩
 |dK kvs=>obtain⟨z,y,vs,r,ob,es,ep,e,c⟩:=x;exact⟨z,y,vs,r,ob,es,ep,k _ _ (.inl rfl) e,c⟩
 |dT kvs=>
  obtain⟨z,y,xs,r,ob,es,ep,e,c⟩:=x
  exact⟨z,y,xs,Paired.mapP r fun p q z=> ⟨z.1,ht _ _ z.2.1,z.2.2⟩,ob,es,ep,k _ _ (.inl rfl) e,c⟩
 |set S n=>obtain⟨ob,es,ep,t,e,c⟩:=x;exact⟨ob,es,ep,t,k _ _ (.inl rfl) e,c⟩
 |ins C dx fs=>
  obtain⟨d,z,ne,e,mA,⟨od,es,ep,e2,c⟩,r⟩:=x
  exact⟨ho _ d,z,ne,k _ _ (.inl rfl) e,mA,⟨od,es,ep,k _ _ (.inr d) e2,c⟩,r⟩
 |own y=>obtain⟨ob,e⟩:=x;exact⟨ob,k _ _ (.inl rfl) e⟩
 |xd fs=>obtain⟨mA,⟨od,es,ep,e,c⟩,r⟩:=x;exact⟨mA,⟨od,es,ep,k _ _ (.inl rfl) e,c⟩,r⟩
 |rng lo hi=>obtain⟨t,u,v,e⟩:=x;exact⟨t,u,v,k _ _ (.inl rfl) e⟩
 |frz ob u ih=>obtain⟨e,q⟩:=x;exact⟨k _ _ (.inl rfl) e,ih q⟩
 |tbl ps=>
  have e:h.get? a=some {cls:=.none,data:=.fields ps}:=x
  show h'.get? a=some {cls:=.none,data:=.fields ps}
  exact k a _ (.inl rfl) e
 |met f y=>
  have e:h.get? a=some (lX (.ref f) (.ref y)):=x
  show h'.get? a=some (lX (.ref f) (.ref y))
  exact k a _ (.inl rfl) e
 |ext φ=>obtain⟨p,⟨o,e⟩,st⟩:=x;exact⟨st _ _ p fun o q=>k _ _ (.inl rfl) q,⟨o,k _ _ (.inl rfl) e⟩,st⟩
theorem HOk.lt(x:HOk P w H h)(e:H a=some o):a<h.objs.size:=(x a o e).lt
theorem HOk.fresh(x:HOk P w H h)(e:h.objs.size≤a):H a=none:=by
 cases q:H a with
 |none=>rfl
 |some u=>exact absurd (eX (x.lt q) e) (gw _)
theorem HOk.kept(x:HOk P w H h)(k:∀b u,h.get? b=some u→h'.get? b=some u):HOk P w H h':=fun a o e=>
 (x a o e).stay (fun b u _ q=>k b u q) (fun _ q=>q) fun _ _ q=>q
theorem HOk.laid(x:HOk P w H h)(k:∀b u,h.get? b=some u→h'.get? b=some u)(hp:h.objs.size≤a)(new:ObjOk P w (upd H a o) h' a o):HOk P w (upd H a o) h':=fun b u e=>by
 have hn:=x.fresh hp
 by_cases hb:b=a
 ·subst hb;rw[AW] at e;cases e;exact new
 ·rw[AX hb] at e
  exact(x b u e).stay (fun c v _ q=>k c v q) (fun c q=>by rw[AX (AU q hn)];exact q) fun c xs q=>by rw[AX (AU q hn)];exact q
end
def Rd(H:Hp)(a:Addr)(u:HO):Prop:=H a=some u∨∃o,H a=some (.frz o u)
theorem Rd.ok{P:Program}{w:World}{H:Hp}{h:Heap}{a:Addr}{u:HO}(r:Rd H a u)(x:HOk P w H h):ObjOk P w H h a u:=by
 rcases r with r| ⟨o,r⟩
 ·exact x a u r
 ·obtain⟨_,q⟩:=x a _ r
  exact q
def aY:Option HO→Prop
 |some (.lst _)=>True
 |some (.dK _)=>True
 |some (.dT _)=>True
 |some (.set _ _)=>True
 |some (.ins _ _ _)=>True
 |some (.ext _)=>True
 |_=>False
section
variable{P:Program}{w:World}{H:Hp}{h h':Heap}{x e:Addr}{o':HO}
theorem HOk.write(ok:HOk P w H h)(mu:aY (H x))(he:e=x∨H e=some (.own x))(k:∀b u,b≠e→h.get? b=some u→h'.get? b=some u)(heo:∃u,h'.get? e=some u)
  (new:ObjOk P w (upd H x o') h' x o'):HOk P w (upd H x o') h':=fun b u q=>by
 have nown:∀c y,H c=some (.own y)→c≠x:=fun c y r z=>by subst z;rw[r] at mu;exact mu
 have ntup:∀c xs,H c=some (.tup xs)→c≠x:=fun c xs r z=>by subst z;rw[r] at mu;exact mu
 by_cases hb:b=x
 ·subst hb;rw[AW] at q;cases q;exact new
 ·rw[AX hb] at q
  by_cases hbe:b=e
  ·have q':H b=some (.own x):=by
    rcases he with z|z
    ·exact absurd (hbe.trans z) hb
    ·rw[hbe];exact z
   rw[q] at q';cases q'
   obtain⟨v,hv⟩:=heo
   exact⟨v,by rw[hbe];exact hv⟩
  ·refine(ok b u q).stay (fun c v hc r=>k c v ?_ r) (fun c r=>by rw[AX (nown c b r)];exact r) fun c xs r=>by rw[AX (ntup c xs r)];exact r
   rcases hc with rfl|hc
   ·exact hbe
   ·rintro rfl
    rcases he with z|z
    ·exact nown c b hc z
    ·rw[hc] at z;cases z;exact hb rfl
end
structure Un(fs ex:List Addr)(H H':Hp)(h h':Heap):Prop where
 keep:∀b o,h.get? b=some o→H b=none→b∉fs→b∉ex→h'.get? b=some o
 slot:∀b o,h.get? b=some o→H b=none→b∈fs→b∉ex→∃sl,h'.get? b=some {o with slots:=sl}
 free:∀b o,h.get? b=some o→H b=none→b∉ex→H' b=none
 there:∀b o,h.get? b=some o→b∉ex→∃o',h'.get? b=some o'
 tups:∀b xs,H b=some (.tup xs)→H' b=some (.tup xs)
 frzs:∀b o u,H b=some (.frz o u)→H' b=some (.frz o u)
 tbls:∀b ps,H b=some (.tbl ps)→∃more,H' b=some (.tbl (ps++more))
section
variable{fs fs' ex ex':List Addr}{H H1 H2:Hp}{h h1 h2 h':Heap}{a x e:Addr}{o:HO}
theorem Un.any(u:Un fs ex H H1 h h1){b:Addr}{ob:Obj}(q:h.get? b=some ob)(n:H b=none)(hx:b∉ex):∃sl,h1.get? b=some {ob with slots:=sl}:=by
 by_cases hb:b∈fs
 ·exact u.slot b ob q n hb hx
 ·exact⟨ob.slots,u.keep b ob q n hb hx⟩
theorem Un.kept(k:∀b u,h.get? b=some u→h'.get? b=some u):Un fs ex H H h h':=
 ⟨fun b ob q _ _ _=>k b ob q,fun b ob q _ _ _=> ⟨ob.slots,k b ob q⟩,fun _ _ _ n _=>n,fun b ob q _=> ⟨ob,k b ob q⟩,fun _ _ q=>q,fun _ _ _ q=>q,fun _ ps q=> ⟨#[],by rw[q];simp⟩⟩
theorem Un.refl:Un fs ex H H h h:=Un.kept fun _ _ q=>q
theorem Un.laid(k:∀b u,h.get? b=some u→h'.get? b=some u)(hp:h.objs.size≤a)(hn:H a=none):Un fs ex H (upd H a o) h h' where
 keep:=fun b u q _ _ _=>k b u q
 slot:=fun b u q _ _ _=> ⟨u.slots,k b u q⟩
 free:=fun b u q n _=>by rw[AX (fb (eX (eM q) hp))];exact n
 there:=fun b u q _=> ⟨u,k b u q⟩
 tups:=fun b xs q=>by rw[AX (AU q hn)];exact q
 frzs:=fun b u xs q=>by rw[AX (AU q hn)];exact q
 tbls:=fun b ps q=> ⟨#[],by rw[AX (AU q hn),q];simp⟩
theorem Un.write(mu:aY (H x))(he:e=x∨H e=some (.own x))(k:∀b u,b≠e→h.get? b=some u→h'.get? b=some u)(heo:∃u,h'.get? e=some u):Un fs ex H (upd H x o) h h':=by
 have hx:∀b,H b=none→b≠x:=fun b n z=>by subst z;rw[n] at mu;exact mu
 have hb:∀b,H b=none→b≠e:=fun b n z=>by
  subst z
  rcases he with r|r
  ·exact hx b n r
  ·rw[n] at r;cases r
 have hm:∀b u,H b=some u→¬aY (some u)→b≠x:=fun b u q nm z=>by subst z;rw[q] at mu;exact nm mu
 refine⟨fun b u q n _ _=>k b u (hb b n) q,fun b u q n _ _=> ⟨u.slots,k b u (hb b n) q⟩,fun b u q n _=>by rw[AX (hx b n)];exact n,fun b u q _=>?_,
  fun b xs q=>by rw[AX (hm b _ q fun z=>z)];exact q,fun b u xs q=>by rw[AX (hm b _ q fun z=>z)];exact q,fun b ps q=> ⟨#[],by rw[AX (hm b _ q fun z=>z),q];simp⟩⟩
 by_cases hbe:b=e
 ·subst hbe;exact heo
 ·exact⟨u,k b u hbe q⟩
end
def aZ(h:Heap)(H:Hp):List Addr:=(eW h.objs.size).filter fun a=> (H a).isSome
def JQ(h:Heap)(H:Hp):Heap:=kg h (aZ h H)
theorem Od(h:Heap)(H:Hp):(JQ h H).objs.size=h.objs.size:=PySem.W.hideAll_size _ _
theorem Pq{h:Heap}{H:Hp}{b:Addr}{o:Obj}(e:h.get? b=some o)(n:H b=none):(JQ h H).get? b=some o:=
 jy _ e fun hm=>by
  have q:(H b).isSome=true:=(fD.mp hm).2
  rw[n] at q;simp at q
theorem Sn{h:Heap}{H:Hp}{b:Addr}{o:Obj}(e:(JQ h H).get? b=some o):h.get? b=some o∧H b=none:=by
 have e':h.get? b=some o:=kj (aZ h H) e
 refine⟨e',?_⟩
 cases q:H b with
 |none=>rfl
 |some x=>
  have hm:b∈aZ h H:=fD.mpr ⟨fy.mpr (eM e'),by simp[q]⟩
  have z:(JQ h H).get? b=none:=PySem.W.hideAll_none (aZ h H) hm
  rw[z] at e;cases e
structure Mod(K:a8)(mg:Str→Option Value)(base:Heap):Prop where
 kin:K.In base
 glob:base.Ns gT mg
 blt:∃mb,base.Ns nT mb∧∀x:Str,x≠"__name__"→mb x=fw x
 nolimit:base.NoLimit
structure Cx where
 prog:Program
 w:World
 K:a8
 mg:Str→Option Value
 base:Heap
 A:eU
 N:List Str
 s₀:a9
 H₀:Hp
 env:Env
 outer:List Env
 stack:List Env
 ex:List Addr
 fn:Str→Bool
 calm:Bool
 pn:List (Addr×Obj)
 xe:Value→a9→Prop
def IG(l:List Env):List Addr:=l.filterMap (·.frame)
abbrev Cx.fs(X:Cx):List Addr:=IG X.outer
def YR(sc:Scope)(x:Str):Prop:=sc.names.lookup x=some .local∨sc.names.lookup x=some .cell∨sc.names.lookup x=some .free
def Po(sc:Scope)(x:Str):Prop:=sc.names.lookup x=some .local∨sc.names.lookup x=some .cell
def av(env:Env)(h:Heap)(m:Str→Option Value)(x:Str)(u:Value):Prop:=
 (env.kindOf x=some .local∧m x=some u)∨((env.kindOf x=some .cell∨env.kindOf x=some .free)∧∃c,env.cells.lookup x=some c∧h.IsCell c (some u))
structure Cx.Ok(X:Cx):Prop where
 mod:Mod X.K X.mg X.base
 kind:X.env.scope.kind=.function
 glob:X.env.globals=gT
 blt:X.env.builtins=nT
 above:X.s₀.heap.objs.size≤X.env.locals
 inj:∀x y c,X.env.cells.lookup x=some c→X.env.cells.lookup y=some c→x=y
 has:∀x,(X.env.kindOf x=some .cell∨X.env.kindOf x=some .free)→∃c,X.env.cells.lookup x=some c
 cab:∀x c,X.fn x=true→X.env.cells.lookup x=some c→X.s₀.heap.objs.size≤c
 hd:X.calm=true→X.A.handled=none
 frames:X.A.frames=some X.stack
 stk:X.stack=X.outer∨(X.stack=X.env::X.outer∧X.env.frame=some X.env.locals)
 exf:∀b∈X.ex,b≠X.env.locals∧∀x c,X.env.cells.lookup x=some c→c≠b
 bs:∀b o,X.base.get? b=some o→X.s₀.heap.get? b=some o∧X.H₀ b=none
 bsz:X.base.objs.size≤X.s₀.heap.objs.size
 noex:∀b o,X.base.get? b=some o→b∉X.ex
 exfs:∀b∈X.ex,b∉X.fs
 funs:X.s₀.heap.FunFrames X.base X.outer
 frf:∀b∈X.fs,X.H₀ b=none
structure Inv(X:Cx)(pins:List (Addr×Obj))(σ:List (Option V))(H:Hp)(s:a9):Prop where
 ok:X.Ok
 os:s.os=X.s₀.os
 bare:lG s.gens
 base:Un X.fs X.ex X.H₀ H X.s₀.heap s.heap
 loc:∃m,s.heap.Ns X.env.locals m∧∀(i:Nat) (x:Str) (v:V),X.N[i]?=some x→σ[i]?=some (some v)→YR X.env.scope x→∃u,RelV v u∧av X.env s.heap m x u
 cell:∀x c,X.env.cells.lookup x=some c→∃v,s.heap.IsCell c v
 free:H X.env.locals=none
 freeC:∀x c,X.env.cells.lookup x=some c→H c=none
 pin:∀p∈X.pn++pins,s.heap.get? p.1=some p.2∧H p.1=none∧p.1≠X.env.locals∧p.1∉X.fs∧∀v,p.2.data≠.cell v
 hok:HOk X.prog X.w H s.heap
 len:σ.length=X.N.length
section
variable{X:Cx}{pins:List (Addr×Obj)}{σ:List (Option V)}{H H':Hp}{s:a9}{h':Heap}
theorem Cx.Ok.nofr(ok:X.Ok){b:Addr}{o:Obj}(e:X.base.get? b=some o):b∉X.fs:=fun hb=>by
 have:=(ok.funs.mem hb).1
 rw[e] at this;cases this
theorem Inv.bs(I:Inv X pins σ H s):∀b o,X.base.get? b=some o→s.heap.get? b=some o∧H b=none:=fun b o e=>
 ⟨I.base.keep b o (I.ok.bs b o e).1 (I.ok.bs b o e).2 (I.ok.nofr e) (I.ok.noex b o e),I.base.free b o (I.ok.bs b o e).1 (I.ok.bs b o e).2 (I.ok.noex b o e)⟩
theorem Inv.bk(I:Inv X pins σ H s):∀b o,X.base.get? b=some o→s.heap.get? b=some o:=fun b o e=> (I.bs b o e).1
theorem Inv.mod(I:Inv X pins σ H s):Mod X.K X.mg X.base:=I.ok.mod
theorem Inv.kIn(I:Inv X pins σ H s):X.K.In s.heap:=I.ok.mod.kin.keeps I.bk
theorem Inv.lt(I:Inv X pins σ H s):X.env.locals<s.heap.objs.size:=let⟨_,hn,_⟩:=I.loc;hn.lt
theorem Inv.sz(I:Inv X pins σ H s):X.s₀.heap.objs.size≤s.heap.objs.size:=fo I.ok.above (iC I.lt)
theorem Inv.nofs(I:Inv X pins σ H s){a:Addr}(h:s.heap.objs.size≤a):a∉X.fs:=fun hb=>by
 obtain⟨_,o,ho,_⟩:=I.ok.funs.mem hb
 exact absurd (eX (eM ho) (fo I.sz h)) (gw _)
theorem Inv.cne(I:Inv X pins σ H s):∀x c,X.env.cells.lookup x=some c→c≠X.env.locals:=fun x c e z=>by
 obtain⟨v,o,ho,hd⟩:=I.cell x c e
 obtain⟨m,⟨o',es,ep,ho',hd',_⟩,_⟩:=I.loc
 rw[z,ho'] at ho;cases ho;rw[hd'] at hd;cases hd
theorem Inv.funs(I:Inv X pins σ H s):s.heap.FunFrames X.base X.outer:=by
 have all:∀(l:List Env),(∀b∈IG l,b∈X.fs)→X.s₀.heap.FunFrames X.base l→s.heap.FunFrames X.base l:=by
  intro l
  induction l with
  |nil=>intro _ _;trivial
  |cons env r ih=>
   intro hs hl
   obtain⟨hk,⟨L,o,hf,hn,ho,hd⟩,hr⟩:=hl
   have hL:L∈X.fs:=hs L (by unfold IG;rw[gD,hf];exact eY)
   obtain⟨sl,e⟩:=I.base.slot L o ho (I.ok.frf L hL) hL fun z=>I.ok.exfs L z hL
   exact⟨hk,⟨L,_,hf,hn,e,hd⟩,ih (fun b hb=>hs b (by unfold IG;rw[gD,hf];exact eF _ hb)) hr⟩
 exact all X.outer (fun _ hb=>hb) I.ok.funs
theorem Inv.stack(I:Inv X pins σ H s):s.heap.FunFrames X.base X.stack:=by
 rcases I.ok.stk with e| ⟨e,hf⟩
 ·rw[e];exact I.funs
 ·rw[e]
  obtain⟨m,hn,_⟩:=I.loc
  refine .cons (by rw[I.ok.kind];decide) hf hn ?_ I.funs
  exact Heap.get?_none_of_le (fo I.ok.bsz I.ok.above)
theorem Inv.stkSub(I:Inv X pins σ H s):∀b∈IG X.stack,b∈X.env.locals::X.fs:=fun b hb=>by
 rcases I.ok.stk with e| ⟨e,hf⟩
 ·rw[e] at hb;exact eF _ hb
 ·rw[e] at hb
  unfold IG at hb
  rw[gD,hf] at hb
  exact hb
theorem Inv.stkFree(I:Inv X pins σ H s):∀b∈IG X.stack,H b=none:=fun b hb=>by
 rcases eJ.mp (I.stkSub b hb) with e|hb
 ·rw[e];exact I.free
 ·obtain⟨_,o,ho,_⟩:=I.ok.funs.mem hb
  exact I.base.free b o ho (I.ok.frf b hb) fun z=>I.ok.exfs b z hb
theorem Inv.step{g':Array GenState}{t':Nat}{d':Drawn}{ch:List Addr}(I:Inv X pins σ H s)
  (hch:∀b∈ch,(b∈X.ex∨X.s₀.heap.objs.size≤b)∧b≠X.env.locals∧(∀x c,X.env.cells.lookup x=some c→c≠b)∧∀p∈X.pn++pins,p.1≠b)
  (keep:∀b o,b≠X.env.locals→b∉X.fs→b∉ch→s.heap.get? b=some o→H b=none→h'.get? b=some o)
  (slot:∀b o,b≠X.env.locals→b∈X.fs→b∉ch→s.heap.get? b=some o→H b=none→∃sl,h'.get? b=some {o with slots:=sl}) (free:∀b o,b∉ch→s.heap.get? b=some o→H b=none→H' b=none)
  (there:∀b o,b∉ch→s.heap.get? b=some o→∃o',h'.get? b=some o')
  (tups:∀b xs,H b=some (.tup xs)→H' b=some (.tup xs)) (frzs:∀b o u,H b=some (.frz o u)→H' b=some (.frz o u)) (tbls:∀b ps,H b=some (.tbl ps)→∃more,H' b=some (.tbl (ps++more)))
  (ns:∀m,s.heap.Ns X.env.locals m→h'.Ns X.env.locals m) (hok:HOk X.prog X.w H' h') (hg:lG g'):
  Inv X pins σ H' {s with heap:=h',gens:=g',drawn:=d',toks:=t'}:=by
 have neL:∀b o,X.s₀.heap.get? b=some o→b≠X.env.locals:=fun b o e=>fb (eX (eM e) I.ok.above)
 have neC:∀b o,X.s₀.heap.get? b=some o→b∉X.ex→b∉ch:=fun b o e hx hb=>by
  rcases(hch b hb).1 with z|z
  ·exact hx z
  ·exact absurd (eX (eM e) z) (gw _)
 have cellK:∀x c,X.env.cells.lookup x=some c→∀v,s.heap.IsCell c v→h'.IsCell c v:=fun x c e v ⟨o,ho,hd⟩=>by
  have nch:c∉ch:=fun z=> (hch c z).2.2.1 x c e rfl
  by_cases hc:c∈X.fs
  ·obtain⟨sl,q⟩:=slot c o (I.cne x c e) hc nch ho (I.freeC x c e)
   exact⟨_,q,hd⟩
  ·exact⟨o,keep c o (I.cne x c e) hc nch ho (I.freeC x c e),hd⟩
 refine⟨I.ok,I.os,hg,⟨fun b o e n hb hx=>?_,fun b o e n hb hx=>?_,fun b o e n hx=>?_,fun b o e hx=>?_,fun b xs e=>tups b xs (I.base.tups b xs e),fun b o xs e=>frzs b o xs (I.base.frzs b o xs e),fun b ps e=>?_⟩,?_,fun x c e=>?_,?_,fun x c e=>?_,fun p hp=>?_,hok,I.len⟩
 ·exact keep b o (neL b o e) hb (neC b o e hx) (I.base.keep b o e n hb hx) (I.base.free b o e n hx)
 ·obtain⟨sl,e1⟩:=I.base.slot b o e n hb hx
  obtain⟨sl',e2⟩:=slot b _ (neL b o e) hb (neC b o e hx) e1 (I.base.free b o e n hx)
  exact⟨sl',e2⟩
 ·obtain⟨o',e1⟩:=I.base.there b o e hx
  exact free b o' (neC b o e hx) e1 (I.base.free b o e n hx)
 ·obtain⟨o',e1⟩:=I.base.there b o e hx
  exact there b o' (neC b o e hx) e1
 ·obtain⟨m1,e1⟩:=I.base.tbls b ps e
  obtain⟨m2,e2⟩:=tbls b _ e1
  exact⟨m1++m2,by rw[e2,Array.append_assoc]⟩
 ·obtain⟨m,hn,hl⟩:=I.loc
  refine⟨m,ns m hn,fun i x v e1 e2 e3=>?_⟩
  obtain⟨u,r,l⟩:=hl i x v e1 e2 e3
  refine⟨u,r,?_⟩
  rcases l with l| ⟨k,c,e,z⟩
  ·exact .inl l
  ·exact .inr ⟨k,c,e,cellK x c e _ z⟩
 ·obtain⟨v,z⟩:=I.cell x c e
  exact⟨v,cellK x c e v z⟩
 ·obtain⟨m,⟨o,_,_,ho,_⟩,_⟩:=I.loc
  exact free _ o (fun z=> (hch _ z).2.1 rfl) ho I.free
 ·obtain⟨v,o,ho,hd⟩:=I.cell x c e
  exact free c o (fun z=> (hch c z).2.2.1 x c e rfl) ho (I.freeC x c e)
 ·obtain⟨e,n,ne,nf,d⟩:=I.pin p hp
  have nch:p.1∉ch:=fun z=> (hch p.1 z).2.2.2 p hp rfl
  exact⟨keep p.1 p.2 ne nf nch e n,free p.1 p.2 nch e n,ne,nf,d⟩
theorem Inv.un{t':Nat}(I:Inv X pins σ H s)(u:Un X.fs [] H H' s.heap h')(hok:HOk X.prog X.w H' h'):Inv X pins σ H' {s with heap:=h',toks:=t'}:=by
 obtain⟨m,⟨o,es,ep,ho,r⟩,_⟩:=id I.loc
 obtain⟨sl,hL⟩:=u.any ho I.free (by simp)
 exact I.step (g':=s.gens) (d':=s.drawn) (ch:=[]) (fun _ z=>nomatch z) (fun b o _ hb _ e n=>u.keep b o e n hb (by simp)) (fun b o _ hb _ e n=>u.slot b o e n hb (by simp)) (fun b o _ e n=>u.free b o e n (by simp)) (fun b o _ e=>u.there b o e (by simp)) u.tups u.frzs u.tbls (fun m' hm=>by
  obtain⟨o',es',ep',ho',r'⟩:=hm
  rw[ho] at ho';cases ho'
  exact⟨_,es',ep',hL,r'⟩) hok I.bare
theorem Inv.call{g':Array GenState}{t':Nat}{d':Drawn}{ch:List Addr}(I:Inv X pins σ H s)(u:Un (IG X.stack) ch H H' s.heap h')(hok:HOk X.prog X.w H' h')(hg:lG g')
  (hch:∀b∈ch,(b∈X.ex∨X.s₀.heap.objs.size≤b)∧b≠X.env.locals∧(∀x c,X.env.cells.lookup x=some c→c≠b)∧∀p∈X.pn++pins,p.1≠b):
  Inv X pins σ H' {s with heap:=h',gens:=g',drawn:=d',toks:=t'}:=by
 obtain⟨m,⟨o,es,ep,ho,r⟩,_⟩:=id I.loc
 obtain⟨sl,hL⟩:=u.any ho I.free fun z=> (hch _ z).2.1 rfl
 exact I.step (ch:=ch) hch (fun b o hL hb hc e n=>u.keep b o e n (fun z=> (eJ.mp (I.stkSub b z)).elim hL hb) hc) (fun b o _ _ hc e n=>u.any e n hc) (fun b o hc e n=>u.free b o e n hc) (fun b o hc e=>u.there b o e hc) u.tups u.frzs u.tbls (fun m' hm=>by
  obtain⟨o',es',ep',ho',r'⟩:=hm
  rw[ho] at ho';cases ho'
  exact⟨_,es',ep',hL,r'⟩) hok hg
theorem Inv.turned{t':Nat}{it:Addr}(I:Inv X pins σ H s)(k:∀b o,b≠it→s.heap.get? b=some o→h'.get? b=some o)(hn:H it=none)(hL:it≠X.env.locals)
  (h1:it∈X.ex∨X.s₀.heap.objs.size≤it) (h2:∀x c,X.env.cells.lookup x=some c→c≠it) (h3:∀p∈X.pn++pins,p.1≠it):Inv X pins σ H {s with heap:=h',toks:=t'}:=by
 have nit:∀b u,H b=some u→b≠it:=fun b u e z=>by rw[z,hn] at e;cases e
 refine I.step (g':=s.gens) (d':=s.drawn) (ch:=[it]) (fun b hb=>?_) (fun b o _ _ hc e _=>k b o (fun z=>hc (by simp[z])) e) (fun b o _ _ hc e _=> ⟨o.slots,k b o (fun z=>hc (by simp[z])) e⟩) (fun _ _ _ _ n=>n)
  (fun b o hc e=> ⟨o,k b o (fun z=>hc (by simp[z])) e⟩) (fun _ _ e=>e) (fun _ _ _ e=>e) (fun b ps e=> ⟨#[],by rw[e];simp⟩) (fun m hm=>?_) (fun b u e=>?_) I.bare
 ·have e:b=it:=by simpa using hb
  subst e
  exact⟨h1,hL,h2,h3⟩
 ·obtain⟨o,es,ep,ho,r⟩:=hm
  exact⟨o,es,ep,k _ o (Ne.symm hL) ho,r⟩
 ·refine(I.hok b u e).stay (fun c v hc q=>k c v ?_ q) (fun _ q=>q) fun _ _ q=>q
  rcases hc with z|z
  ·rw[z];exact nit b u e
  ·exact nit c _ z
theorem Inv.tok(I:Inv X pins σ H s)(t:Nat):Inv X pins σ H {s with toks:=t}:=I.un (h':=s.heap) (t':=t) Un.refl I.hok
theorem Inv.kept{t':Nat}(I:Inv X pins σ H s)(k:∀b u,s.heap.get? b=some u→h'.get? b=some u):Inv X pins σ H {s with heap:=h',toks:=t'}:=I.un (Un.kept k) (I.hok.kept k)
theorem Inv.laid{a:Addr}{o:HO}{t':Nat}(I:Inv X pins σ H s)(k:∀b u,s.heap.get? b=some u→h'.get? b=some u)(hp:s.heap.objs.size≤a)(new:ObjOk X.prog X.w (upd H a o) h' a o):
  Inv X pins σ (upd H a o) {s with heap:=h',toks:=t'}:=I.un (Un.laid k hp (I.hok.fresh hp)) (I.hok.laid k hp new)
theorem Inv.write{x e:Addr}{o:HO}{t':Nat}(I:Inv X pins σ H s)(mu:aY (H x))(he:e=x∨H e=some (.own x))(k:∀b u,b≠e→s.heap.get? b=some u→h'.get? b=some u)(heo:∃u,h'.get? e=some u)
  (new:ObjOk X.prog X.w (upd H x o) h' x o):Inv X pins σ (upd H x o) {s with heap:=h',toks:=t'}:=I.un (Un.write mu he k heo) (I.hok.write mu he k heo new)
theorem Inv.weak{σ':List (Option V)}(I:Inv X pins σ H s)(hl:σ'.length=σ.length)(w:∀(i:Nat) v,σ'[i]?=some (some v)→σ[i]?=some (some v)):Inv X pins σ' H s:=
 ⟨I.ok,I.os,I.bare,I.base,let⟨m,hn,hl'⟩:=I.loc;⟨m,hn,fun i x v e1 e2 e3=>hl' i x v e1 (w i v e2) e3⟩,I.cell,I.free,I.freeC,I.pin,I.hok,hl.trans I.len⟩
theorem Inv.pins_of{pins':List (Addr×Obj)}(I:Inv X pins σ H s)(h:∀p∈pins',s.heap.get? p.1=some p.2∧H p.1=none∧p.1≠X.env.locals∧p.1∉X.fs∧∀v,p.2.data≠.cell v):Inv X pins' σ H s:=
 ⟨I.ok,I.os,I.bare,I.base,I.loc,I.cell,I.free,I.freeC,fun p hp=> (eO.mp hp).elim (fun z=>I.pin p (gK _ z)) (h p),I.hok,I.len⟩
theorem Kh{N:List Str}(hN:N.Nodup){i j:Nat}{x:Str}(a:N[i]?=some x)(b:N[j]?=some x):i=j:=by
 obtain⟨h1,e1⟩:=eB.mp a
 obtain⟨h2,e2⟩:=eB.mp b
 exact(List.getElem_inj hN).mp (e1.trans e2.symm)
theorem IV{M:Model}{A:eU}{E:Value→a9→Prop}{i:Nat}{x:Str}{v:V}{u:Value}{Q:Unit→a9→Prop}(I:Inv X pins σ H s)(hN:X.N.Nodup)(hi:X.N[i]?=some x)(hx:Po X.env.scope x)(r:RelV v u)
  (h:∀s',Inv X pins (σ.set i (some v)) H s'→(∃a,iI a s.heap s'.heap∧(a=X.env.locals∨X.env.cells.lookup x=some a))→Q () s') (hf:X.fn x=true∨X.env.scope.names.lookup x=some .local:=by first|exact .inl rfl|exact .inr rfl|assumption):wpAny M A (storeName X.env x u) Q E s:=by
 obtain⟨m,hn,hl⟩:=id I.loc
 have hcls:(X.env.scope.kind==.class|| (X.env.scope.kind==.module&&X.env.locals !=X.env.globals))=false:=by rw[I.ok.kind];rfl
 have hiσ:i<σ.length:=by rw[I.len];exact(eB.mp hi).1
 have cne:=I.cne
 have tracked:∀{a:Addr} {h':Heap},(∃o,s.heap.get? a=some o∧H a=none)→iI a s.heap h'→HOk X.prog X.w H h':=fun{a h'} ha hs b ob e=>by
  obtain⟨_,_,hfree⟩:=ha
  refine(I.hok b ob e).stay (fun c w' hc q=> (hs.2 c ?_).trans q) (fun _ q=>q) fun _ _ q=>q
  rintro rfl
  rcases hc with rfl|hc
  ·rw[hfree] at e;cases e
  ·rw[hfree] at hc;cases hc
 rcases hx with hk|hk
 ·refine wpAny_storeName_local hk hn (fun h' hn' hs=>?_) hcls
  obtain⟨oL,_,_,hoL,_⟩:=id hn
  refine h _ ⟨I.ok,I.os,I.bare,⟨fun b o e n hb hx=>?_,fun b o e n hb hx=>?_,I.base.free,fun b o e hx=>?_,I.base.tups,I.base.frzs,I.base.tbls⟩,⟨_,hn',fun j y v' e1 e2 e3=>?_⟩,fun y c e=>?_,I.free,I.freeC,fun p hp=>?_,tracked ⟨oL,hoL,I.free⟩ hs,by simpa using I.len⟩ ⟨_,hs,.inl rfl⟩
  ·exact(hs.2 b (fb (eX (eM e) I.ok.above))).trans (I.base.keep b o e n hb hx)
  ·obtain⟨sl,e1⟩:=I.base.slot b o e n hb hx
   exact⟨sl,(hs.2 b (fb (eX (eM e) I.ok.above))).trans e1⟩
  ·obtain⟨o',e1⟩:=I.base.there b o e hx
   exact⟨o',(hs.2 b (fb (eX (eM e) I.ok.above))).trans e1⟩
  ·by_cases hj:j=i
   ·subst hj
    rw[hi] at e1;cases e1
    rw[eZ hiσ] at e2
    cases e2
    exact⟨u,r,.inl ⟨hk,by simp⟩⟩
   ·rw[fc (Ne.symm hj)] at e2
    obtain⟨u',r',q⟩:=hl j y v' e1 e2 e3
    refine⟨u',r',?_⟩
    rcases q with⟨k,e⟩| ⟨k,c,e,z⟩
    ·refine .inl ⟨k,?_⟩
     have:y≠x:=fun e=>hj (Kh hN e1 (e▸hi))
     simp[this,e]
    ·exact .inr ⟨k,c,e,z.sameBut hs (cne y c e)⟩
  ·obtain⟨w',z⟩:=I.cell y c e
   exact⟨w',z.sameBut hs (cne y c e)⟩
  ·obtain⟨e,n,ne,nf,d⟩:=I.pin p hp
   exact⟨(hs.2 p.1 ne).trans e,n,ne,nf,d⟩
 ·have hfn:X.fn x=true:=by
   rcases hf with z|z
   ·exact z
   ·rw[z] at hk;cases hk
  obtain⟨c,hc⟩:=I.ok.has x (.inl hk)
  obtain⟨w',z⟩:=I.cell x c hc
  refine wpAny_storeName_cell I.ok.kind hk hc z (fun h' hc' hs=>?_)
  obtain⟨oc,hoc,hocd⟩:=id z
  refine h {s with heap:=h'} ⟨I.ok,I.os,I.bare,⟨fun b o e n hb hx=>?_,fun b o e n hb hx=>?_,I.base.free,fun b o e hx=>?_,I.base.tups,I.base.frzs,I.base.tbls⟩,⟨m,hn.sameBut hs (Ne.symm (cne x c hc)),fun j y v' e1 e2 e3=>?_⟩,fun y c' e=>?_,I.free,I.freeC,fun p hp=>?_,tracked ⟨oc,hoc,I.freeC x c hc⟩ hs,by simpa using I.len⟩ ⟨c,hs,.inr hc⟩
  ·exact(hs.2 b (fb (eX (eM e) (I.ok.cab x c hfn hc)))).trans (I.base.keep b o e n hb hx)
  ·obtain⟨sl,e1⟩:=I.base.slot b o e n hb hx
   exact⟨sl,(hs.2 b (fb (eX (eM e) (I.ok.cab x c hfn hc)))).trans e1⟩
  ·obtain⟨o',e1⟩:=I.base.there b o e hx
   exact⟨o',(hs.2 b (fb (eX (eM e) (I.ok.cab x c hfn hc)))).trans e1⟩
  ·by_cases hj:j=i
   ·subst hj
    rw[hi] at e1;cases e1
    rw[eZ hiσ] at e2
    cases e2
    exact⟨u,r,.inr ⟨.inl hk,c,hc,hc'⟩⟩
   ·rw[fc (Ne.symm hj)] at e2
    obtain⟨u',r',q⟩:=hl j y v' e1 e2 e3
    refine⟨u',r',?_⟩
    rcases q with q| ⟨k,c',e,z'⟩
    ·exact .inl q
    ·refine .inr ⟨k,c',e,z'.sameBut hs ?_⟩
     rintro rfl
     exact hj (Kh hN e1 (I.ok.inj _ _ _ e hc▸hi))
  ·by_cases hcc:c'=c
   ·subst hcc;exact⟨_,hc'⟩
   ·obtain⟨w2,z2⟩:=I.cell y c' e
    exact⟨w2,z2.sameBut hs hcc⟩
  ·obtain⟨e,n,ne,nf,d⟩:=I.pin p hp
   refine⟨(hs.2 p.1 ?_).trans e,n,ne,nf,d⟩
   intro q
   rw[q,hoc] at e
   have q':oc=p.2:=gc.inj e
   exact d w' (by rw[←q'];exact hocd)
theorem Gg{M:Model}{A:eU}{E:Value→a9→Prop}{i:Nat}{x:Str}{v:V}{u:Value}{Q:Unit→a9→Prop}(I:Inv X pins σ H s)(hN:X.N.Nodup)(hi:X.N[i]?=some x)(hx:Po X.env.scope x)(r:RelV v u)
  (h:∀s',Inv X pins (σ.set i (some v)) H s'→Q () s') (hf:X.fn x=true∨X.env.scope.names.lookup x=some .local:=by first|exact .inl rfl|exact .inr rfl|assumption):wpAny M A (storeName X.env x u) Q E s:=
 IV I hN hi hx r (fun s' I' _=>h s' I') hf
theorem Inv.call'{s':a9}{ch:List Addr}(I:Inv X pins σ H s)(ho:s'.os=s.os)(u:Un (IG X.stack) ch H H' s.heap s'.heap)(hok:HOk X.prog X.w H' s'.heap)(hg:lG s'.gens)
  (hch:∀b∈ch,(b∈X.ex∨X.s₀.heap.objs.size≤b)∧b≠X.env.locals∧(∀x c,X.env.cells.lookup x=some c→c≠b)∧∀p∈X.pn++pins,p.1≠b):Inv X pins σ H' s':=by
 obtain⟨h',g',d',t',o'⟩:=s'
 have e:o'=s.os:=ho
 subst e
 exact I.call (g':=g') (t':=t') (d':=d') u hok hg hch
end
abbrev XK:=Value→Option Addr→Hp→Prop
abbrev St:=List (Option V)
abbrev VK:=V→Hp→Prop
abbrev TE:=St→Hp→VK→Prop
abbrev TT:=St→Hp→(Bool→Hp→Prop)→Prop
abbrev TA:=St→Hp→(List V→Hp→Prop)→Prop
structure Ends where
 nx:St→Hp→Prop
 rt:VK
 bk:St→Hp→Prop:=fun _ _=>False
 ct:St→Hp→Prop:=fun _ _=>False
abbrev TS:=Ends→St→Hp→Prop
def EP(X:Cx)(pins:List (Addr×Obj))(σ:St)(Q:VK)(u:Value)(s':a9):Prop:=∃v H',Inv X pins σ H' s'∧RelV v u∧Q v H'
def TP(X:Cx)(pins:List (Addr×Obj))(σ:St)(Q:Bool→Hp→Prop)(b:Bool)(s':a9):Prop:=∃H',Inv X pins σ H' s'∧Q b H'
def AP(X:Cx)(pins:List (Addr×Obj))(σ:St)(Q:List V→Hp→Prop)(us:List Value)(s':a9):Prop:=∃vs H',Inv X pins σ H' s'∧Vals vs us∧Q vs H'
def SP(X:Cx)(pins:List (Addr×Obj))(D:Ends)(f:Flow)(s':a9):Prop:=
 match f with
 | .next=>∃σ' H',Inv X pins σ' H' s'∧D.nx σ' H'
 | .brk=>∃σ' H',Inv X pins σ' H' s'∧D.bk σ' H'
 | .cont=>∃σ' H',Inv X pins σ' H' s'∧D.ct σ' H'
 | .ret u=>∃v σ' H',Inv X pins σ' H' s'∧RelV v u∧D.rt v H'
def PE(X:Cx)(e:Expr)(t:TE):Prop:=
 ∀(pins:List (Addr×Obj)) (s:a9) (σ:St) (H:Hp) (Q:VK),Inv X pins σ H s→t σ H Q→wpAny (model X.prog X.w) X.A (eval e X.env) (EP X pins σ Q) X.xe s
def PT(X:Cx)(e:Expr)(t:TT):Prop:=
 ∀(pins:List (Addr×Obj)) (s:a9) (σ:St) (H:Hp) (Q:Bool→Hp→Prop),Inv X pins σ H s→t σ H Q→wpAny (model X.prog X.w) X.A (isTrue e X.env (eval e X.env)) (TP X pins σ Q) X.xe s
def PW(X:Cx)(e:Expr)(t:TT):Prop:=
 ∀(whole:Sem Value) (pins:List (Addr×Obj)) (s:a9) (σ:St) (H:Hp) (Q:Bool→Hp→Prop),Inv X pins σ H s→t σ H Q→wpAny (model X.prog X.w) X.A (isTrue e X.env whole) (TP X pins σ Q) X.xe s
theorem PW.pt{X:Cx}{e:Expr}{t:TT}(h:PW X e t):PT X e t:=h _
def PA(X:Cx)(es:List Expr)(t:TA):Prop:=
 ∀(pos:Pos) (pins:List (Addr×Obj)) (s:a9) (σ:St) (H:Hp) (Q:List V→Hp→Prop),Inv X pins σ H s→t σ H Q→wpAny (model X.prog X.w) X.A (spliced (i7 pos (du es X.env))) (AP X pins σ Q) X.xe s
def PS(X:Cx)(st:Stmt)(t:TS):Prop:=
 ∀(pins:List (Addr×Obj)) (s:a9) (σ:St) (H:Hp) (D:Ends),Inv X pins σ H s→t D σ H→wpAny (model X.prog X.w) X.A (exec st X.env) (SP X pins D) X.xe s
def PSs(X:Cx)(st:List Stmt)(t:TS):Prop:=
 ∀(pins:List (Addr×Obj)) (s:a9) (σ:St) (H:Hp) (D:Ends),Inv X pins σ H s→t D σ H→wpAny (model X.prog X.w) X.A (execs st X.env) (SP X pins D) X.xe s
theorem BB{α:Type}{t:Sem α}{Q Q':α→a9→Prop}{M:Model}{A:eU}{E:Value→a9→Prop}{s:a9}(h:wpAny M A t Q E s)(hQ:∀a s,Q a s→Q' a s):wpAny M A t Q' E s:=jG h hQ fun _ _ x=>x
section
variable{X:Cx}
def YV(i:Nat):TE:=fun σ H Q=>∃v,σ[i]?=some (some v)∧Q v H
def tC(v:V):TE:=fun _ H Q=>Q v H
theorem Pt{i:Nat}{x:Str}{pos:Pos}(hN:X.N[i]?=some x)(hv:YR X.env.scope x)(hd:(x==("__debug__" :Str))=false:=by decide)(hcd:(x==("__classdict__" :Str))=false:=by decide):PE X (.Name x pos) (YV i):=by
 intro pins s σ H Q I h
 obtain⟨v,e,h⟩:=h
 obtain⟨m,hn,hl⟩:=I.loc
 obtain⟨u,r,l⟩:=hl i x v hN e hv
 have fin:EP X pins σ Q u s:=⟨v,H,I,r,h⟩
 rcases l with⟨hk,hm⟩| ⟨hk,c,hc,hcell⟩
 ·exact wpAny_Name (wpAny_loadName_local I.ok.kind hk hn hm fin) hd
 ·rcases hk with hk|hk
  ·exact wpAny_Name (wpAny_loadName_cell I.ok.kind hk hc hcell fin) hd
  ·exact wpAny_Name (wpAny_loadName_free I.ok.kind hk hc hcell fin hcd) hd
theorem ME{i j pos}:PE X (.Constant (.int i) j pos) (tC (.int i)):=fun _ _ _ H _ I h=>wpAny_Constant_int ⟨.int i,H,I.tok _,⟨_,rfl⟩,h⟩
theorem YW{b j pos}:PE X (.Constant (.bool b) j pos) (tC (.bl b)):=fun _ _ _ H _ I h=>Constant_bool ⟨.bl b,H,I,rfl,h⟩
theorem Vm{j pos}:PE X (.Constant .none j pos) (tC .non):=fun _ _ _ H _ I h=>Constant_none ⟨.non,H,I,rfl,h⟩
theorem Vn{x j pos}:PE X (.Constant (.str x) j pos) (tC (.str x)):=fun _ _ _ H _ I h=>Calls.Constant_str ⟨.str x,H,I.tok _,⟨_,rfl⟩,h⟩
def Gl(X:Cx)(x:Str):Prop:=X.env.kindOf x=some .globalImplicit
theorem NG{E:Value→a9→Prop}{pins:List (Addr×Obj)}{s:a9}{σ:St}{H:Hp}{x:Str}{u:Value}{pos:Pos}{Q:Value→a9→Prop}(I:Inv X pins σ H s)(hg:Gl X x)(hm:X.mg x=some u)(h:Q u s)
  (hd:(x==("__debug__" :Str))=false:=by decide):wpAny (model X.prog X.w) X.A (eval (.Name x pos) X.env) Q E s:=
 Calls.Name_function_global I.ok.kind hg (Calls.loadGlobal_global (by rw[I.ok.glob];exact I.mod.glob.keeps I.bk) hm h) hd
theorem EC{E:Value→a9→Prop}{pins:List (Addr×Obj)}{s:a9}{σ:St}{H:Hp}{x:Str}{u:Value}{pos:Pos}{Q:Value→a9→Prop}(I:Inv X pins σ H s)(hg:Gl X x)(hm:X.mg x=none)(hv:fw x=some u)(h:Q u s)
  (hn:x≠"__name__":=by decide) (hd:(x==("__debug__" :Str))=false:=by decide):wpAny (model X.prog X.w) X.A (eval (.Name x pos) X.env) Q E s:=by
 obtain⟨mb,h1,h2⟩:=I.mod.blt
 exact Calls.Name_function_global I.ok.kind hg (Calls.loadGlobal_builtin (by rw[I.ok.glob];exact I.mod.glob.keeps I.bk) hm (by rw[I.ok.blt];exact h1.keeps I.bk) ((h2 x hn).trans hv) h) hd
theorem So{x:Str}{v:V}{u:Value}{pos:Pos}(hg:Gl X x)(hm:X.mg x=some u)(r:RelV v u)(hd:(x==("__debug__" :Str))=false:=by decide):PE X (.Name x pos) (tC v):=
 fun _ _ _ H _ I h=>NG I hg hm ⟨v,H,I,r,h⟩ hd
theorem Sq{x:Str}{v:V}{u:Value}{pos:Pos}(hg:Gl X x)(hm:X.mg x=none)(hv:fw x=some u)(r:RelV v u)(hn:x≠"__name__":=by decide)(hd:(x==("__debug__" :Str))=false:=by decide):PE X (.Name x pos) (tC v):=
 fun _ _ _ H _ I h=>EC I hg hm hv ⟨v,H,I,r,h⟩ hn hd
variable{a b:Expr}{ta tb:TE}{pos:Pos}
variable{tA tB':TT}{rest:List Expr}
def aw(t u:TT):TT:=fun σ H Q=>t σ H fun c H1=>if c=true then u σ H1 Q else Q false H1
def cW(t u:TT):TT:=fun σ H Q=>t σ H fun c H1=>if c=true then Q true H1 else u σ H1 Q
def ay(t:TT):TT:=fun σ H Q=>t σ H fun c H1=>Q (!c) H1
theorem Sr(ha:PT X a tA):PW X (.BoolOp .And [a] pos) tA:=by
 intro wh pins s σ H Q I h
 refine isTrue_and (BB (ha pins s σ H Q I h) fun c s1 e=>?_)
 cases c with
 |true=>exact isTrue_and_nil e
 |false=>exact e
theorem Vo(ha:PT X a tA):PW X (.BoolOp .Or [a] pos) tA:=by
 intro wh pins s σ H Q I h
 refine isTrue_or (BB (ha pins s σ H Q I h) fun c s1 e=>?_)
 cases c with
 |false=>exact isTrue_or_nil e
 |true=>exact e
theorem Vp(ha:PT X a tA)(hb:PW X (.BoolOp .And (b::rest) pos) tB'):PW X (.BoolOp .And (a::b::rest) pos) (aw tA tB'):=by
 intro wh pins s σ H Q I h
 refine isTrue_and (BB (ha pins s σ H _ I h) fun c s1 ⟨H1,I1,q1⟩=>?_)
 cases c with
 |true=>exact hb wh pins s1 σ H1 Q I1 q1
 |false=>exact⟨H1,I1,q1⟩
theorem YX(ha:PT X a tA)(hb:PW X (.BoolOp .Or (b::rest) pos) tB'):PW X (.BoolOp .Or (a::b::rest) pos) (cW tA tB'):=by
 intro wh pins s σ H Q I h
 refine isTrue_or (BB (ha pins s σ H _ I h) fun c s1 ⟨H1,I1,q1⟩=>?_)
 cases c with
 |true=>exact⟨H1,I1,q1⟩
 |false=>exact hb wh pins s1 σ H1 Q I1 q1
theorem Vq(ha:PT X a tA):PT X (.UnaryOp .Not a pos) (ay tA):=by
 intro pins s σ H Q I h
 exact isTrue_not (ha pins s σ H (fun c H1=>Q (!c) H1) I h)
def YY(ta tb:TE):TE:=fun σ H Q=>ta σ H fun x H1=>∃c,x=.bl c∧if c=true then tb σ H1 Q else Q (.bl false) H1
def YZ(ta:TE):TE:=fun σ H Q=>ta σ H fun x H1=>∃c,x=.bl c∧Q (.bl (!c)) H1
theorem Vr{op}{t:TE}(h:PE X a t):PE X (.BoolOp op [a] pos) t:=fun pins s σ H Q I hw=>BoolOp_one (h pins s σ H Q I hw)
theorem Vs(ha:PE X a ta)(hb:PE X (.BoolOp .And (b::rest) pos) tb):PE X (.BoolOp .And (a::b::rest) pos) (YY ta tb):=by
 intro pins s σ H Q I h
 refine BoolOp_and (BB (ha pins s σ H _ I h) fun v s1 ⟨x,H1,I1,r1,q1⟩=>?_)
 obtain⟨c,rfl,q1⟩:=q1
 cases r1
 refine iZ ?_
 cases c with
 |true=>exact hb pins s1 σ H1 Q I1 q1
 |false=>exact⟨.bl false,H1,I1,rfl,q1⟩
theorem Vt(ha:PE X a ta):PE X (.UnaryOp .Not a pos) (YZ ta):=by
 intro pins s σ H Q I h
 refine UnaryOp_ (BB (ha pins s σ H _ I h) fun v s1 ⟨x,H1,I1,r1,q1⟩=>?_)
 obtain⟨c,rfl,q1⟩:=q1
 cases r1
 exact not_of (iZ ⟨.bl (!c),H1,I1,rfl,q1⟩)
def cX(t:TT)(ta tb:TE):TE:=fun σ H Q=>t σ H fun c H1=>if c=true then ta σ H1 Q else tb σ H1 Q
theorem Pu{c:Expr}(hc:PT X c tA)(ha:PE X a ta)(hb:PE X b tb):PE X (.IfExp c a b pos) (cX tA ta tb):=by
 intro pins s σ H Q I h
 refine wpAny_IfExp (BB (hc pins s σ H _ I h) fun d s1 ⟨H1,I1,q1⟩=>?_)
 cases d with
 |true=>exact ha pins s1 σ H1 Q I1 q1
 |false=>exact hb pins s1 σ H1 Q I1 q1
end
def EY(K:a8)(H:Hp)(a:Addr)(xs:List V):Prop:=
 Rd H a (.lst xs)∨
  ∃(o:Obj) (its:Array Value) (n:Nat),K.lookup a=some o∧o.cls=.type "list"∧o.dict=none∧o.data=.seq its n∧its.size≤sizeLine∧Vals xs its.toList
def DV(K:a8)(H:Hp)(a:Addr)(xs:List V):Prop:=
 Rd H a (.tup xs)∨
  ∃(o:Obj) (its:Array Value) (n:Nat),K.lookup a=some o∧o.cls=.type "tuple"∧o.data=.seq its n∧its.size≤sizeLine∧Vals xs its.toList
def az:Value→Option V
 | .none=>some .non
 | .bool b=>some (.bl b)
 | .int i _=>some (.int i)
 | .str x _=>some (.str x)
 | .bytes b _=>some (.byt b)
 | .float b _=>some (.flt b)
 | .ref a=>some (.ref a)
 | .type n=>some (.ty n)
 |_=>none
theorem RelV.abs{x:V}{u:Value}(r:RelV x u):az u=some x:=by
 cases x with
 |non=>cases r;rfl
 |bl _=>cases r;rfl
 |int _=>obtain⟨t,rfl⟩:=r;rfl
 |str _=>obtain⟨t,rfl⟩:=r;rfl
 |byt _=>obtain⟨t,rfl⟩:=r;rfl
 |flt _=>obtain⟨t,rfl⟩:=r;rfl
 |ref _=>cases r;rfl
 |ty _=>cases r;rfl
theorem RelV.inj{x y:V}{u:Value}(r:RelV x u)(q:RelV y u):x=y:=gc.inj (r.abs.symm.trans q.abs)
theorem Vals.inj:∀{xs ys:List V} {us:List Value},Vals xs us→Vals ys us→xs=ys
 |_,_,_,.nil,.nil=>rfl
 |_,_,_,.cons r t,.cons r' t'=>by rw[r.inj r',Vals.inj t t']
section
variable{X:Cx}{pins:List (Addr×Obj)}{σ:St}{H:Hp}{s:a9}{a:Addr}{xs ys:List V}
theorem Inv.list(I:Inv X pins σ H s)(h:EY X.K H a xs):∃its:List Value,Vals xs its∧PlainL s.heap a its.toArray∧xs.length≤sizeLine:=by
 rcases h with h| ⟨o,its,n,hk,hc,hd,hs,hz,r⟩
 ·obtain⟨z,its,n,r,e⟩:=h.ok I.hok
  exact⟨its,r,⟨_,n,e,rfl,rfl,rfl⟩,z⟩
 ·refine⟨its.toList,r,⟨o,n,I.kIn a o hk,hc,hd,by simpa using hs⟩,?_⟩
  have e:=r.length
  simp only[eG] at e
  omega
theorem Inv.tuple(I:Inv X pins σ H s)(h:DV X.K H a xs):∃its:List Value,Vals xs its∧IsTup s.heap a its.toArray∧xs.length≤sizeLine:=by
 rcases h with h| ⟨o,its,n,hk,hc,hs,hz,r⟩
 ·obtain⟨z,its,r,p⟩:=h.ok I.hok
  exact⟨its,r,p,z⟩
 ·refine⟨its.toList,r,⟨o,I.kIn a o hk,hc,n,by simpa using hs⟩,?_⟩
  have e:=r.length
  simp only[eG] at e
  omega
theorem Inv.list_inj(I:Inv X pins σ H s)(h:EY X.K H a xs)(h':EY X.K H a ys):xs=ys:=by
 obtain⟨its,r,⟨o,n,e,_,_,d⟩,_⟩:=I.list h
 obtain⟨its',r',⟨o',n',e',_,_,d'⟩,_⟩:=I.list h'
 rw[e] at e';cases e'
 rw[d] at d'
 injection d' with d1 _
 have:its=its':=by simpa using congrArg Array.toList d1
 subst this
 exact r.inj r'
theorem Inv.tuple_inj(I:Inv X pins σ H s)(h:DV X.K H a xs)(h':DV X.K H a ys):xs=ys:=by
 obtain⟨its,r,⟨o,e,_,n,d⟩,_⟩:=I.tuple h
 obtain⟨its',r',⟨o',e',_,n',d'⟩,_⟩:=I.tuple h'
 rw[e] at e';cases e'
 rw[d] at d'
 injection d' with d1 _
 have:its=its':=by simpa using congrArg Array.toList d1
 subst this
 exact r.inj r'
end
section
variable{X:Cx}{pins:List (Addr×Obj)}{σ:St}{H:Hp}{s:a9}{E:Value→a9→Prop}
end
section
variable{X:Cx}{st:Stmt}{rest:List Stmt}{t u:TS}{e:Expr}{te:TE}{pos:Pos}
def Yb:TS:=fun D σ H=>D.nx σ H
def bA(t u:TS):TS:=fun D σ H=>t {D with nx:=u D} σ H
theorem NH:PSs X [] Yb:=fun _ _ σ H _ I h=>k9 ⟨σ,H,I,h⟩
theorem Ki(h1:PS X st t)(h2:PSs X rest u):PSs X (st::rest) (bA t u):=by
 intro pins s σ H D I h
 refine wpAny_execs_cons (BB (h1 pins s σ H {D with nx:=u D} I h) fun f s1 q=>?_)
 cases f with
 |next=>
  obtain⟨σ',H',I',q⟩:=q
  exact h2 pins s1 σ' H' D I' q
 |ret v=>exact q
 |brk=>exact q
 |cont=>exact q
theorem JR(h1:PS X st t):PSs X [st] t:=by
 intro pins s σ H D I h
 refine wpAny_execs_cons (BB (h1 pins s σ H D I h) fun f s1 q=>?_)
 cases f with
 |next=>exact k9 q
 |ret v=>exact q
 |brk=>exact q
 |cont=>exact q
theorem Inv.quiet{pins:List (Addr×Obj)}{σ:St}{H:Hp}{s:a9}(I:Inv X pins σ H s):interactive X.env=false:=by simp[interactive,I.ok.kind]
def Yc(te:TE):TS:=fun D σ H=>te σ H fun _ H1=>D.nx σ H1
theorem Ss(he:PE X e te)(hs:kQ e none pos.line X.env=pure false:=by rfl):PS X (.Expr e pos) (Yc te):=by
 intro pins s σ H D I h
 exact wpAny_Expr_any (BB (he pins s σ H _ I h) fun v s1 ⟨x,H1,I1,r1,q1⟩=> ⟨σ,H1,I1,q1⟩) I.quiet hs
def bB(te:TE):TS:=fun D σ H=>te σ H D.rt
theorem JS(he:PE X e te):PS X (.Return (some e) pos) (bB te):=by
 intro pins s σ H D I h
 exact wpAny_Return_some (BB (he pins s σ H _ I h) fun v s1 ⟨x,H1,I1,r1,q1⟩=> ⟨x,σ,H1,I1,r1,q1⟩)
def bD(c:TT)(t u:TS):TS:=fun D σ H=>c σ H fun b H1=>if b=true then t D σ H1 else u D σ H1
theorem VB{c:Expr}{a b:List Stmt}{tc:TT}(hc:PT X c tc)(ha:PSs X a t)(hb:PSs X b u):PS X (.If c a b pos) (bD tc t u):=by
 intro pins s σ H D I h
 refine wpAny_If (BB (hc pins s σ H _ I h) fun d s1 ⟨H1,I1,q1⟩=>?_)
 cases d with
 |true=>exact ha pins s1 σ H1 D I1 q1
 |false=>exact hb pins s1 σ H1 D I1 q1
end
abbrev TG:=V→St→Hp→(St→Hp→Prop)→Prop
abbrev Vu:=List V→St→Hp→(St→Hp→Prop)→Prop
def PG(X:Cx)(target:Expr)(t:TG):Prop:=
 ∀(pins:List (Addr×Obj)) (s:a9) (σ:St) (H:Hp) (v:V) (u:Value) (Q:St→Hp→Prop),Inv X pins σ H s→RelV v u→t v σ H Q→
  wpAny (model X.prog X.w) X.A (assign target X.env u) (fun _ s'=>∃σ' H',Inv X pins σ' H' s'∧Q σ' H') X.xe s
def aa(X:Cx)(ts:List Expr)(t:Vu):Prop:=
 ∀(pins:List (Addr×Obj)) (s:a9) (σ:St) (H:Hp) (vs:List V) (us:List Value) (Q:St→Hp→Prop),Inv X pins σ H s→Vals vs us→t vs σ H Q→
  wpAny (model X.prog X.w) X.A (assignInOrder ((iR ts X.env).map (·.2)) us) (fun _ s'=>∃σ' H',Inv X pins σ' H' s'∧Q σ' H') X.xe s
abbrev Vv:=V→V→V→Hp→(Hp→Prop)→Prop
def Yd(X:Cx)(t:Vv):Prop:=
 ∀(pins:List (Addr×Obj)) (s:a9) (σ:St) (H:Hp) (o i v:V) (ov iv u:Value) (Q:Hp→Prop),Inv X pins σ H s→RelV o ov→RelV i iv→RelV v u→t o i v H Q→
  wpAny (model X.prog X.w) X.A (setItem ov iv u) (fun _ s'=>∃H',Inv X pins σ H' s'∧Q H') X.xe s
abbrev Ye:=V→V→Hp→VK→Prop
def bE(X:Cx)(op:ng)(t:Ye):Prop:=
 ∀(pins:List (Addr×Obj)) (s:a9) (σ:St) (H:Hp) (x y:V) (v u:Value) (Q:VK),Inv X pins σ H s→RelV x v→RelV y u→t x y H Q→
  wpAny (model X.prog X.w) X.A (inplaceOp op v u) (EP X pins σ Q) X.xe s
section
variable{X:Cx}{pos:Pos}
def VC(i:Nat):TG:=fun v σ H Q=>Q (σ.set i (some v)) H
theorem JT{i:Nat}{x:Str}(hN:X.N.Nodup)(hi:X.N[i]?=some x)(hx:Po X.env.scope x)(hf:X.fn x=true∨X.env.scope.names.lookup x=some .local:=by first|exact .inl rfl|exact .inr rfl|assumption):PG X (.Name x pos) (VC i):=by
 intro pins s σ H v u Q I r h
 exact wpAny_assign_Name (Gg I hN hi hx r (fun s' I'=> ⟨_,H,I',h⟩) hf)
def bF:Vu:=fun vs σ H Q=>vs=[]∧Q σ H
def Yg(t:TG)(u:Vu):Vu:=fun vs σ H Q=>∃v r,vs=v::r∧t v σ H fun σ' H'=>u r σ' H' Q
theorem Su:aa X [] bF:=by
 intro pins s σ H vs us Q I r h
 obtain⟨e,h⟩:=h
 subst e
 cases r
 exact assignInOrder_nil ⟨σ,H,I,h⟩
theorem Kj{e:Expr}{es:List Expr}{t:TG}{u:Vu}(h1:PG X e t)(h2:aa X es u)
  (hs:(iR (e::es) X.env).map (·.2)=assign e X.env::(iR es X.env).map (·.2):=by rfl):aa X (e::es) (Yg t u):=by
 intro pins s σ H vs us Q I r h
 obtain⟨v,vr,e1,h⟩:=h
 subst e1
 cases r with
 |cons r rr=>
  rw[hs]
  refine assignInOrder_cons (BB (h1 pins s σ H _ _ _ I r h) fun _ s1 ⟨σ1,H1,I1,q1⟩=>?_)
  exact h2 pins s1 σ1 H1 _ _ Q I1 rr q1
def bG(K:a8)(n:Nat)(t:Vu):TG:=fun v σ H Q=>∃a xs,v=.ref a∧DV K H a xs∧xs.length=n∧t xs σ H Q
theorem Vw{es:List Expr}{k:Nat}{t:Vu}{n:Nat}(hc:X.calm=true)(h:aa X es t)
  (hn:(iR es X.env).length=n:=by rfl) (hst:(iR es X.env).findIdx? (·.1)=none:=by rfl):PG X (.Tuple es k pos) (bG X.K n t):=by
 intro pins s σ H v u Q I r hw
 obtain⟨a,xs,e1,hq,hl,hw⟩:=hw
 subst e1
 cases r
 obtain⟨its,rv,ht,hz⟩:=I.tuple hq
 refine assign_Tuple_tuple (I.ok.hd hc) ht (by simp[hn,←hl,rv.length]) hst fun h' hx=>?_
 have I1:Inv X pins σ H {s with heap:=h'}:=I.kept (t':=s.toks) fun b o e=>hx b o (fb (eM e)) e
 exact h pins _ σ H xs _ Q I1 (by simpa using rv) hw
def bH(to ti:TE)(t:Vv):TG:=fun v σ H Q=>to σ H fun o H1=>ti σ H1 fun i H2=>t o i v H2 fun H3=>Q σ H3
theorem Vx{o i:Expr}{to ti:TE}{t:Vv}(ho:PE X o to)(hi:PE X i ti)(hs:Yd X t)
  (ha:∀v,assign (.Subscript o i pos) X.env v=(do
   let ov←holding [v] (eval o X.env)
   let iv←holding [v,ov] (eval i X.env)
   standAt pos
   holding [v,ov,iv] (setItem ov iv v)
   release [v,ov,iv] []):=by intro _;rfl):PG X (.Subscript o i pos) (bH to ti t):=by
 intro pins s σ H v u Q I r h
 rw[ha]
 refine a7 (fI (BB (ho pins s σ H _ I h) fun ov s1 ⟨x,H1,I1,r1,q1⟩=>?_))
 refine a7 (fI (BB (hi pins s1 σ H1 _ I1 q1) fun iv s2 ⟨y,H2,I2,r2,q2⟩=>?_))
 refine a7 (kW (a7 (fI (BB (hs pins s2 σ H2 x y v ov iv u _ I2 r1 r2 r q2) fun _ s3 ⟨H3,I3,q3⟩=>?_))))
 exact wpAny_release ⟨σ,H3,I3,q3⟩
def Yh(te:TE)(g:TG):TS:=fun D σ H=>te σ H fun x H1=>g x σ H1 D.nx
theorem Pv{tg e:Expr}{te:TE}{g:TG}(he:PE X e te)(hg:PG X tg g)(hs:nF [tg] e pos.line X.env=pure false:=by rfl)(hw:nG [tg] e X.env=pure none:=by rfl)
  (h1:(iR [tg] X.env).map (·.2)=[assign tg X.env]:=by rfl):PS X (.Assign [tg] e pos) (Yh te g):=by
 intro pins s σ H D I h
 refine wpAny_Assign_stores (BB (he pins s σ H _ I h) fun v s1 ⟨x,H1,I1,r1,q1⟩=>?_) hs hw
 rw[h1]
 exact BB (hg pins s1 σ H1 x v _ I1 r1 q1) fun _ s2 q=>q
theorem Vy{i:Nat}{x:Str}{e:Expr}{te:TE}{pos':Pos}(hN:X.N.Nodup)(hi:X.N[i]?=some x)(hx:Po X.env.scope x)(he:PE X e te)(hs:kQ e (some (.Name x pos')) pos.line X.env=pure false:=by rfl)(hf:X.fn x=true∨X.env.scope.names.lookup x=some .local:=by first|exact .inl rfl|exact .inr rfl|assumption):
  PS X (.Assign [.Name x pos'] e pos) (Yh te (VC i)):=by
 intro pins s σ H D I h
 refine wpAny_Assign_Name (BB (he pins s σ H _ I h) fun v s1 ⟨y,H1,I1,r1,q1⟩=>?_) hs
 exact Gg I1 hN hi hx r1 (fun s2 I2=> ⟨_,H1,I2,q1⟩) hf
def bI(i:Nat)(te:TE)(ti:Ye):TS:=fun D σ H=>∃x,σ[i]?=some (some x)∧te σ H fun y H1=>ti x y H1 fun z H2=>D.nx (σ.set i (some z)) H2
theorem Vz{i:Nat}{x:Str}{e:Expr}{te:TE}{op:ng}{ti:Ye}{pos':Pos}(hN:X.N.Nodup)(hi:X.N[i]?=some x)(hx:Po X.env.scope x)(he:PE X e te)(ho:bE X op ti)(hf:X.fn x=true∨X.env.scope.names.lookup x=some .local:=by first|exact .inl rfl|exact .inr rfl|assumption):
  PS X (.AugAssign (.Name x pos') op e pos) (bI i te ti):=by
 intro pins s σ H D I h
 obtain⟨v,e1,h⟩:=h
 obtain⟨m,hn,hl⟩:=I.loc
 have vis:YR X.env.scope x:=by rcases hx with k|k;exact .inl k;exact .inr (.inl k)
 obtain⟨u,r,l⟩:=hl i x v hi e1 vis
 refine wpAny_AugAssign_Name ?_
 have go:wpAny (model X.prog X.w) X.A (eval e X.env) (fun w s₂=>wpAny (model X.prog X.w) X.A (inplaceOp op u w) (fun r s₃=>wpAny (model X.prog X.w) X.A (storeName X.env x r) (fun _=>SP X pins D .next) X.xe s₃) X.xe s₂) X.xe s:=by
  refine BB (he pins s σ H _ I h) fun w s1 ⟨y,H1,I1,r1,q1⟩=>?_
  refine BB (ho pins s1 σ H1 v y u w _ I1 r r1 q1) fun z s2 ⟨zv,H2,I2,r2,q2⟩=>?_
  exact Gg I2 hN hi hx r2 (fun s3 I3=> ⟨_,H2,I3,q2⟩) hf
 rcases l with⟨hk,hm⟩| ⟨hk,c,hc,hcell⟩
 ·exact wpAny_loadName_local I.ok.kind hk hn hm go
 ·rcases hk with hk|hk
  ·exact wpAny_loadName_cell I.ok.kind hk hc hcell go
  ·rcases hx with k|k
   ·have:X.env.scope.names.lookup x=some .free:=hk
    rw[k] at this;cases this
   ·have:X.env.scope.names.lookup x=some .free:=hk
    rw[k] at this;cases this
def cY(f:Int→Int→Int):Ye:=fun x y H Q=>∃i j,x=.int i∧y=.int j∧Q (.int (f i j)) H
theorem WB:bE X .Add (cY fun i j=>i+j):=by
 intro pins s σ H x y v u Q I r1 r2 h
 obtain⟨i,j,e1,e2,q⟩:=h
 subst e1;subst e2
 obtain⟨t,rfl⟩:=r1
 obtain⟨t',rfl⟩:=r2
 exact iadd_int ⟨.int _,H,I.tok _,⟨_,rfl⟩,q⟩
end
section
variable{X:Cx}{pos:Pos}
def WC(c:TT)(tb:TS):TS:=fun D σ H=>∃W:Nat→St→Hp→Prop,(∃m,W m σ H)∧∀m σ H,W m σ H→
 c σ H fun b H1=>if b=true then∃N:St→Hp→Prop,(∀σ' H',N σ' H'→∃m',m'<m∧W m' σ' H')∧tb {D with nx:=N,ct:=N,bk:=D.nx} σ H1 else D.nx σ H1
theorem Pw{c:Expr}{body:List Stmt}{tc:TT}{tb:TS}(hp:lI (model X.prog X.w) X.A X.env X.xe)(hc:PT X c tc)(hb:PSs X body tb):PS X (.While c body [] pos) (WC tc tb):=by
 intro pins s σ H D I h
 obtain⟨W,⟨m0,w0⟩,turn⟩:=h
 refine wpAny_While (codeAny_whileLoop (fun n s'=>∃σ' H',Inv X pins σ' H' s'∧W n σ' H') ?_ m0 ⟨σ,H,I,w0⟩)
 rintro n s1 ⟨σ1,H1,I1,w1⟩
 refine ji hp (BB (hc pins s1 σ1 H1 _ I1 (turn n σ1 H1 w1)) fun b s2 ⟨H2,I2,q2⟩=>?_)
 cases b with
 |true=>
  obtain⟨N,hN,q2⟩:=q2
  rw[if_pos rfl]
  refine ji hp (BB (hb pins s2 σ1 H2 _ I2 q2) fun f s3 q3=>?_)
  cases f with
  |next=>
   obtain⟨σ3,H3,I3,n3⟩:=q3
   obtain⟨m',hm,w3⟩:=hN σ3 H3 n3
   exact⟨m',hm,σ3,H3,I3,w3⟩
  |cont=>
   obtain⟨σ3,H3,I3,n3⟩:=q3
   obtain⟨m',hm,w3⟩:=hN σ3 H3 n3
   exact⟨m',hm,σ3,H3,I3,w3⟩
  |brk=>exact q3
  |ret v=>exact q3
 |false=>
  rw[if_neg eC]
  exact k9 ⟨σ1,H2,I2,q2⟩
end
structure It where
 go:Nat→Hp→Prop
 yld:Nat→Hp→V→Hp→Prop
 stop:Nat→Hp→Prop
def Gh(X:Cx)(pins:List (Addr×Obj))(H:Hp)(b:Addr):Prop:=
 H b=none∧b≠X.env.locals∧b∉X.fs∧(b∈X.ex∨X.s₀.heap.objs.size≤b)∧(∀x c,X.env.cells.lookup x=some c→c≠b)∧∀p∈X.pn++pins,p.1≠b
theorem Inv.fpOk{X:Cx}{pins:List (Addr×Obj)}{σ:St}{H H':Hp}{s:a9}{b:Addr}(I:Inv X pins σ H s)(hb:s.heap.objs.size≤b)(hn:H' b=none):Gh X pins H' b:=by
 refine⟨hn,jI (eX I.lt hb),I.nofs hb,.inr (fo I.sz hb),fun x c e z=>?_,fun p hp z=>?_⟩
 ·obtain⟨v,q⟩:=I.cell x c e
  exact absurd (eX q.lt (by rw[z];exact hb)) (gw _)
 ·exact absurd (eX (eM (I.pin p hp).1) (by rw[z];exact hb)) (gw _)
structure Turn(P:Program)(w:World)(K:a8)(tg:Expr)(J:It)(fp:List Addr)(it:Addr)(tn:Nat→Heap→Prop):Prop where
 mem:it∈fp
 obj:∀i h,tn i h→∀b∈fp,∃o,h.get? b=some o∧∀v,o.data≠.cell v
 keep:∀i h h',tn i h→(∀b∈fp,∀o,h.get? b=some o→h'.get? b=some o)→tn i h'
 item:∀(X:Cx),X.prog=P→X.w=w→X.K=K→X.calm=true→∀(i:Nat) (pins:List (Addr×Obj)) (s:a9) (σ:St) (H:Hp) (E:Value→a9→Prop),Inv X pins σ H s→(∀b∈fp,Gh X pins H b)→tn i s.heap→J.go i H→
  wpAny (model P w) X.A (ki (.ref it)) (fun r s1=>∃u,r=some u∧
   wpAny (model P w) X.A (lh tg (.ref it) u) (fun _ s2=>∃x H',Inv X pins σ H' s2∧RelV x u∧J.yld i H x H'∧tn (i+1) s2.heap∧∀b∈fp,H' b=none) E s1) E s
 done:∀(X:Cx),X.prog=P→X.w=w→X.K=K→X.calm=true→∀(i:Nat) (pins:List (Addr×Obj)) (s:a9) (σ:St) (H:Hp) (E:Value→a9→Prop),Inv X pins σ H s→(∀b∈fp,Gh X pins H b)→tn i s.heap→J.stop i H→
  wpAny (model P w) X.A (ki (.ref it)) (fun r s1=>r=none∧Inv X pins σ H s1) E s
 self:∀(A:eU) (i:Nat) (s:a9) (Q:Value→a9→Prop) (E:Value→a9→Prop),tn i s.heap→Q (.ref it) s→wpAny (model P w) A (mX (.ref it)) Q E s
abbrev TI:=St→Hp→(It→Hp→Prop)→Prop
def cI(X:Cx)(pins:List (Addr×Obj))(σ:St)(tg:Expr)(R:It→Hp→Prop)(itv:Value)(s2:a9):Prop:=
 ∃(it:Addr) (fp:List Addr) (tn:Nat→Heap→Prop) (J:It) (H':Hp),itv=.ref it∧Inv X pins σ H' s2∧Turn X.prog X.w X.K tg J fp it tn∧tn 0 s2.heap∧(∀b∈fp,Gh X pins H' b)∧R J H'
def PI(X:Cx)(tg iter:Expr)(wi:TI):Prop:=
 ∀(pins:List (Addr×Obj)) (s:a9) (σ:St) (H:Hp) (R:It→Hp→Prop),Inv X pins σ H s→wi σ H R→
  wpAny (model X.prog X.w) X.A (eval iter X.env) (fun v s1=>wpAny (model X.prog X.w) X.A (mX v) (cI X pins σ tg R) X.xe s1) X.xe s
theorem Px{M:Model}{A:eU}{E:Value→a9→Prop}{s:a9}{tg:Expr}{it:Addr}{u:Value}{o:Obj}{n:String}{vs:Array Value}{Q:Unit→a9→Prop}(ho:s.heap.get? it=some o)(hc:o.cls=.type n)(hd:o.data=.fields vs)
    (hn:["enumerate","zip","dict_itemiterator","dict_reverseitemiterator","odict_iterator","itertools.zip_longest","itertools.pairwise"].contains n=false) (hQ:Q () s):wpAny M A (lh tg (.ref it) u) Q E s:=by
  unfold lh
  cases tg<;>first
    |exact b9 hQ
    | (cases u<;>first
        |exact b9 hQ
        | (refine a7 (wpAny_load ho ?_)
           rw[hc,hd]
           show wpAny M A (if(["enumerate","zip","dict_itemiterator","dict_reverseitemiterator","odict_iterator","itertools.zip_longest","itertools.pairwise"].contains n&&vs[0]?==some (kA _))=true then _ else _) Q E s
           rw[if_neg (by intro h;rw[hn,Bool.false_and] at h;cases h)]
           exact b9 hQ))
def bJ(K:a8)(a:Addr):It:=
 ⟨fun i H=>∃xs x,EY K H a xs∧xs[i]?=some x,fun i H x H'=>H'=H∧∀xs,EY K H a xs→xs[i]?=some x,fun i H=>∃xs,EY K H a xs∧xs.length≤i⟩
def bK(K:a8)(a:Addr):It:=
 ⟨fun i H=>∃xs x,DV K H a xs∧xs[i]?=some x,fun i H x H'=>H'=H∧∀xs,DV K H a xs→xs[i]?=some x,fun i H=>∃xs,DV K H a xs∧xs.length≤i⟩
def Yi(lo:Int)(n:Nat):It:=⟨fun i _=>i<n,fun i H x H'=>H'=H∧x=.int (lo+i),fun i _=>n≤i⟩
theorem Of{P:Program}{w:World}{K:a8}{tg:Expr}(a it:Addr):Turn P w K tg (bJ K a) [it] it (fun i h=>h.IsListIter it a i) where
 mem:=by simp
 obj:=fun i h st b hb=>by
  have e:b=it:=by simpa using hb
  subst e
  obtain⟨o,e,c,d⟩:=st
  exact⟨o,e,fun v z=>by rw[d] at z;cases z⟩
 keep:=fun i h h' st k=>st.at fun o e=>k it (by simp) o e
 item:=by
  intro X hP hw hK hc i pins s σ H E I hf st hg
  subst hP hw hK
  obtain⟨xs,x,hq,hx⟩:=hg
  obtain⟨its,rv,p,hz⟩:=I.list hq
  obtain⟨u,hu,ru⟩:=rv.get hx
  obtain⟨f0,f1,f2,f3,f4,f5⟩:=hf it (by simp)
  refine wpAny_pyNext_list_item st p.isList (x:=u) (by simpa using hu) fun h' st' sb=>?_
  have I1:Inv X pins σ H {s with heap:=h'}:=I.turned (t':=s.toks) (fun b o hb e=> (sb.2 b hb).trans e) f0 f1 f3 f4 f5
  obtain⟨o,e,c,d⟩:=id st'
  exact⟨u,rfl,Px (s:={s with heap:=h'}) e c d (by decide) ⟨x,H,I1,ru,⟨rfl,fun ys hy=>by rw[I.list_inj hy hq];exact hx⟩,st',fun b hb=> (hf b hb).1⟩⟩
 done:=by
  intro X hP hw hK hc i pins s σ H E I hf st hg
  subst hP hw hK
  obtain⟨xs,hq,hx⟩:=hg
  obtain⟨its,rv,p,hz⟩:=I.list hq
  obtain⟨f0,f1,f2,f3,f4,f5⟩:=hf it (by simp)
  have hl:=rv.length
  exact wpAny_pyNext_list_end (I.ok.hd hc) st p.isList (by simp;omega) fun h' eb=> ⟨rfl,I.turned (t':=s.toks) (fun b o hb e=>eb b o hb e) f0 f1 f3 f4 f5⟩
 self:=fun _ _ _ _ _ st h=>wpAny_pyIter_listiter st h
theorem MF{P:Program}{w:World}{K:a8}{tg:Expr}(a it:Addr):Turn P w K tg (bK K a) [it] it (fun i h=>h.IsTupleIter it a i) where
 mem:=by simp
 obj:=fun i h st b hb=>by
  have e:b=it:=by simpa using hb
  subst e
  obtain⟨o,e,c,d⟩:=st
  exact⟨o,e,fun v z=>by rw[d] at z;cases z⟩
 keep:=fun i h h' st k=>st.at fun o e=>k it (by simp) o e
 item:=by
  intro X hP hw hK hc i pins s σ H E I hf st hg
  subst hP hw hK
  obtain⟨xs,x,hq,hx⟩:=hg
  obtain⟨its,rv,p,hz⟩:=I.tuple hq
  obtain⟨u,hu,ru⟩:=rv.get hx
  obtain⟨f0,f1,f2,f3,f4,f5⟩:=hf it (by simp)
  refine wpAny_pyNext_tuple_item st (show s.heap.IsTuple a its.toArray from p) (x:=u) (by simpa using hu) fun h' st' sb=>?_
  have I1:Inv X pins σ H {s with heap:=h'}:=I.turned (t':=s.toks) (fun b o hb e=> (sb.2 b hb).trans e) f0 f1 f3 f4 f5
  obtain⟨o,e,c,d⟩:=id st'
  exact⟨u,rfl,Px (s:={s with heap:=h'}) e c d (by decide) ⟨x,H,I1,ru,⟨rfl,fun ys hy=>by rw[I.tuple_inj hy hq];exact hx⟩,st',fun b hb=> (hf b hb).1⟩⟩
 done:=by
  intro X hP hw hK hc i pins s σ H E I hf st hg
  subst hP hw hK
  obtain⟨xs,hq,hx⟩:=hg
  obtain⟨its,rv,p,hz⟩:=I.tuple hq
  obtain⟨f0,f1,f2,f3,f4,f5⟩:=hf it (by simp)
  have hl:=rv.length
  exact wpAny_pyNext_tuple_end (I.ok.hd hc) st (show s.heap.IsTuple a its.toArray from p) (by simp;omega) fun h' eb=> ⟨rfl,I.turned (t':=s.toks) (fun b o hb e=>eb b o hb e) f0 f1 f3 f4 f5⟩
 self:=fun _ _ _ _ _ st h=>wpAny_pyIter_tupleiter st h
theorem MG{P:Program}{w:World}{K:a8}{tg:Expr}(it:Addr)(lo:Int)(n:Nat):Turn P w K tg (Yi lo n) [it] it (fun i h=>IsRangeIter h it (lo+(i:Nat)*1) ((n:Int)- (i:Nat)) 1) where
 mem:=by simp
 obj:=fun i h st b hb=>by
  have e:b=it:=by simpa using hb
  subst e
  exact⟨_,st,fun v z=>by
   have z':Data.fields _=oz v:=z
   cases z'⟩
 keep:=fun i h h' st k=>k it (by simp) _ st
 item:=by
  intro X hP hw hK hc i pins s σ H E I hf st hg
  subst hP hw hK
  obtain⟨f0,f1,f2,f3,f4,f5⟩:=hf it (by simp)
  have W:=Walks.range (prog:=X.prog) (w:=X.w) (I.ok.hd hc) it lo 1 n
  refine W.item i s _ _ hg st fun v h' tk hv st' kk=>?_
  obtain⟨t,rfl⟩:=hv
  have I1:Inv X pins σ H {s with heap:=h',toks:=tk}:=I.turned (fun b o hb e=>kk b o (by simpa using hb) e) f0 f1 f3 f4 f5
  refine⟨_,rfl,Px (s:={s with heap:=h',toks:=tk}) (n:="range_iterator") st' rfl rfl (by decide) ⟨.int (lo+i),H,I1,⟨t,?_⟩,⟨rfl,rfl⟩,st',fun b hb=> (hf b hb).1⟩⟩
  rw[Int.mul_one]
 done:=by
  intro X hP hw hK hc i pins s σ H E I hf st hg
  subst hP hw hK
  obtain⟨f0,f1,f2,f3,f4,f5⟩:=hf it (by simp)
  exact wpAny_pyNext_range_end (I.ok.hd hc) st (by have:n≤i:=hg;omega) fun h' eb=> ⟨rfl,I.turned (t':=s.toks) (fun b o hb e=>eb b o hb e) f0 f1 f3 f4 f5⟩
 self:=fun _ _ _ _ _ st h=>wpAny_pyIter_rangeiter st h
section
variable{X:Cx}{tg:Expr}
def Yj(K:a8)(tl:TE):TI:=fun σ H R=>tl σ H fun x H1=>∃a,x=.ref a∧(∃xs,EY K H1 a xs)∧R (bJ K a) H1
def bL(K:a8)(tl:TE):TI:=fun σ H R=>tl σ H fun x H1=>∃a,x=.ref a∧(∃xs,DV K H1 a xs)∧R (bK K a) H1
theorem Sv{l:Expr}{tl:TE}(hl:PE X l tl):PI X tg l (Yj X.K tl):=by
 intro pins s σ H R I h
 refine BB (hl pins s σ H _ I h) fun v s1 ⟨x,H1,I1,r1,q1⟩=>?_
 obtain⟨a,e,⟨xs,hq⟩,q⟩:=q1
 subst e
 cases r1
 obtain⟨its,rv,p,hz⟩:=I1.list hq
 refine lU p.isList ?_
 refine⟨s1.heap.objs.size,[s1.heap.objs.size],_,_,H1,rfl,I1.kept (t':=s1.toks) fun b o e=>dm _ e,Of a _,⟨_,eS _ rfl,rfl,rfl⟩,fun b hb=>?_,q⟩
 have e:b=s1.heap.objs.size:=by simpa using hb
 subst e
 exact I1.fpOk (dv _) (I1.hok.fresh (dv _))
theorem WD{l:Expr}{tl:TE}(hl:PE X l tl):PI X tg l (bL X.K tl):=by
 intro pins s σ H R I h
 refine BB (hl pins s σ H _ I h) fun v s1 ⟨x,H1,I1,r1,q1⟩=>?_
 obtain⟨a,e,⟨xs,hq⟩,q⟩:=q1
 subst e
 cases r1
 obtain⟨its,rv,p,hz⟩:=I1.tuple hq
 refine jF (show s1.heap.IsTuple a its.toArray from p) ?_
 refine⟨s1.heap.objs.size,[s1.heap.objs.size],_,_,H1,rfl,I1.kept (t':=s1.toks) fun b o e=>dm _ e,MF a _,⟨_,eS _ rfl,rfl,rfl⟩,fun b hb=>?_,q⟩
 have e:b=s1.heap.objs.size:=by simpa using hb
 subst e
 exact I1.fpOk (dv _) (I1.hok.fresh (dv _))
theorem Kl{pins:List (Addr×Obj)}{σ:St}{H:Hp}{s:a9}{R:It→Hp→Prop}{E:Value→a9→Prop}{lo hi:Int}{t u v:Tok}{tk:Nat}(I:Inv X pins σ H s)(h1: -(2^62)≤lo)(h2:lo<2^62)(h3: -(2^62)≤hi)(h4:hi<2^62)
  (q:R (Yi lo (hi-lo).toNat) H):wpAny (model X.prog X.w) X.A (mX (.ref s.heap.objs.size)) (cI X pins σ tg R) E {s with heap:=s.heap.push {cls:=.type "range",data:=.fields #[.int lo t,.int hi u,.int 1 v]},toks:=tk}:=by
 refine wpAny_pyIter_range (IsRange.new ..) (small_one h1 h2 h3 h4) ?_
 have I1:Inv X pins σ H {s with heap:=s.heap.push {cls:=.type "range",data:=.fields #[.int lo t,.int hi u,.int 1 v]},toks:=tk}:=I.kept fun b o e=>dm _ e
 refine⟨(s.heap.push {cls:=.type "range",data:=.fields #[.int lo t,.int hi u,.int 1 v]}).objs.size,[(s.heap.push {cls:=.type "range",data:=.fields #[.int lo t,.int hi u,.int 1 v]}).objs.size],_,_,H,rfl,
  I1.kept (t':=tk) fun b o e=>dm _ e,MG _ lo (hi-lo).toNat,?_,fun b hb=>?_,q⟩
 ·have e1:lo+((0:Nat):Int)*1=lo:=by simp
  have e2:(((hi-lo).toNat:Nat):Int)- ((0:Nat):Int)=Builtin.Range.rangeSize lo hi 1:=by rw[rangeSize_one];split<;>omega
  show IsRangeIter _ _ (lo+((0:Nat):Int)*1) ((((hi-lo).toNat:Nat):Int)- ((0:Nat):Int)) 1
  rw[e1,e2]
  exact eS _ rfl
 ·have e:b=(s.heap.push {cls:=.type "range",data:=.fields #[.int lo t,.int hi u,.int 1 v]}).objs.size:=by simpa using hb
  subst e
  exact I1.fpOk (dv _) (I1.hok.fresh (dv _))
def Yk(ta:TA):TI:=fun σ H R=>ta σ H fun vs H1=>∃j:Int,vs=[.int j]∧-(2^62)≤j∧j<2^62∧R (Yi 0 j.toNat) H1
def Yl(ta:TA):TI:=fun σ H R=>ta σ H fun vs H1=>∃i j:Int,vs=[.int i,.int j]∧(-(2^62)≤i∧i<2^62∧-(2^62)≤j∧j<2^62)∧R (Yi i (j-i).toNat) H1
theorem Og{a:Expr}{ta:TA}{p pos:Pos}(hg:Gl X "range")(hm:X.mg "range" =none)(ha:PA X [a] ta)(hs:du [a] X.env=[(false,eval a X.env)]:=by rfl):PI X tg (.Call (.Name "range" p) [a] [] pos) (Yk ta):=by
 intro pins s σ H R I h
 refine Call_ (EC I hg hm boot_range (i9 (BB (ha pos pins s σ H _ I h) fun us s1 ⟨vs,H1,I1,r1,q1⟩=>?_) hs rfl))
 obtain⟨j,e,q1,q2,q⟩:=q1
 subst e
 cases r1 with
 |cons r rr=>
  cases rr
  obtain⟨t,rfl⟩:=r
  exact call_range_1 (Kl I1 (by omega) (by omega) q1 q2 (by simpa using q))
theorem Oh{a b:Expr}{ta:TA}{p pos:Pos}(hg:Gl X "range")(hm:X.mg "range" =none)(ha:PA X [a,b] ta)(hs:du [a,b] X.env=[(false,eval a X.env),(false,eval b X.env)]:=by rfl)(hs2:du [b] X.env=[(false,eval b X.env)]:=by rfl):
  PI X tg (.Call (.Name "range" p) [a,b] [] pos) (Yl ta):=by
 intro pins s σ H R I h
 refine Call_ (EC I hg hm boot_range (i9 (BB (ha pos pins s σ H _ I h) fun us s1 ⟨vs,H1,I1,r1,q1⟩=>?_) (by rw[hs,hs2]) (by rw[hs2];rfl)))
 obtain⟨i,j,e,⟨q1,q2,q3,q4⟩,q⟩:=q1
 subst e
 cases r1 with
 |cons r rr=>
  cases rr with
  |cons r' rr=>
   cases rr
   obtain⟨t,rfl⟩:=r
   obtain⟨t',rfl⟩:=r'
   exact call_range_2 (Kl I1 q1 q2 q3 q4 q)
def bM(wi:TI)(g:TG)(tb:TS):TS:=fun D σ H=>wi σ H fun J H1=>∃W:Nat→Nat→St→Hp→Prop,(∃m,W 0 m σ H1)∧∀i m σ H,W i m σ H→
 (J.stop i H∧D.nx σ H)∨(J.go i H∧∃N:St→Hp→Prop,(∀σ' H',N σ' H'→∃m',m'<m∧W (i+1) m' σ' H')∧∀x H',J.yld i H x H'→g x σ H' fun σ2 H2=>tb {D with nx:=N,ct:=N,bk:=D.nx} σ2 H2)
def Gi(fp:List Addr)(h:Heap):List (Addr×Obj):=fp.filterMap fun b=> (h.get? b).map fun o=> (b,o)
theorem DC{fp:List Addr}{h:Heap}{b:Addr}{o:Obj}(hb:b∈fp)(e:h.get? b=some o):(b,o)∈Gi fp h:=iU.mpr ⟨b,hb,by rw[e];rfl⟩
theorem Oi{fp:List Addr}{h:Heap}{p:Addr×Obj}(hp:p∈Gi fp h):p.1∈fp∧h.get? p.1=some p.2:=by
 obtain⟨b,hb,e⟩:=iU.mp hp
 cases q:h.get? b with
 |none=>rw[q] at e;cases e
 |some o=>
  rw[q] at e
  have e':(b,o)=p:=gc.inj e
  subst e'
  exact⟨hb,q⟩
theorem Inv.pinned{pins:List (Addr×Obj)}{σ:St}{H:Hp}{s:a9}{fp:List Addr}(I:Inv X pins σ H s)(hf:∀b∈fp,Gh X pins H b)(ho:∀b∈fp,∃o,s.heap.get? b=some o∧∀v,o.data≠.cell v):Inv X (pins++Gi fp s.heap) σ H s:=
 I.pins_of fun p hp=> (eO.mp hp).elim (fun z=>I.pin p (fP _ z)) fun z=>by
  obtain⟨hb,e⟩:=Oi z
  obtain⟨f0,f1,f2,_⟩:=hf p.1 hb
  obtain⟨o,e',d⟩:=ho p.1 hb
  rw[e] at e';cases e'
  exact⟨e,f0,f1,f2,d⟩
theorem Inv.unpinned{pins pl:List (Addr×Obj)}{σ:St}{H:Hp}{s:a9}(I:Inv X (pins++pl) σ H s):Inv X pins σ H s:=I.pins_of fun p hp=>I.pin p (fP _ (gK _ hp))
theorem WH{iter:Expr}{body:List Stmt}{wi:TI}{g:TG}{tb:TS}{pos:Pos}(hp:lI (model X.prog X.w) X.A X.env X.xe)(hc:X.calm=true)(hi:PI X tg iter wi)(hg:PG X tg g)(hb:PSs X body tb)
  (hs:∀x,gY iter X.env x=pure x:=by intro _;rfl):PS X (.For tg iter body [] pos) (bM wi g tb):=by
 intro pins s σ H D I h
 refine wpAny_For (BB (hi pins s σ H _ I h) fun v s1 h1=>BB h1 fun itv s2 h2=>?_) hs
 obtain⟨it,fp,tn,J,H2,e,I2,T,st2,f2,W,⟨m0,w0⟩,turn⟩:=h2
 subst e
 have stat:∀{H':Hp},(∀b∈fp,H' b=none)→∀b∈fp,Gh X pins H' b:=fun hn b hb=> ⟨hn b hb,(f2 b hb).2⟩
 refine codeAny_forLoop_any (fun n s'=>∃i σ' H',Inv X pins σ' H' s'∧tn i s'.heap∧(∀b∈fp,H' b=none)∧W i n σ' H') ?_ m0 ⟨0,σ,H2,I2,st2,fun b hb=> (f2 b hb).1,w0⟩
 rintro n s3 ⟨i,σ3,H3,I3,st3,fr3,w3⟩
 rcases turn i n σ3 H3 w3 with⟨stop,qn⟩| ⟨go,N,hN,step⟩
 ·refine ji hp (BB (T.done X rfl rfl rfl hc i pins s3 σ3 H3 X.xe I3 (stat fr3) st3 stop) fun r s4 ⟨hr,I4⟩=>?_)
  subst hr
  exact k9 ⟨σ3,H3,I4,qn⟩
 ·refine ji hp (BB (T.item X rfl rfl rfl hc i pins s3 σ3 H3 X.xe I3 (stat fr3) st3 go) fun r s4 ⟨u,hr,h4⟩=>?_)
  subst hr
  refine ji hp (BB h4 fun _ s5 ⟨x,H5,I5,r5,y5,st5,fr5⟩=>?_)
  have I5':=I5.pinned (stat fr5) (T.obj _ _ st5)
  refine ji hp (BB (hg _ s5 σ3 H5 x u _ I5' r5 (step x H5 y5)) fun _ s6 ⟨σ6,H6,I6,q6⟩=>?_)
  refine ji hp (BB (hb _ s6 σ6 H6 _ I6 q6) fun f s7 q7=>?_)
  have again:∀{σ7:St} {H7:Hp},Inv X (pins++Gi fp s5.heap) σ7 H7 s7→N σ7 H7→∃m,m<n∧∃i σ' H',Inv X pins σ' H' s7∧tn i s7.heap∧(∀b∈fp,H' b=none)∧W i m σ' H':=fun{σ7 H7} I7 n7=>by
   obtain⟨m',hm,w7⟩:=hN σ7 H7 n7
   refine⟨m',hm,i+1,σ7,H7,I7.unpinned,T.keep _ _ _ st5 fun b hb o e=> (I7.pin (b,o) (fP _ (fP _ (DC hb e)))).1,fun b hb=>?_,w7⟩
   obtain⟨o,e,d⟩:=T.obj _ _ st5 b hb
   exact(I7.pin (b,o) (fP _ (fP _ (DC hb e)))).2.1
  cases f with
  |next=>obtain⟨σ7,H7,I7,n7⟩:=q7;exact again I7 n7
  |cont=>obtain⟨σ7,H7,I7,n7⟩:=q7;exact again I7 n7
  |brk=>obtain⟨σ7,H7,I7,q7⟩:=q7;exact⟨σ7,H7,I7.unpinned,q7⟩
  |ret v=>obtain⟨x7,σ7,H7,I7,r7,q7⟩:=q7;exact⟨x7,σ7,H7,I7.unpinned,r7,q7⟩
end
abbrev R2:=V→V→Hp→VK→Prop
def DD(X:Cx)(f:Value→Value→Sem Value)(r:R2):Prop:=
 ∀(pins:List (Addr×Obj)) (s:a9) (σ:St) (H:Hp) (x y:V) (v u:Value) (Q:VK),Inv X pins σ H s→RelV x v→RelV y u→r x y H Q→
  wpAny (model X.prog X.w) X.A (f v u) (EP X pins σ Q) X.xe s
def ab(X:Cx)(f:Value→Sem Value)(r:V→Hp→VK→Prop):Prop:=
 ∀(pins:List (Addr×Obj)) (s:a9) (σ:St) (H:Hp) (x:V) (v:Value) (Q:VK),Inv X pins σ H s→RelV x v→r x H Q→
  wpAny (model X.prog X.w) X.A (f v) (EP X pins σ Q) X.xe s
def Au(X:Cx)(f:Value)(r:List V→Hp→VK→Prop):Prop:=
 ∀(pins:List (Addr×Obj)) (s:a9) (σ:St) (H:Hp) (xs:List V) (us:List Value) (Q:VK),Inv X pins σ H s→Vals xs us→r xs H Q→
  wpAny (model X.prog X.w) X.A (call f us) (EP X pins σ Q) X.xe s
def bN(X:Cx)(r:V→Hp→(Bool→Hp→Prop)→Prop):Prop:=
 ∀(pins:List (Addr×Obj)) (s:a9) (σ:St) (H:Hp) (x:V) (v:Value) (Q:Bool→Hp→Prop),Inv X pins σ H s→RelV x v→r x H Q→
  wpAny (model X.prog X.w) X.A (truthy v) (TP X pins σ Q) X.xe s
def Ym(r:R2)(ta tb:TE):TE:=fun σ H Q=>ta σ H fun x H1=>tb σ H1 fun y H2=>r x y H2 Q
def cZ(r:V→Hp→VK→Prop)(ta:TE):TE:=fun σ H Q=>ta σ H fun x H1=>r x H1 Q
def rI(C:Int→Int→Prop)(g:Int→Int→V):R2:=fun x y H Q=>∃i j,x=.int i∧y=.int j∧C i j∧Q (g i j) H
def Si(g:Int→Int→V):R2:=fun x y H Q=>∃i j,x=.int i∧y=.int j∧Q (g i j) H
def rU(g:Int→V):V→Hp→VK→Prop:=fun x H Q=>∃i,x=.int i∧Q (g i) H
section
variable{X:Cx}{a b c:Expr}{ta tb tc:TE}{pos:Pos}
theorem WJ(ha:PE X a ta)(hb:PE X b tb){pins:List (Addr×Obj)}{s:a9}{σ:St}{H:Hp}{R:V→V→Hp→Prop}(I:Inv X pins σ H s)
  (h:ta σ H fun x H1=>tb σ H1 fun y H2=>R x y H2) {Q:Value→a9→Prop} {f:Value→Value→Sem Value}
  (hf:∀v u s2 x y H2,Inv X pins σ H2 s2→RelV x v→RelV y u→R x y H2→wpAny (model X.prog X.w) X.A (f v u) Q X.xe s2):
  wpAny (model X.prog X.w) X.A (eval a X.env) (fun v s₁=>wpAny (model X.prog X.w) X.A (eval b X.env) (fun u s₂=>wpAny (model X.prog X.w) X.A (f v u) Q X.xe s₂) X.xe s₁) X.xe s:=by
 refine BB (ha pins s σ H _ I h) fun v s1 ⟨x,H1,I1,r1,q1⟩=>?_
 refine BB (hb pins s1 σ H1 _ I1 q1) fun u s2 ⟨y,H2,I2,r2,q2⟩=>?_
 exact hf v u s2 x y H2 I2 r1 r2 q2
theorem Yn{op:ng}{r:R2}(ho:DD X (jl op) r)(ha:PE X a ta)(hb:PE X b tb):PE X (.BinOp a op b pos) (Ym r ta tb):=by
 intro pins s σ H Q I h
 exact wpAny_BinOp (WJ ha hb I h fun v u s2 x y H2 I2 rx ry q=>ho pins s2 σ H2 x y v u Q I2 rx ry q)
theorem VD{op:UnaryOp}{r:V→Hp→VK→Prop}(ho:ab X (unaryOp op) r)(ha:PE X a ta):PE X (.UnaryOp op a pos) (cZ r ta):=by
 intro pins s σ H Q I h
 exact UnaryOp_ (BB (ha pins s σ H _ I h) fun v s1 ⟨x,H1,I1,r1,q1⟩=>ho pins s1 σ H1 x v Q I1 r1 q1)
theorem ae{f:Value→Value→Sem Value}{C:Int→Int→Prop}{g:Int→Int→Int}
  (rule:∀(i j:Int) (t u:Tok) (s:a9) (Q:Value→a9→Prop) (E:Value→a9→Prop),C i j→Q (.int (g i j) s.toks) {s with toks:=s.toks+1}→wpAny (model X.prog X.w) X.A (f (.int i t) (.int j u)) Q E s):
  DD X f (rI C fun i j=> .int (g i j)):=by
 intro pins s σ H x y v u Q I rx ry h
 obtain⟨i,j,rfl,rfl,hc,q⟩:=h
 obtain⟨t,rfl⟩:=rx
 obtain⟨t',rfl⟩:=ry
 exact rule i j t t' s _ _ hc ⟨.int (g i j),H,I.tok _,⟨_,rfl⟩,q⟩
theorem Yo{f:Value→Value→Sem Value}{g:Int→Int→Int}
  (rule:∀(i j:Int) (t u:Tok) (s:a9) (Q:Value→a9→Prop) (E:Value→a9→Prop),Q (.int (g i j) s.toks) {s with toks:=s.toks+1}→wpAny (model X.prog X.w) X.A (f (.int i t) (.int j u)) Q E s):
  DD X f (Si fun i j=> .int (g i j)):=by
 intro pins s σ H x y v u Q I rx ry h
 obtain⟨i,j,rfl,rfl,q⟩:=h
 obtain⟨t,rfl⟩:=rx
 obtain⟨t',rfl⟩:=ry
 exact rule i j t t' s _ _ ⟨.int (g i j),H,I.tok _,⟨_,rfl⟩,q⟩
theorem Sw{f:Value→Value→Sem Value}{g:Int→Int→Bool}
  (rule:∀(i j:Int) (t u:Tok) (s:a9) (Q:Value→a9→Prop) (E:Value→a9→Prop),Q (.bool (g i j)) s→wpAny (model X.prog X.w) X.A (f (.int i t) (.int j u)) Q E s):
  DD X f (Si fun i j=> .bl (g i j)):=by
 intro pins s σ H x y v u Q I rx ry h
 obtain⟨i,j,rfl,rfl,q⟩:=h
 obtain⟨t,rfl⟩:=rx
 obtain⟨t',rfl⟩:=ry
 exact rule i j t t' s _ _ ⟨.bl (g i j),H,I,rfl,q⟩
def Yp(i j:Int):Prop:=0<j∧j<1073741824
def Yq(i j:Int):Prop:=0≤j∧j≤1000000∧i.natAbs<2^64
def CMul(i j:Int):Prop:=(-(2^64)<i∧i<2^64)∨(-(2^64)<j∧j<2^64)
theorem CMul.ok{i j:Int}(h:CMul i j):IntMulOk i j:=by
 rcases h with⟨h1,h2⟩| ⟨h1,h2⟩
 ·exact .of_left (intBits_le_64 h1 h2)
 ·exact .of_right (intBits_le_64 h1 h2)
theorem FN:DD X (jl .Add) (Si fun i j=> .int (i+j)):=Yo fun _ _ _ _ _ _ _ q=>add_int q
theorem WK:DD X (jl .Sub) (Si fun i j=> .int (i-j)):=Yo fun _ _ _ _ _ _ _ q=>sub_int q
theorem WL:DD X (jl .Mult) (rI CMul fun i j=> .int (i*j)):=ae fun _ _ _ _ _ _ _ hc q=>mul_int q hc.ok
theorem Sx:DD X (jl .FloorDiv) (rI Yp fun i j=> .int (i/j)):=ae fun i j _ _ _ _ _ hc q=>by
 have h1:(0:Int)<j:=hc.1
 have h2:j<1073741824:=hc.2
 exact floordiv_int (by omega) (by rw[Int.fdiv_eq_ediv_of_nonneg i (by omega)];exact q) (.inl (PyProof.noPylong_small (by omega)))
theorem Py:DD X (jl .Mod) (rI (fun _ j=>0<j) fun i j=> .int (i%j)):=ae fun i j _ _ _ _ _ hc q=>by
 have h1:(0:Int)<j:=hc
 exact mod_int' (by omega) (by rw[Int.fmod_eq_emod_of_nonneg i (by omega)];exact q)
theorem WM:DD X (jl .Pow) (rI Yq fun i j=> .int (i^j.toNat)):=ae fun _ _ _ _ _ _ _ hc q=>pow_int_small hc.1 hc.2.1 hc.2.2 q
theorem cb{f:Value→Sem Value}{g:Int→Int}
  (rule:∀(i:Int) (t:Tok) (s:a9) (Q:Value→a9→Prop) (E:Value→a9→Prop),Q (.int (g i) s.toks) {s with toks:=s.toks+1}→wpAny (model X.prog X.w) X.A (f (.int i t)) Q E s):
  ab X f (rU fun i=> .int (g i)):=by
 intro pins s σ H x v Q I rx h
 obtain⟨i,rfl,q⟩:=h
 obtain⟨t,rfl⟩:=rx
 exact rule i t s _ _ ⟨.int (g i),H,I.tok _,⟨_,rfl⟩,q⟩
theorem Pz:ab X (unaryOp .USub) (rU fun i=> .int (-i)):=cb fun _ _ _ _ _ q=>neg_int q
end
def Yr:V→V→Bool
 | .non,.non=>true| .non,.int _=>true| .int _,.non=>true| .non,.bl _=>true| .bl _,.non=>true| .non,.str _=>true| .str _,.non=>true
 | .int _,.int _=>true| .bl _,.bl _=>true| .str _,.str _=>true| .byt _,.byt _=>true
 | .int _,.str _=>true| .str _,.int _=>true| .bl _,.str _=>true| .str _,.bl _=>true
 |_,_=>false
def cJ:R2:=fun x y H Q=>Yr x y=true∧Q (.bl (decide (x=y))) H
def af:R2:=fun x y H Q=>Yr x y=true∧Q (.bl (!decide (x=y))) H
theorem NI{i j:Int}:decide (V.int i=V.int j)=(i==j):=by
 rw[ic]
 simp
theorem MH{i j:Bool}:decide (V.bl i=V.bl j)=(i==j):=by
 rw[ic]
 simp
theorem NJ{i j:Str}:decide (V.str i=V.str j)=(i==j):=by
 rw[ic]
 simp
theorem NK{i j:Array UInt8}:decide (V.byt i=V.byt j)=(i.toList==j.toList):=by
 rw[ic]
 cases i
 cases j
 simp
section
variable{X:Cx}{a b c:Expr}{ta tb tc:TE}{pos:Pos}
theorem Aa{pins:List (Addr×Obj)}{σ:St}{H:Hp}{s:a9}{Q:VK}{k k':Bool}(I:Inv X pins σ H s)(q:Q (.bl k) H)(e:k=k'):EP X pins σ Q (.bool k') s:=by
 subst e
 exact⟨.bl k,H,I,rfl,q⟩
theorem QA:DD X (gM .Eq) cJ:=by
 intro pins s σ H x y v u Q I rx ry h
 obtain⟨hs,q⟩:=h
 cases x with
 |non=>
  cases rx
  cases y with
  |non=>cases ry;exact PySem.EqNone.eq_none_none (Aa I q (by simp))
  |bl j=>cases ry;exact PySem.EqNone.eq_none_bool (Aa I q (by simp))
  |int j=>obtain⟨t',rfl⟩:=ry;exact PySem.EqNone.eq_none_int (Aa I q (by simp))
  |str j=>obtain⟨t',rfl⟩:=ry;exact PySem.EqNone.eq_none_str (Aa I q (by simp))
  |_=>exact absurd (show false=true from hs) eC
 |bl i=>
  cases rx
  cases y with
  |non=>cases ry;exact PySem.EqNone.eq_bool_none (Aa I q (by simp))
  |bl j=>cases ry;exact eq_bool (Aa I q MH)
  |str j=>obtain⟨t',rfl⟩:=ry;exact PySem.EqMixed.eq_bool_str (Aa I q (by simp))
  |_=>exact absurd (show false=true from hs) eC
 |int i=>
  obtain⟨t,rfl⟩:=rx
  cases y with
  |non=>cases ry;exact PySem.EqNone.eq_int_none (Aa I q (by simp))
  |int j=>obtain⟨t',rfl⟩:=ry;exact eq_int (Aa I q NI)
  |str j=>obtain⟨t',rfl⟩:=ry;exact PySem.EqMixed.eq_int_str (Aa I q (by simp))
  |_=>exact absurd (show false=true from hs) eC
 |str i=>
  obtain⟨t,rfl⟩:=rx
  cases y with
  |non=>cases ry;exact PySem.EqNone.eq_str_none (Aa I q (by simp))
  |bl j=>cases ry;exact PySem.EqMixed.eq_str_bool (Aa I q (by simp))
  |int j=>obtain⟨t',rfl⟩:=ry;exact PySem.EqMixed.eq_str_int (Aa I q (by simp))
  |str j=>obtain⟨t',rfl⟩:=ry;exact eq_str (Aa I q NJ)
  |_=>exact absurd (show false=true from hs) eC
 |byt i=>
  obtain⟨t,rfl⟩:=rx
  cases y with
  |byt j=>obtain⟨t',rfl⟩:=ry;exact PySem.W.eq_bytes (Aa I q NK)
  |_=>exact absurd (show false=true from hs) eC
 |_=>cases y<;>exact absurd (show false=true from hs) eC
theorem Km:DD X (gM .NotEq) af:=by
 intro pins s σ H x y v u Q I rx ry h
 obtain⟨hs,q⟩:=h
 cases x with
 |non=>
  cases rx
  cases y with
  |non=>cases ry;exact PySem.EqNone.ne_none_none (Aa I q (by simp))
  |bl j=>cases ry;exact PySem.EqNone.ne_none_bool (Aa I q (by simp))
  |int j=>obtain⟨t',rfl⟩:=ry;exact PySem.EqNone.ne_none_int (Aa I q (by simp))
  |str j=>obtain⟨t',rfl⟩:=ry;exact PySem.EqNone.ne_none_str (Aa I q (by simp))
  |_=>exact absurd (show false=true from hs) eC
 |bl i=>
  cases rx
  cases y with
  |non=>cases ry;exact PySem.EqNone.ne_bool_none (Aa I q (by simp))
  |bl j=>cases ry;exact ne_bool (Aa I q (congrArg not MH))
  |str j=>obtain⟨t',rfl⟩:=ry;exact PySem.EqMixed.ne_bool_str (Aa I q (by simp))
  |_=>exact absurd (show false=true from hs) eC
 |int i=>
  obtain⟨t,rfl⟩:=rx
  cases y with
  |non=>cases ry;exact PySem.EqNone.ne_int_none (Aa I q (by simp))
  |int j=>obtain⟨t',rfl⟩:=ry;exact ne_int (Aa I q (congrArg not NI))
  |str j=>obtain⟨t',rfl⟩:=ry;exact PySem.EqMixed.ne_int_str (Aa I q (by simp))
  |_=>exact absurd (show false=true from hs) eC
 |str i=>
  obtain⟨t,rfl⟩:=rx
  cases y with
  |non=>cases ry;exact PySem.EqNone.ne_str_none (Aa I q (by simp))
  |bl j=>cases ry;exact PySem.EqMixed.ne_str_bool (Aa I q (by simp))
  |int j=>obtain⟨t',rfl⟩:=ry;exact PySem.EqMixed.ne_str_int (Aa I q (by simp))
  |str j=>obtain⟨t',rfl⟩:=ry;exact ne_str (Aa I q (congrArg not NJ))
  |_=>exact absurd (show false=true from hs) eC
 |byt i=>
  obtain⟨t,rfl⟩:=rx
  cases y with
  |byt j=>obtain⟨t',rfl⟩:=ry;exact PySem.W.ne_bytes (Aa I q (congrArg not NK))
  |_=>exact absurd (show false=true from hs) eC
 |_=>cases y<;>exact absurd (show false=true from hs) eC
theorem QB:DD X (gM .Lt) (Si fun i j=> .bl (decide (i<j))):=Sw fun _ _ _ _ _ _ _ q=>lt_int q
theorem QC:DD X (gM .LtE) (Si fun i j=> .bl (decide (i≤j))):=Sw fun _ _ _ _ _ _ _ q=>le_int q
theorem Ys:DD X (gM .Gt) (Si fun i j=> .bl (decide (j<i))):=Sw fun _ _ _ _ _ _ _ q=>gt_int q
theorem Yt:DD X (gM .GtE) (Si fun i j=> .bl (decide (j≤i))):=Sw fun _ _ _ _ _ _ _ q=>ge_int q
theorem WN:DD X (gM .Is) (fun x y H Q=>y=.non∧Q (.bl (decide (x=.non))) H):=by
 intro pins s σ H x y v u Q I rx ry h
 obtain⟨rfl,q⟩:=h
 cases ry
 refine is_none_gen (Aa I q ?_)
 cases x<;>first
  | (cases rx;rfl)
  | (obtain⟨t,rfl⟩:=rx;rfl)
theorem Sy:DD X (gM .IsNot) (fun x y H Q=>y=.non∧Q (.bl (!decide (x=.non))) H):=by
 intro pins s σ H x y v u Q I rx ry h
 obtain⟨rfl,q⟩:=h
 cases ry
 refine isnot_none_gen (Aa I q ?_)
 cases x<;>first
  | (cases rx;rfl)
  | (obtain⟨t,rfl⟩:=rx;rfl)
theorem Av(b:Expr){op:CmpOp}(h:op≠.In:=by decide)(h2:op≠.NotIn:=by decide):behindInMarks op b=false:=by
 have e1:(op==CmpOp.In)=false:=by cases op<;>first|rfl|exact absurd rfl h
 have e2:(op==CmpOp.NotIn)=false:=by cases op<;>first|rfl|exact absurd rfl h2
 cases b<;>simp[behindInMarks,e1,e2]
theorem Sz{op:CmpOp}{r:R2}(ho:DD X (gM op) r)(ha:PE X a ta)(hb:PE X b tb)(hm:behindInMarks op b=false):PE X (.Compare a [op] [b] pos) (Ym r ta tb):=by
 intro pins s σ H Q I h
 exact wpAny_Compare1 (WJ ha hb I h fun v u s2 x y H2 I2 rx ry q=>ho pins s2 σ H2 x y v u Q I2 rx ry q) hm
def Yu(t:TE):TT:=fun σ H Q=>t σ H fun x H'=>∃k,x=.bl k∧Q k H'
theorem NL{op:CmpOp}{r:R2}(ho:DD X (gM op) r)(ha:PE X a ta)(hb:PE X b tb)(hm:behindInMarks op b=false):PT X (.Compare a [op] [b] pos) (Yu (Ym r ta tb)):=by
 intro pins s σ H Q I h
 refine wpAny_isTrue_Compare1 (BB (ha pins s σ H _ I h) fun v s1 ⟨x,H1,I1,r1,q1⟩=>BB (hb pins s1 σ H1 _ I1 q1) fun u s2 ⟨y,H2,I2,r2,q2⟩=>
  BB (ho pins s2 σ H2 x y v u _ I2 r1 r2 q2) fun c s3 ⟨z,H3,I3,r3,k,e,q3⟩=>?_) hm
 subst e
 cases r3
 exact iZ ⟨H3,I3,q3⟩
def WO(r r':R2)(ta tb tc:TE):TE:=fun σ H Q=>ta σ H fun x H1=>tb σ H1 fun y H2=>r x y H2 fun z H3=>∃k,z=.bl k∧
 (if k=true then tc σ H3 fun w' H4=>r' y w' H4 Q else Q (.bl false) H3)
theorem QD{op op':CmpOp}{r r':R2}(ho:DD X (gM op) r)(ho':DD X (gM op') r')(ha:PE X a ta)(hb:PE X b tb)(hc:PE X c tc)
  (hm:lastMarks [op,op'] [b,c]=false:=by with_unfolding_all rfl):PE X (.Compare a [op,op'] [b,c] pos) (WO r r' ta tb tc):=by
 intro pins s σ H Q I h
 refine Compare_chain (BB (ha pins s σ H _ I h) fun v s1 ⟨x,H1,I1,r1,q1⟩=>chain_link (BB (hb pins s1 σ H1 _ I1 q1) fun u s2 ⟨y,H2,I2,r2,q2⟩=>
  BB (ho pins s2 σ H2 x y v u _ I2 r1 r2 q2) fun d s3 ⟨z,H3,I3,r3,k,e,q3⟩=>?_)) hm
 subst e
 cases r3
 refine iZ ?_
 cases k with
 |false=>exact ite_ff ⟨.bl false,H3,I3,rfl,q3⟩
 |true=>exact ite_tt (chain_last (BB (hc pins s3 σ H3 _ I3 q3) fun w' s4 ⟨z',H4,I4,r4,q4⟩=>ho' pins s4 σ H4 y z' u w' Q I4 r2 r4 q4))
def WQ(K:a8)(x:V)(H:Hp)(k:Bool):Prop:=
 match x with
 | .non=>k=false
 | .bl b=>k=b
 | .int i=>k=(i !=0)
 | .str y=>y.length≤sizeLine∧k=((y.length:Int) !=0)
 | .byt y=>y.size≤sizeLine∧k=((y.size:Int) !=0)
 | .ref p=> (∃xs,EY K H p xs∧k=!xs.isEmpty)∨(∃xs,DV K H p xs∧k=!xs.isEmpty)∨∃kvs,H p=some (.dK kvs)∧k=!kvs.isEmpty
 |_=>False
theorem MI{κ:Type}{kvs:List (κ×V)}{vs:List (κ×Value)}(r:KV kvs vs):(!vs.isEmpty)=!kvs.isEmpty:=by
 cases r<;>rfl
theorem Gj{xs:List V}{its:List Value}(r:Vals xs its):(!its.toArray.isEmpty)=!xs.isEmpty:=by
 cases r<;>simp
theorem Gk:(sizeLine:Nat)<2^63:=by rw[gC];decide
theorem WR:bN X (fun x H Q=>∃k,WQ X.K x H k∧Q k H):=by
 intro pins s σ H x v Q I rx h
 obtain⟨k,e,q⟩:=h
 have hl:=Gk
 have hs:sizeLine=16777216:=gC
 cases x with
 |non=>
  cases rx
  have e':k=false:=e
  subst e'
  exact truthy_none ⟨H,I,q⟩
 |bl b=>
  cases rx
  have e':k=b:=e
  subst e'
  exact iZ ⟨H,I,q⟩
 |int i=>
  obtain⟨t,rfl⟩:=rx
  have e':k=(i !=0):=e
  subst e'
  exact PySem.P.truthy_int ⟨H,I,q⟩
 |str y=>
  obtain⟨t,rfl⟩:=rx
  obtain⟨hy,e'⟩:y.length≤sizeLine∧k=((y.length:Int) !=0):=e
  subst e'
  exact PySem.P.truthy_str (by omega) ⟨H,I.tok _,q⟩
 |byt y=>
  obtain⟨t,rfl⟩:=rx
  obtain⟨hy,e'⟩:y.size≤sizeLine∧k=((y.size:Int) !=0):=e
  subst e'
  exact PySem.W.truthy_bytes (by omega) ⟨H,I.tok _,q⟩
 |ref p=>
  cases rx
  have e':(∃xs,EY X.K H p xs∧k=!xs.isEmpty)∨(∃xs,DV X.K H p xs∧k=!xs.isEmpty)∨∃kvs,H p=some (.dK kvs)∧k=!kvs.isEmpty:=e
  rcases e' with⟨xs,hx,e'⟩| ⟨xs,hx,e'⟩| ⟨kvs,hx,e'⟩
  ·subst e'
   obtain⟨its,r,pl,hz⟩:=I.list hx
   have hlen:=r.length
   exact wpAny_truthy_list pl.isList (by simp only[eP];omega) ⟨H,I.tok _,by rw[Gj r];exact q⟩
  ·subst e'
   obtain⟨its,r,pl,hz⟩:=I.tuple hx
   have hlen:=r.length
   exact truthy_tuple pl (by simp only[eP];omega) ⟨H,I.tok _,by rw[Gj r];exact q⟩
  ·subst e'
   obtain⟨hz,hS,vs,r,m⟩:kvs.length≤sizeLine∧(p==nQ)=false∧∃vs,KV kvs vs∧s.heap.DictOf (JP X.prog X.w) p vs:=I.hok p _ hx
   have hlen:kvs.length=vs.length:=Paired.length r
   exact wpAny_truthy_dict hS m (by omega) ⟨H,I.tok _,by rw[MI r];exact q⟩
 |_=>exact(show False from e).elim
theorem QE(ha:PE X a ta)(he:∀whole,isTrue a X.env whole=(do let v←whole;standAt a.pos;holding [v] (truthy v))):
  PT X a (fun σ H Q=>ta σ H fun x H'=>∃k,WQ X.K x H' k∧Q k H'):=by
 intro pins s σ H Q I h
 exact isTrue_plain (BB (ha pins s σ H _ I h) fun v s1 ⟨x,H1,I1,r1,q1⟩=>WR pins s1 σ H1 x v Q I1 r1 q1) (he _)
theorem DP{x:V}{us:List Value}(r:Vals [x] us):∃u,us=[u]∧RelV x u:=by
 cases r with
 |cons r1 r2=>cases r2;exact⟨_,rfl,r1⟩
theorem NM{x y:V}{us:List Value}(r:Vals [x,y] us):∃u w',us=[u,w']∧RelV x u∧RelV y w':=by
 cases r with
 |cons r1 r2=>
  cases r2 with
  |cons r3 r4=>cases r4;exact⟨_,_,rfl,r1,r3⟩
theorem Oj(hc:X.calm=true):Au X (.builtin "max") (fun xs H Q=>∃i j,xs=[.int i,.int j]∧Q (.int (if j>i then j else i)) H):=by
 intro pins s σ H xs us Q I r h
 obtain⟨i,j,rfl,q⟩:=h
 obtain⟨u,w',rfl,⟨t,rfl⟩,⟨t',rfl⟩⟩:=NM r
 refine max_two_ints (I.ok.hd hc) fun h' tk k=> ⟨_,H,I.kept k,?_,q⟩
 by_cases hj:j>i
 ·rw[if_pos hj,if_pos hj];exact⟨_,rfl⟩
 ·rw[if_neg hj,if_neg hj];exact⟨_,rfl⟩
theorem Ol(hc:X.calm=true):Au X (.builtin "min") (fun xs H Q=>∃i j,xs=[.int i,.int j]∧Q (.int (if j<i then j else i)) H):=by
 intro pins s σ H xs us Q I r h
 obtain⟨i,j,rfl,q⟩:=h
 obtain⟨u,w',rfl,⟨t,rfl⟩,⟨t',rfl⟩⟩:=NM r
 refine min_two_ints (I.ok.hd hc) fun h' tk k=> ⟨_,H,I.kept k,?_,q⟩
 by_cases hj:j<i
 ·rw[if_pos hj,if_pos hj];exact⟨_,rfl⟩
 ·rw[if_neg hj,if_neg hj];exact⟨_,rfl⟩
theorem Om:Au X (.type "int") (fun xs H Q=> (∃i,xs=[.int i]∧Q (.int i) H)∨∃k,xs=[.bl k]∧Q (.int (if k then 1 else 0)) H):=by
 intro pins s σ H xs us Q I r h
 rcases h with⟨i,rfl,q⟩| ⟨k,rfl,q⟩
 ·obtain⟨u,rfl,t,rfl⟩:=DP r
  exact call_int_int ⟨.int i,H,I,⟨_,rfl⟩,q⟩
 ·obtain⟨u,rfl,r1⟩:=DP r
  cases r1
  exact call_int_bool ⟨.int (if k then 1 else 0),H,I.tok _,⟨_,rfl⟩,q⟩
end
structure ObjM(h:Heap)(x dx C:Addr)(mA:Str→Option Value):Prop where
 obj:h.get? x=some (mP C dx)
 ns:h.Ns1 dx mA
 ne:dx≠x
theorem On{h:Heap}{dx:Addr}{mA:Str→Option Value}(n:h.Ns1 dx mA):∃od,h.get? dx=some od∧∀name,m6 name od=some (mA name):=by
 obtain⟨o,es,ep,ho,hd,hk,_,hm⟩:=n
 refine⟨o,ho,fun name=>?_⟩
 have e:=hm name
 unfold nsFind findBy at e
 rw[←Array.find?_toList] at e
 unfold m6
 rw[hd]
 dsimp only
 split
 ·rename_i y q
  rw[q] at e
  exact congrArg some e
 ·rename_i q
  rw[q] at e
  have a:es.toList.any (·.refKey)=false:=by
   rw[List.any_eq_false]
   intro y hy
   obtain⟨z,t,hkey⟩:=hk y (Array.mem_toList_iff.mp hy)
   simp[DictEntry.refKey,hkey]
  have a':¬es.toList.any (·.refKey)=true:=by rw[a];exact eC
  rw[if_neg a']
  exact congrArg some e
theorem ObjM.look{h:Heap}{x dx C:Addr}{mA:Str→Option Value}(I:ObjM h x dx C mA):∃od,PySem.W.InstAt h x (mP C dx) C (some od)∧∀name,m6 name od=some (mA name):=
 let⟨od,ho,hl⟩:=On I.ns
 ⟨od,⟨I.obj,rfl,rfl,ho⟩,hl⟩
section
variable{prog:Program}{w:World}{A:eU}{E:Value→a9→Prop}{s:a9}{K:a8}{x dx C f:Addr}{mA:Str→Option Value}{name:Str}{v:Value}
end
section
variable{P:Program}{w:World}{H H':Hp}{h h':Heap}{a C dx:Addr}{fs fs':List (Str×V)}
theorem TB(hok:HOk P w H h)(e:H a=some (.ins C dx fs)):∃mA,ObjM h a dx C mA∧(∀f,Sm (fs.lookup f) (mA f))∧n8 mA (fs.map (·.1))∧fs.length≤1000∧H dx=some (.own a):=by
 obtain⟨d,z,ne,ob,mA,n,r,q⟩:=(show ObjOk P w H h a (.ins C dx fs) from hok a _ e)
 exact⟨mA,⟨ob,n,ne⟩,r,q,z,d⟩
end
structure Cls(K:a8)(C:Addr):Prop where
 pg:PySem.W.plainGet K C Str.empty=true
 hd:PySem.W.hasDictIn K C=true
 po:PySem.W.plainOver K C=true
 sa:kH K (.ref C) "__setattr__" =some (some (.builtin "object.__setattr__"))
theorem Cls.get{K:a8}{C:Addr}(c:Cls K C)(f:Str):PySem.W.plainGet K C f=true:=c.pg
section
variable{X:Cx}{pins:List (Addr×Obj)}{σ:St}{H:Hp}{s:a9}{a C dx:Addr}{fs:List (Str×V)}{f:Str}{v:V}{A:eU}{E:Value→a9→Prop}
end
section
variable{X:Cx}{o e value:Expr}{f:Str}{pos pos' tpos:Pos}{ta tv:TE}
end
section
variable{X:Cx}{pins:List (Addr×Obj)}{σ:St}{H:Hp}{s:a9}{A:eU}{E:Value→a9→Prop}{Q:Value→a9→Prop}{c:Value}{b:Bool}
inductive TyOf(K:a8)(H:Hp):V→Value→Prop where
 |non:TyOf K H .non (.type "NoneType")
 |bl (x:Bool):TyOf K H (.bl x) (.type "bool")
 |int (i:Int):TyOf K H (.int i) (.type "int")
 |str (x:Str):TyOf K H (.str x) (.type "str")
 |flt (x:UInt64):TyOf K H (.flt x) (.type "float")
 |lst {a:Addr} {xs:List V} (e:H a=some (.lst xs)):TyOf K H (.ref a) (.type "list")
 |frz {a:Addr} {o:Obj} {xs:List V} (e:H a=some (.frz o (.lst xs))):TyOf K H (.ref a) (.type "list")
 |tup {a:Addr} {xs:List V} (e:H a=some (.tup xs)):TyOf K H (.ref a) (.type "tuple")
 |dK {a:Addr} {kvs:List (Kf×V)} (e:H a=some (.dK kvs)):TyOf K H (.ref a) (.type "dict")
 |dT {a:Addr} {kvs:List (List Kf×V)} (e:H a=some (.dT kvs)):TyOf K H (.ref a) (.type "dict")
 |ins {a C dx:Addr} {fs:List (Str×V)} (e:H a=some (.ins C dx fs)) (cl:Cls K C) (ha:kH K (.ref C) "__class__" =some (some (.builtin "object.__class__")))
   (hn:PySem.W.specialIn K (.builtin "object.__class__") "__get__" =some (some (.builtin "getset_descriptor.__get__"))) (htk:PySem.W.takesIn K (.builtin "object.__class__")=some true)
   (hm:me K C (.type "object")=some true):TyOf K H (.ref a) (.ref C)
theorem Oo{x:V}{u t:Value}(I:Inv X pins σ H s)(rx:RelV x u)(ty:TyOf X.K H x t)(e:fe X.K t c=some b)(h:∀tk,Q (.bool b) {s with toks:=tk}):
  wpAny (model X.prog X.w) A (call (.builtin "isinstance") [u,c]) Q E s:=by
 cases ty with
 |non=>cases(show u=iS from rx);exact gP PySem.W.kitx_none I.kIn mH e (fun z=>nomatch z) h
 |bl y=>cases(show u=lN y from rx);exact gP PySem.W.kitx_bool I.kIn mH e (fun z=>nomatch z) h
 |int i=>obtain⟨t,q⟩:=(show∃t,u=kR i t from rx);cases q;exact gP PySem.W.kitx_int I.kIn mH e (fun z=>nomatch z) h
 |str y=>obtain⟨t,q⟩:=(show∃t,u=ou y t from rx);cases q;exact gP PySem.W.kitx_str I.kIn mH e (fun z=>nomatch z) h
 |flt y=>obtain⟨t,q⟩:=(show∃t,u=Value.float y t from rx);cases q;exact gP PySem.W.kitx_float I.kIn mH e (fun z=>nomatch z) h
 | @lst a xs ea=>
  cases(show u=Value.ref a from rx)
  obtain⟨_,_,n,_,h1⟩:=(show ObjOk X.prog X.w H s.heap a (.lst xs) from I.hok a _ ea)
  exact gP PySem.W.kitx_list I.kIn ⟨_,h1,rfl⟩ e (fun z=>nomatch z) h
 | @frz a ob xs ea=>
  cases(show u=Value.ref a from rx)
  obtain⟨_,_,_,n,_,h1⟩:=(show ObjOk X.prog X.w H s.heap a (.frz ob (.lst xs)) from I.hok a _ ea)
  exact gP PySem.W.kitx_list I.kIn ⟨_,h1,rfl⟩ e (fun z=>nomatch z) h
 | @tup a xs ea=>
  cases(show u=Value.ref a from rx)
  obtain⟨_,_,_,p⟩:=(show ObjOk X.prog X.w H s.heap a (.tup xs) from I.hok a _ ea)
  obtain⟨o,h1,h2,_⟩:=p
  exact gP PySem.W.kitx_tuple I.kIn ⟨o,h1,h2⟩ e (fun z=>nomatch z) h
 | @dK a kvs ea=>
  cases(show u=Value.ref a from rx)
  obtain⟨_,_,vs,_,p⟩:=(show ObjOk X.prog X.w H s.heap a (.dK kvs) from I.hok a _ ea)
  obtain⟨o,es,ep,h1,h2,_⟩:=p
  exact gP PySem.W.kitx_dict I.kIn ⟨o,h1,h2.1⟩ e (fun z=>nomatch z) h
 | @dT a kvs ea=>
  cases(show u=Value.ref a from rx)
  obtain⟨_,_,xs,_,o,es,ep,h1,h2,_⟩:=(show ObjOk X.prog X.w H s.heap a (.dT kvs) from I.hok a _ ea)
  exact gP PySem.W.kitx_dict I.kIn ⟨o,h1,h2.1⟩ e (fun z=>nomatch z) h
 | @ins a C dx fs ea cl ha hn htk hm=>
  cases(show u=Value.ref a from rx)
  obtain⟨mA,O,_⟩:=TB I.hok ea
  obtain⟨od,J,_⟩:=O.look
  exact gP (PySem.W.kitx_own (cl.get _) cl.hd ha hn htk hm) I.kIn J e (fun z=>nomatch z) h
end
structure Room(k:Nat)(A:eU):Prop where
 hd:A.handled=none
 dp:A.depth+3*k+5<recursionLimit
 un:A.units+16*k+200<cLine
 gd:A.guards=some []
theorem Room.mono{j k:Nat}{A:eU}(r:Room k A)(h:j≤k):Room j A:=⟨r.hd,by have:=r.dp;omega,by have:=r.un;omega,r.gd⟩
theorem Room.deeper{k:Nat}{A:eU}(r:Room (k+1) A)(env:Env):Room k (A.deeper env):=
 ⟨r.hd,by have:=r.dp;show A.depth+1+3*k+5<_;omega,by have:=r.un;show A.units+3+16*k+200<_;omega,r.gd⟩
theorem Room.depth{k:Nat}{A:eU}(r:Room k A):A.depth<recursionLimit:=by have:=r.dp;omega
def bO:TA:=fun _ H Q=>Q [] H
def Yv(ta:TE)(tr:TA):TA:=fun σ H Q=>ta σ H fun x H1=>tr σ H1 fun xs H2=>Q (x::xs) H2
section
variable{X:Cx}{e:Expr}{es:List Expr}{te:TE}{t:TA}{pos:Pos}
theorem Gm:PA X [] bO:=fun _ _ _ _ H Q I h=>Calls.spliced_nil ⟨[],H,I,.nil,h⟩
theorem Eb(ha:PE X e te)(hr:PA X es t)(hs:du (e::es) X.env=(false,eval e X.env)::du es X.env:=by rfl):PA X (e::es) (Yv te t):=by
 intro pos pins s σ H Q I h
 rw[hs]
 show wpAny _ _ (spliced ((false,eval e X.env)::i7 pos (du es X.env))) _ _ s
 refine Calls.spliced_cons (BB (ha pins s σ H _ I h) fun u s1 ⟨x,H1,I1,r1,q1⟩=>?_)
 exact BB (hr pos pins s1 σ H1 _ I1 q1) fun us s2 ⟨xs,H2,I2,r2,q2⟩=> ⟨x::xs,H2,I2,.cons r1 r2,q2⟩
def bP(t:TA):TE:=fun σ H Q=>t σ H fun xs H1=>xs.length≤sizeLine∧∀p,H1 p=none→Q (.ref p) (upd H1 p (.tup xs))
def bQ(t:TA):TE:=fun σ H Q=>t σ H fun xs H1=>xs.length≤sizeLine∧∀p,H1 p=none→Q (.ref p) (upd H1 p (.lst xs))
theorem WU{x1}(h:PA X es t):PE X (.Tuple es x1 pos) (bP t):=by
 intro pins s σ H Q I hq
 refine wpAny_Tuple_spliced (BB (h pos pins s σ H _ I hq) fun us s1 ⟨xs,H1,I1,r,z,q⟩=> ⟨by rw[←r.length];exact z,?_⟩)
 have hf:H1 s1.heap.objs.size=none:=I1.hok.fresh (dv _)
 refine⟨.ref s1.heap.objs.size,upd H1 s1.heap.objs.size (.tup xs),I1.laid (t':=s1.toks) (fun b u e=>dm _ e) (dv _) ?_,rfl,q _ hf⟩
 exact⟨z,us,r,⟨_,eS _ rfl,rfl,_,rfl⟩⟩
theorem QF(h:PA X es t):PE X (.List es pos) (bQ t):=by
 intro pins s σ H Q I hq
 refine wpAny_List_spliced (BB (h pos pins s σ H _ I hq) fun us s1 ⟨xs,H1,I1,r,z,q⟩=> ⟨by rw[←r.length];exact z,?_⟩)
 have hf:H1 s1.heap.objs.size=none:=I1.hok.fresh (dv _)
 refine⟨.ref s1.heap.objs.size,upd H1 s1.heap.objs.size (.lst xs),I1.laid (t':=s1.toks) (fun b u e=>dm _ e) (dv _) ?_,rfl,q _ hf⟩
 exact⟨z,us,0,r,eS _ rfl⟩
end
abbrev Sp:=List V→Hp→VK→XK→Prop
abbrev Sj:=List Env→Hp→a9→XK→Value→a9→Prop
structure Env0(P:Program)(w:World)(K:a8)(mg:Str→Option Value)(base:Heap)(A:eU)(outer:List Env)(s:a9)(H:Hp):Prop where
 frames:A.frames=some outer
 mod:Mod K mg base
 bs:∀b o,base.get? b=some o→s.heap.get? b=some o∧H b=none
 bsz:base.objs.size≤s.heap.objs.size
 funs:s.heap.FunFrames base outer
 frf:∀b∈IG outer,H b=none
 hok:HOk P w H s.heap
 bare:lG s.gens
def CE(outer:List Env)(P:Program)(w:World)(H:Hp)(s:a9)(Q:VK)(u:Value)(s':a9):Prop:=
 ∃v H',s'.os=s.os∧lG s'.gens∧Un (IG outer) [] H H' s.heap s'.heap∧HOk P w H' s'.heap∧RelV v u∧Q v H'
def CR(CX:Sj)(outer:List Env)(P:Program)(w:World)(H:Hp)(s:a9)(Q:VK)(E:XK)(r:ow)(s':a9):Prop:=
 match r with
 | .ok (.ret u)=>CE outer P w H s Q u s'
 | .ok _=>False
 | .error e=>CX outer H s E e s'
structure FnOk(P:Program)(w:World)(K:a8)(mg:Str→Option Value)(base:Heap)(CX:Sj)(k:Nat)(f:Addr)(fd:fm)(ps:List Str)(sp:Sp):Prop where
 len:∀vs H Q E,sp vs H Q E→vs.length=ps.length
 run:∀(A:eU) (outer:List Env) (s:a9) (H:Hp) (args:Args) (us:List Value) (vs:List V) (Q:VK) (E:XK),Room k A→Env0 P w K mg base A outer s H→om s fd args (ps.zip us)→Vals vs us→sp vs H Q E→
  j1 (model P w) A (.call (.ref f) args) (CR CX outer P w H s Q E) s
section
variable{X:Cx}{pins:List (Addr×Obj)}{σ:St}{H:Hp}{s s':a9}
theorem Inv.env0(I:Inv X pins σ H s):Env0 X.prog X.w X.K X.mg X.base X.A X.stack s H:=
 ⟨I.ok.frames,I.ok.mod,I.bs,fo I.ok.bsz I.sz,I.stack,I.stkFree,I.hok,I.bare⟩
theorem Inv.after{Q:VK}{u:Value}(I:Inv X pins σ H s)(h:CE X.stack X.prog X.w H s Q u s'):EP X pins σ Q u s':=by
 obtain⟨v,H',os,bare,un,hok,r,q⟩:=h
 obtain⟨hh,g,d,t,os'⟩:=s'
 obtain rfl:os'=s.os:=os
 exact⟨v,H',I.call (h':=hh) (g':=g) (d':=d) (t':=t) (ch:=[]) un hok bare (fun b z=>absurd z (by simp)),r,q⟩
end
def Binds(K:a8)(fd:fm)(ps:List Str)(ds:List Value):Prop:=
 ∀(s:a9) (us:List Value),K.In s.heap→(us++ds).length=ps.length→om s fd ⟨us,[]⟩ (ps.zip (us++ds))
theorem Binds.all{K:a8}{fd:fm}{ps:List Str}(h:∀us:List Value,us.length=ps.length→bindArgs fd ⟨us,[]⟩=pure (ps.zip us)):Binds K fd ps []:=fun s us _ hl=>by
 rw[gE] at hl ⊢
 exact .of_eq (h us hl)
section
variable{X:Cx}{CX:Sj}{k:Nat}{f C:Addr}{fd:fm}{ps:List Str}{sp:Sp}{dvs:List V}{ds:List Value}{E:XK}{x m:Str}{p pos apos:Pos}{e o:Expr}{es:List Expr}{ta:TE}{t:TA}
end
section
variable{X:Cx}{CX:Sj}{k:Nat}{f C:Addr}{fd:fm}{ps ks:List Str}{sp:Sp}{E:XK}{x m:Str}{p pos apos kpos:Pos}{e o:Expr}{es:List Expr}{kws:List l7}{te ta:TE}{t tk:TA}{nm:Option Str}
variable{g:List Value→List Value→List Value}{gV:List V→List V→List V}
end
structure FnScope(N P:List Str)(sc:Scope):Prop where
 kind:sc.kind=.function
 co:sc.isCoroutine=false
 gen:sc.isGenerator=false
 nd:N.Nodup
 pre:N.take P.length=P
 par:∀x∈P,sc.names.lookup x=some .local∨sc.names.lookup x=some .cell
 nofree:∀y∈sc.names,y.2≠.free
theorem IW{kindOf:Str→Option NameKind}{x:Str}:∀{binds:List (Str×Value)} {m:Str→Option Value},(∀v,(x,v)∉binds)→bindL kindOf binds m x=m x
 | [],_,_=>rfl
 | (n,v)::r,m,h=>by
  unfold bindL
  rw[IW fun w hw=>h w (eF _ hw)]
  split
  ·have:x≠n:=by rintro rfl;exact h v eY
   simp[this]
  ·rfl
theorem IX{kindOf:Str→Option NameKind}{x:Str}:∀{binds:List (Str×Value)} {m:Str→Option Value},(∀v,(x,v)∉binds)→bindC kindOf binds m x=m x
 | [],_,_=>rfl
 | (n,v)::r,m,h=>by
  unfold bindC
  rw[IX fun w hw=>h w (eF _ hw)]
  split
  ·rfl
  ·have:x≠n:=by rintro rfl;exact h v eY
   simp[this]
theorem IY{kindOf:Str→Option NameKind}{x:Str}{v:Value}:∀{P:List Str} {vs:List Value} {i:Nat} {m:Str→Option Value},P.Nodup→P[i]?=some x→vs[i]?=some v→kindOf x=some .local→
  bindL kindOf (P.zip vs) m x=some v
 | [],_,_,_,_,h,_,_=>by simp at h
 |_::_,[],_,_,_,_,h,_=>by simp at h
 |p::P,w::vs,0,m,nd,h1,h2,hk=>by
  simp at h1 h2;subst h1;subst h2
  show bindL kindOf ((p,w)::P.zip vs) m p=_
  unfold bindL
  rw[IW fun v hv=> (fu.mp nd).1 (mS hv).1,if_pos hk]
  simp
 |p::P,w::vs,i+1,m,nd,h1,h2,hk=>by
  show bindL kindOf ((p,w)::P.zip vs) m x=_
  unfold bindL
  exact IY (i:=i) (fu.mp nd).2 (by simpa using h1) (by simpa using h2) hk
theorem IZ{kindOf:Str→Option NameKind}{x:Str}{v:Value}:∀{P:List Str} {vs:List Value} {i:Nat} {m:Str→Option Value},P.Nodup→P[i]?=some x→vs[i]?=some v→kindOf x≠some .local→
  bindC kindOf (P.zip vs) m x=some v
 | [],_,_,_,_,h,_,_=>by simp at h
 |_::_,[],_,_,_,_,h,_=>by simp at h
 |p::P,w::vs,0,m,nd,h1,h2,hk=>by
  simp at h1 h2;subst h1;subst h2
  show bindC kindOf ((p,w)::P.zip vs) m p=_
  unfold bindC
  rw[IX fun v hv=> (fu.mp nd).1 (mS hv).1,if_neg hk]
  simp
 |p::P,w::vs,i+1,m,nd,h1,h2,hk=>by
  show bindC kindOf ((p,w)::P.zip vs) m x=_
  unfold bindC
  exact IZ (i:=i) (fu.mp nd).2 (by simpa using h1) (by simpa using h2) hk
def start(N:List Str)(vs:List V):St:=vs.map some++eE (N.length-vs.length) none
def Cg(CX:Sj)(P:Program)(w:World)(K:a8)(mg:Str→Option Value)(base:Heap)(N:List Str)(qual:Str)(scope:Scope)(f:Addr)(cd:Value)(A:eU)(outer:List Env)(s:a9)(H:Hp)(E:XK):Cx where
 prog:=P
 w:=w
 K:=K
 mg:=mg
 base:=base
 A:=A.deeper (jr qual scope s.heap.objs.size f cd)
 N:=N
 s₀:=s
 H₀:=H
 env:=jr qual scope s.heap.objs.size f cd
 outer:=outer
 stack:=jr qual scope s.heap.objs.size f cd::outer
 ex:=[]
 calm:=true
 fn:=fun _=>true
 pn:=[]
 xe:=fun e s'=>wpAny (model P w) (A.deeper (jr qual scope s.heap.objs.size f cd)) (leaving (jr qual scope s.heap.objs.size f cd) e) (fun _ s''=>CX outer H s E e s'') (fun e' s''=>CX outer H s E e' s'') s'
theorem Kn{sc:Scope}{n:Nat}{x:Str}(h:sc.names.lookup x=some .cell):∃c,(iz n sc.names []).lookup x=some c:=by
 have q:=PySem.W.cellsFrom_some sc.names n [] (.inl h)
 exact Option.isSome_iff_exists.mp q
theorem Oq{CX:Sj}{P:Program}{w:World}{K:a8}{mg:Str→Option Value}{base:Heap}{N ps:List Str}{qual:Str}{scope:Scope}{f:Addr}{cd:Value}{A:eU}{outer:List Env}{s s1:a9}{H:Hp}{E:XK}{us:List Value}{vs:List V}
  (S:FnScope N ps scope) (hd:A.handled=none) (e0:Env0 P w K mg base A outer s H) (hl:vs.length=ps.length) (r:Vals vs us)
  (x:InCallC s s.heap.objs.size (bindL (jr qual scope s.heap.objs.size f cd).kindOf (ps.zip us) fun _=>none) (iz (s.heap.objs.size+1) scope.names []) (bindC (jr qual scope s.heap.objs.size f cd).kindOf (ps.zip us) fun _=>none) s1):
  Inv (Cg CX P w K mg base N qual scope f cd A outer s H E) [] (start N vs) H s1:=by
 have hpl:ps.length≤N.length:=by have:=congrArg List.length S.pre;rw[fk] at this;omega
 obtain⟨h1,tk,rfl,hk⟩:=x.done
 have noA:∀b:Addr,b∉(Cg CX P w K mg base N qual scope f cd A outer s H E).ex:=fun b z=>absurd (show b∈([]:List Addr) from z) (by simp)
 refine⟨⟨e0.mod,S.kind,rfl,rfl,dv _,fun y z c h1 h2=>?_,fun y hy=>?_,fun y c _ h=>?_,fun _=>hd,eU.frames_deeper e0.frames,.inr ⟨rfl,rfl⟩,fun b z=>absurd z (noA b),e0.bs,e0.bsz,fun b _ _=>noA b,fun b z=>absurd z (noA b),e0.funs,e0.frf⟩,
  rfl,e0.bare,Un.kept hk,⟨_,x.toInCall.ns,fun i y v h1 h2 h3=>?_⟩,fun y c h=> ⟨_,x.cell y c h⟩,e0.hok.fresh (dv _),fun y c h=>?_,fun p hp=>absurd (show p∈([]:List (Addr×Obj)) from hp) (by simp),e0.hok.kept hk,?_⟩
 ·exact name_of_addr x.apart (jx h1) (jx h2)
 ·have hy:scope.names.lookup y=some .cell∨scope.names.lookup y=some .free:=hy
  rcases hy with hy|hy
  ·exact Kn hy
  ·exact absurd rfl (S.nofree _ (jx hy))
 ·exact iC (x.above y c (jx h))
 ·have hi:i<vs.length:=by
   unfold start at h2
   by_cases hi:i<vs.length
   ·exact hi
   ·rw[e8 (by simpa using hi)] at h2
    rw[gG] at h2
    split at h2<;>cases h2
  have ha:vs[i]?=some v:=by
   unfold start at h2
   rw[fq (by simpa using hi),c9] at h2
   cases e:vs[i]? with
   |none=>rw[e] at h2;cases h2
   |some a=>rw[e] at h2;cases h2;rfl
  obtain⟨u,hu,rv⟩:=r.get ha
  have hp:ps[i]?=some y:=by
   rw[←S.pre,jt (by omega)];exact h1
  have ndP:ps.Nodup:=by rw[←S.pre];exact S.nd.sublist (kK _ _)
  refine⟨u,rv,?_⟩
  rcases S.par y (dw hp) with k|k
  ·exact .inl ⟨k,IY ndP hp hu k⟩
  ·obtain⟨c,e⟩:=Kn (n:=s.heap.objs.size+1) k
   refine .inr ⟨.inl k,c,e,?_⟩
   have q:=x.cell y c e
   rw[IZ ndP hp hu (by show scope.names.lookup y≠_;rw[k];decide)] at q
   exact q
 ·exact e0.hok.fresh (iC (x.above y c (jx h)))
 ·unfold start
  show _=N.length
  rw[eK,b6,gr]
  omega
theorem Yw{CX:Sj}{P:Program}{w:World}{K:a8}{mg:Str→Option Value}{base:Heap}{k:Nat}{f:Addr}{name qual:Str}{params:Arguments}{body:List Stmt}{scope:Scope}{dV kV doc pm cdv ct oc:Value}{an od:Option Addr}
  {osl:Array (Option Value)} {N ps:List Str} {sp:Sp} (lk:K.lookup f=some ⟨oc,od,.func (j3 name qual params body scope dV kV doc pm an cdv ct),osl⟩) (hcd:m9 K cdv qual=true) (S:FnScope N ps scope)
  (len:∀vs H Q E,sp vs H Q E→vs.length=ps.length)
  (hbody:∀(A:eU) (outer:List Env) (s:a9) (H:Hp) (vs:List V) (Q:VK) (E:XK),Room k (A.deeper (jr qual scope s.heap.objs.size f cdv))→sp vs H Q E→
   ∃t,PSs (Cg CX P w K mg base N qual scope f cdv A outer s H E) body t∧t {nx:=fun _ H'=>Q .non H',rt:=Q} (start N vs) H):
  FnOk P w K mg base CX (k+1) f (j3 name qual params body scope dV kV doc pm an cdv ct) ps sp:=by
 refine⟨len,fun A outer s H args us vs Q E hr e0 hb r hsp=>?_⟩
 have hl:=len _ _ _ _ hsp
 have KX:K.In s.heap:=e0.mod.kin.keeps fun b o e=> (e0.bs b o e).1
 have lim:s.heap.NoLimit:=e0.mod.nolimit.keeps fun b o e=> (e0.bs b o e).1
 have hkind:∀y∈ps.zip us,scope.names.lookup y.1=some .local∨(scope.names.lookup y.1=some .cell∧((iz (s.heap.objs.size+1) scope.names []).lookup y.1).isSome=true):=fun⟨n,v⟩ hy=>by
  rcases S.par n (mS hy).1 with q|q
  ·exact .inl q
  ·exact .inr ⟨q,PySem.W.cellsFrom_some _ _ _ (.inl q)⟩
 refine codeAny_call_function hr.depth (KX _ _ lk) rfl S.co S.gen rfl (PySem.W.codeRec_of KX hcd) (hb _ _ _ _ ?_)
 refine wpAny_newFunctionEnv_cells S.kind hkind fun env he s1 x=>?_
 subst he
 refine⟨lim.keeps x.toInCall.keep,codeAny_func ?_⟩
 obtain⟨t,ht,hq⟩:=hbody A outer s H vs Q E (hr.deeper _) hsp
 have I:Inv (Cg CX P w K mg base N qual scope f cdv A outer s H E) [] (start N vs) H s1:=Oq S hr.hd e0 hl r x
 refine jG (ht [] s1 (start N vs) H _ I hq) (fun fl s' hs=>?_) fun e s' hs=>hs
 have fin:∀{σ':St} {H':Hp} {v:V} {u:Value},Inv (Cg CX P w K mg base N qual scope f cdv A outer s H E) [] σ' H' s'→RelV v u→Q v H'→CE outer P w H s Q u s':=
  fun{σ' H' v u} J rv q=> ⟨v,H',J.os,J.bare,J.base,J.hok,rv,q⟩
 cases fl with
 |ret u=>
  obtain⟨v,σ',H',J,rv,q⟩:=hs
  exact fin J rv q
 |next=>
  obtain⟨σ',H',J,q⟩:=hs
  exact fin (v:=V.non) (u:=iS) J rfl q
 |brk=>
  obtain⟨_,_,_,q⟩:=hs
  exact jv q
 |cont=>
  obtain⟨_,_,_,q⟩:=hs
  exact jv q
section
variable{X:Cx}{x:Str}{p pos:Pos}{e:Expr}{es:List Expr}{t:TA}{id T:String}{r:List V→Hp→VK→Prop}
def cK(r:List V→Hp→VK→Prop)(t:TA):TE:=fun σ H Q=>t σ H fun vs H1=>r vs H1 Q
theorem Ec(hc:Au X (.builtin id) r)(hg:Gl X x)(hm:X.mg x=none)(hv:fw x=some (.builtin id))(ha:PA X (e::es) t)(hn:x≠"__name__":=by decide)(hdb:(x==("__debug__" :Str))=false:=by decide)
  (he:du (e::es) X.env=(false,eval e X.env)::du es X.env:=by rfl) (hpl:(i7 pos (du es X.env)).any (·.1)=false:=by rfl):PE X (.Call (.Name x p) (e::es) [] pos) (cK r t):=by
 intro pins s σ H Q I h
 refine kh (EC I hg hm hv ?_ hn hdb)
 exact PyProof.Rows.callWith_builtin1 (BB (ha pos pins s σ H _ I h) fun us s1 ⟨vs,H1,I1,r1,q1⟩=>hc pins s1 σ H1 vs us Q I1 r1 q1) he hpl
theorem Cr(hc:Au X (.type T) r)(hg:Gl X x)(hm:X.mg x=none)(hv:fw x=some (.type T))(ha:PA X (e::es) t)(hn:x≠"__name__":=by decide)(hdb:(x==("__debug__" :Str))=false:=by decide)
  (he:du (e::es) X.env=(false,eval e X.env)::du es X.env:=by rfl) (hpl:(i7 pos (du es X.env)).any (·.1)=false:=by rfl):PE X (.Call (.Name x p) (e::es) [] pos) (cK r t):=by
 intro pins s σ H Q I h
 refine kh (EC I hg hm hv ?_ hn hdb)
 exact i9 (BB (ha pos pins s σ H _ I h) fun us s1 ⟨vs,H1,I1,r1,q1⟩=>hc pins s1 σ H1 vs us Q I1 r1 q1) he hpl
end
end L2
namespace HT
open PySem PyProof.Rows
section
open PySem.SeqAt
open PySem.AutoSeq1 (wpAny_loadPart')
open PySem.MeetsSeq PySem.MeetsSeq2 PySem.MeetsSeq3
end
section
variable{prog:Program}{w:World}{A:eU}{E:Value→a9→Prop}{s:a9}
theorem TC{t b:Addr}{vs ws:List Value}{Q:Value→a9→Prop}(ht:IsTup s.heap t vs.toArray)(hb:IsTup s.heap b ws.toArray)(hv:vs≠[])
  (h1:ws=[]→Q (.ref t) s) (h2:ws≠[]→Q (.ref s.heap.objs.size) {s with heap:=s.heap.push {cls:=.type "tuple",data:=.seq (vs++ws).toArray}})
  (hsz:vs.length+ws.length≤sizeLine):wpAny (model prog w) A (jl .Add (.ref t) (.ref b)) Q E s:=by
 obtain⟨⟨cls,dd,data,sl⟩,ho,hc,n,hd⟩:=id ht
 obtain⟨⟨cls2,dd2,data2,sl2⟩,ho2,hc2,n2,hd2⟩:=id hb
 simp only at hc hd hc2 hd2
 subst hc hd hc2 hd2
 have e:vs.toArray++ws.toArray=(vs++ws).toArray:=by simp
 by_cases hw:ws=[]
 ·exact nY ⟨_,ho,rfl⟩ ⟨_,ho2,rfl⟩ mn nI kI kv (kb _ _)
   (tuple_addW1 t b vs.toArray ws.toArray n n2 dd dd2 sl sl2 (by simpa using hv) (by simp[hw])) ⟨ho,ho2,h1 hw⟩
 ·refine nY ⟨_,ho,rfl⟩ ⟨_,ho2,rfl⟩ mn nI kI kv (kb _ _)
   (tuple_addW2 t b vs.toArray ws.toArray n n2 dd dd2 sl sl2 (by simpa using hv) (by simpa using hw) (by rw[eP,eP];exact hsz)) ⟨ho,ho2,?_⟩
  rw[e]
  exact h2 hw
def BO(n d:Nat):Option Int→Nat
 |none=>d
 |some v=>if v<0 then(v+(n:Int)).toNat else min v.toNat n
theorem WV(n d:Nat)(hd:d≤n)(o:Option Int):BO n d o≤n:=by
 cases o with
 |none=>exact hd
 |some v=>
  show(if v<0 then(v+(n:Int)).toNat else min v.toNat n)≤n
  by_cases hv:v<0
  ·rw[if_pos hv];omega
  ·rw[if_neg hv];exact Nat.min_le_right _ _
theorem NN(v:Int)(n d:Nat):(if v<0 then max (v+(n:Int)) 0 else min v (n:Int))=((BO n d (some v):Nat):Int):=by
 show(if v<0 then max (v+(n:Int)) 0 else min v (n:Int))=(((if v<0 then(v+(n:Int)).toNat else min v.toNat n):Nat):Int)
 by_cases hv:v<0
 ·simp only[if_pos hv];omega
 ·simp only[if_neg hv];omega
theorem MJ(lo hi:Option Int)(n:Nat):gx lo hi 1 (n:Int)=(((BO n 0 lo:Nat):Int),((BO n n hi:Nat):Int)):=by
 have h1:¬((1:Int)<0):=by omega
 unfold gx
 simp only[h1,if_false]
 refine jB ?_ ?_
 ·cases lo with
  |none=>rfl
  |some v=>exact NN v n 0
 ·cases hi with
  |none=>rfl
  |some v=>exact NN v n n
theorem MK(i j:Nat):gN (i:Int) (j:Int) 1=j-i:=by
 unfold gN
 have h1:(1:Int)>0:=by omega
 simp only[h1,if_true,Int.ediv_one]
 split<;>omega
theorem Gq{v:Value}{o:Option Int}{Q:Option Int→a9→Prop}(p:mM v o)(h:Q o s):wpAny (model prog w) A (Builtin.Slice.slicePartIndex v) Q E s:=by
 cases p with
 |none=>exact lJ h
 |int i t=>exact slicePart_int h
theorem Cs{sl:Addr}{vl vu:Value}{lo hi:Option Int}{n:Nat}{Q:Int×Int×Nat→a9→Prop}(hs:s.heap.IsSliceOf sl vl vu .none)(pl:mM vl lo)(pu:mM vu hi)
  (h:Q (((BO n 0 lo:Nat):Int),1,BO n n hi-BO n 0 lo) s):wpAny (model prog w) A (jY (.ref sl) (pure (n:Int))) Q E s:=by
 obtain⟨os,hos,hcs,hds⟩:=id hs
 unfold jY Builtin.Slice.sliceFields
 refine a7 (a7 (gJ hos hds (x:=vl) rfl (a7 (gJ hos hds (x:=vu) rfl (a7 (gJ hos hds (x:=.none) rfl (b9 ?_)))))))
 refine a7 (lJ ?_)
 show wpAny _ _ (if((1:Int)==0)=true then _ else _) _ _ s
 rw[if_neg (by decide)]
 refine a7 (Gq pl (a7 (Gq pu (a7 (b9 ?_)))))
 show wpAny _ _ (match gx lo hi 1 (n:Int) with| (lo,hi)=>pure (lo,(1:Int),gN lo hi 1)) _ _ s
 rw[MJ lo hi n]
 show wpAny _ _ (pure (((BO n 0 lo:Nat):Int),(1:Int),gN ((BO n 0 lo:Nat):Int) ((BO n n hi:Nat):Int) 1)) _ _ s
 rw[MK]
 exact b9 h
theorem QG(xs:Array Value)(i k:Nat):((eW k).filterMap fun(m:Nat)=>xs[((i:Int)+(m:Int)*1).toNat]?).toArray=((xs.toList.drop i).take k).toArray:=by
 have e:(fun(m:Nat)=>xs[((i:Int)+(m:Int)*1).toNat]?)=fun m=>xs[i+m]?:=by
  funext m
  have:((i:Int)+(m:Int)*1).toNat=i+m:=by omega
  rw[this]
 rw[e]
 have:=pick_run xs i k
 rw[List.filterMap_map] at this
 have e2:((fun x=>xs[x]?)∘fun x=>i+x)=fun m=>xs[i+m]?:=rfl
 rw[e2] at this
 rw[this]
theorem Ed{t sl:Addr}{items:Array Value}{vl vu:Value}{lo hi:Option Int}{Q:Value→a9→Prop}(ht:IsTup s.heap t items)(hs:s.heap.IsSliceOf sl vl vu .none)(pl:mM vl lo)(pu:mM vu hi)
  (hw:¬(BO items.size 0 lo=0∧BO items.size items.size hi=items.size))
  (h:Q (.ref s.heap.objs.size) {s with heap:=s.heap.push {cls:=.type "tuple",data:=.seq ((items.toList.drop (BO items.size 0 lo)).take (BO items.size items.size hi-BO items.size 0 lo)).toArray}})
  (hsz:items.size≤sizeLine):wpAny (model prog w) A (lW (.ref t) (.ref sl)) Q E s:=by
 have htake:sizeOk (.seq ((items.toList.drop (BO items.size 0 lo)).take (BO items.size items.size hi-BO items.size 0 lo)).toArray):=by
  show((items.toList.drop (BO items.size 0 lo)).take (BO items.size items.size hi-BO items.size 0 lo)).toArray.size≤sizeLine
  rw[eP,fk,gi,eG]
  omega
 have hj:BO items.size items.size hi≤items.size:=WV _ _ (dv _) hi
 obtain⟨os,hos,hcs,hds⟩:=id hs
 have hTs:s.TypeIs (.ref sl) "slice":=⟨os,hos,hcs⟩
 unfold lW
 try with_reducible refine fI ?_
 first|refine a7 (b9 ?_)|skip
 refine a7 (lT ht.typeIs (by decide) ?_)
 refine a7 (gu (name:=jm "__getitem__") ht.typeIs fA
  (gz fA ht.typeIs lz ?_ (lM _ _)))
 show wpAny _ _ (jX (.ref t)>>=_) _ _ s
 refine a7 (nE ht ?_)
 refine a7 (ky hTs ?_)
 rw[if_pos (by decide)]
 refine a7 (Cs hs pl pu ?_)
 have hno:¬((((BO items.size 0 lo:Nat):Int)==0&&(1:Int)==1&&(BO items.size items.size hi-BO items.size 0 lo)==items.size)=true):=by
  intro q
  rw[fx,fx] at q
  have q1:((BO items.size 0 lo:Nat):Int)=0:=eq_of_beq q.1.1
  have q2:BO items.size items.size hi-BO items.size 0 lo=items.size:=eq_of_beq q.2
  exact hw ⟨by omega,by omega⟩
 show wpAny _ _ (if(((BO items.size 0 lo:Nat):Int)==0&&(1:Int)==1&&(BO items.size items.size hi-BO items.size 0 lo)==items.size)=true then _ else _) _ _ s
 rw[if_neg hno,QG]
 first
  |exact a7 (m:=gS _) (fV (b9 ⟨_,rfl,b9 h⟩) htake)
  |exact a7 (m:=gS _) (fV (a7 (b9 (b9 ⟨_,rfl,b9 h⟩))) htake)
  |exact a7 (a7 (m:=gS _) (fV (b9 (b9 ⟨_,rfl,b9 h⟩)) htake))
  |exact a7 (a7 (m:=gS _) (fV (b9 ⟨_,rfl,b9 h⟩) htake))
end
end HT
namespace L2
open PySem PySem.Spec PyProof.Rows
abbrev TO:=St→Hp→(Option Int→Hp→Prop)→Prop
def PO(X:Cx)(e:Option Expr)(t:TO):Prop:=
 ∀(pins:List (Addr×Obj)) (s:a9) (σ:St) (H:Hp) (Q:Option Int→Hp→Prop),Inv X pins σ H s→t σ H Q→
  wpAny (model X.prog X.w) X.A (evalPart e X.env) (fun u s'=>∃o H',Inv X pins σ H' s'∧mM u o∧Q o H') X.xe s
def TF:TO:=fun _ H Q=>Q none H
def Yx(t:TE):TO:=fun σ H Q=>t σ H fun x H1=>∃i,x=.int i∧Q (some i) H1
theorem Gu{ns:List Int}:∀{us:List Value},Vals (ns.map V.int) us→IntsAre us ns:=by
 induction ns with
 |nil=>intro us r;rw[kM] at r;cases r;exact .nil
 |cons n ns ih=>
  intro us r
  rw[eT] at r
  cases r with
  |cons r1 r2=>
   obtain⟨t,e⟩:=r1
   subst e
   exact .cons n t (ih r2)
section
variable{X:Cx}{e:Expr}{te:TE}{lo hi:Option Expr}{tl th:TO}{pos p2:Pos}
theorem GM:PO X none TF:=by
 intro pins s σ H Q I h
 rw[nJ]
 exact b9 ⟨none,H,I,.none,h⟩
theorem Dl(h:PE X e te):PO X (some e) (Yx te):=by
 intro pins s σ H Q I hw
 rw[evalPart_some]
 refine BB (h pins s σ H _ I hw) fun u s1 ⟨x,H1,I1,r1,q1⟩=>?_
 obtain⟨i,rfl,q⟩:=q1
 obtain⟨t,rfl⟩:=r1
 exact⟨some i,H1,I1,.int i t,q⟩
def ag(X:Cx)(r:V→Option Int→Option Int→Hp→VK→Prop):Prop:=
 ∀(pins:List (Addr×Obj)) (s:a9) (σ:St) (H:Hp) (x:V) (v vl vu:Value) (lo hi:Option Int) (sl:Addr) (Q:VK),Inv X pins σ H s→RelV x v→s.heap.IsSliceOf sl vl vu .none→mM vl lo→mM vu hi→r x lo hi H Q→
  ∃T id,typeLookup (.type T) "__getitem__" =pure (some (.builtin id))∧s.TypeIs v T∧wpAny (model X.prog X.w) X.A (lW v (.ref sl)) (EP X pins σ Q) X.xe s
def cc(r:V→Option Int→Option Int→Hp→VK→Prop)(te:TE)(tl th:TO):TE:=fun σ H Q=>te σ H fun x H1=>tl σ H1 fun l H2=>th σ H2 fun u H3=>r x l u H3 Q
theorem DW{r:V→Option Int→Option Int→Hp→VK→Prop}(hr:ag X r)(he:PE X e te)(hl:PO X lo tl)(hu:PO X hi th):PE X (.Subscript e (.Slice lo hi none p2) pos) (cc r te tl th):=by
 intro pins s σ H Q I h
 refine Subscript_ (BB (he pins s σ H _ I h) fun v s1 ⟨x,H1,I1,r1,q1⟩=>?_)
 refine wpAny_Slice (BB (hl pins s1 σ H1 _ I1 q1) fun vl s2 ⟨l,H2,I2,pl,q2⟩=>BB (hu pins s2 σ H2 _ I2 q2) fun vu s3 ⟨u,H3,I3,pu,q3⟩=>?_)
 rw[nJ]
 refine b9 ?_
 have I4:Inv X pins σ H3 {s3 with heap:=s3.heap.push {cls:=.type "slice",data:=.fields #[vl,vu,.none]}}:=I3.kept (t':=s3.toks) fun b ob q=>dm _ q
 obtain⟨T,id,hT,ht,hg⟩:=hr pins {s3 with heap:=s3.heap.push {cls:=.type "slice",data:=.fields #[vl,vu,.none]}} σ H3 x v vl vu l u s3.heap.objs.size Q I4 r1 (Heap.IsSliceOf.new ..) pl pu q3
 show wpAny (model X.prog X.w) X.A (nH e (.Slice lo hi none p2) v (.ref s3.heap.objs.size)) (EP X pins σ Q) X.xe {s3 with heap:=s3.heap.push {cls:=.type "slice",data:=.fields #[vl,vu,.none]}}
 exact tail_any (ops:=[.ref s3.heap.objs.size,v]) ht hT hg (by with_unfolding_all rfl)
def FO(xs:List V)(lo hi:Option Int):List V:=(xs.drop (HT.BO xs.length 0 lo)).take (HT.BO xs.length xs.length hi-HT.BO xs.length 0 lo)
theorem Ft(xs:List V)(lo hi:Option Int):(FO xs lo hi).length≤xs.length:=by
 unfold FO
 rw[fk,gi]
 omega
def bR(K:a8):V→Option Int→Option Int→Hp→VK→Prop:=fun x lo hi H Q=>∃a xs,x=.ref a∧DV K H a xs∧
 ¬(HT.BO xs.length 0 lo=0∧HT.BO xs.length xs.length hi=xs.length)∧∀p,H p=none→Q (.ref p) (upd H p (.tup (FO xs lo hi)))
theorem WX:ag X (bR X.K):=by
 intro pins s σ H x v vl vu lo hi sl Q I rx hs pl pu h
 obtain⟨a,xs,rfl,hx,hw,q⟩:=h
 cases rx
 obtain⟨its,r,ht,hz⟩:=I.tuple hx
 have hlen:its.toArray.size=xs.length:=by rw[eP];exact r.length.symm
 refine⟨"tuple",_,fA.lookup,ht.typeIs,?_⟩
 refine HT.Ed ht hs pl pu (by rw[hlen];exact hw) ?_ (by rw[hlen];exact hz)
 rw[hlen]
 refine⟨.ref s.heap.objs.size,_,I.laid (t':=s.toks) (o:=.tup (FO xs lo hi)) (fun b ob q=>dm _ q) (dv _) ?_,rfl,q _ (I.hok.fresh (dv _))⟩
 exact⟨fo (Ft xs lo hi) hz,_,(r.drop (HT.BO xs.length 0 lo)).take (HT.BO xs.length xs.length hi-HT.BO xs.length 0 lo),IsTup.new _ _⟩
def Yy(K:a8):R2:=fun x y H Q=>∃a b xs ys,x=.ref a∧y=.ref b∧DV K H a xs∧DV K H b ys∧xs≠[]∧xs.length+ys.length≤sizeLine∧
 (ys=[]→Q (.ref a) H)∧(ys≠[]→∀p,H p=none→Q (.ref p) (upd H p (.tup (xs++ys))))
theorem Vals.nil_iff{xs:List V}{us:List Value}(r:Vals xs us):us=[]↔xs=[]:=by
 cases r with
 |nil=>simp
 |cons _ _=>simp
theorem TH:DD X (jl .Add) (Yy X.K):=by
 intro pins s σ H x y v u Q I rx ry h
 obtain⟨a,b,xs,ys,rfl,rfl,ha,hb,hx,hz,q1,q2⟩:=h
 cases rx
 cases ry
 obtain⟨its,r1,p1,_⟩:=I.tuple ha
 obtain⟨its2,r2,p2,_⟩:=I.tuple hb
 refine HT.TC p1 p2 (fun z=>hx (r1.nil_iff.mp z)) (fun z=> ⟨.ref a,H,I,rfl,q1 (r2.nil_iff.mp z)⟩) (fun z=>?_) (by rw[←r1.length,←r2.length];exact hz)
 refine⟨.ref s.heap.objs.size,_,I.laid (t':=s.toks) (o:=.tup (xs++ys)) (fun b ob q=>dm _ q) (dv _) ?_,rfl,q2 (fun w=>z (r2.nil_iff.mpr w)) _ (I.hok.fresh (dv _))⟩
 exact⟨by rw[eK];exact hz,_,r1.append r2,IsTup.new _ _⟩
end
def Os(n:Nat)(i:Int):Option Nat:=if 0≤i then(if i<n then some i.toNat else none) else if-(n:Int)≤i then some (i+n).toNat else none
def atI{α:Type}(xs:List α)(i:Int):Option α:=(Os xs.length i).bind fun j=>xs[j]?
theorem NO{n:Nat}{i:Int}{j:Nat}(h:Os n i=some j):nA i n=some j∧j<n∧-(n:Int)≤i∧i<n:=by
 unfold Os at h
 by_cases h0:0≤i
 ·rw[if_pos h0] at h
  by_cases h1:i<n
  ·rw[if_pos h1] at h
   have e:i.toNat=j:=gc.inj h
   exact⟨by rw[oA h0 h1,e],by omega,by omega,h1⟩
  ·rw[if_neg h1] at h;cases h
 ·rw[if_neg h0] at h
  by_cases h1: -(n:Int)≤i
  ·rw[if_pos h1] at h
   have e:(i+n).toNat=j:=gc.inj h
   exact⟨by rw[seqIndex_neg (by omega) h1,e],by omega,h1,by omega⟩
  ·rw[if_neg h1] at h;cases h
theorem Ee{α:Type}{xs:List α}{i:Int}{v:α}(h:atI xs i=some v):∃j,nA i xs.length=some j∧xs[j]?=some v∧j<xs.length∧-(xs.length:Int)≤i∧i<xs.length:=by
 unfold atI at h
 cases e:Os xs.length i with
 |none=>rw[e] at h;cases h
 |some j=>
  rw[e] at h
  obtain⟨h1,h2,h3,h4⟩:=NO e
  exact⟨j,h1,h,h2,h3,h4⟩
theorem Ag{α:Type}{xs:List α}{j:Nat}{v:α}(h:xs[j]?=some v):atI xs (j:Int)=some v:=by
 have hj:j<xs.length:=(eB.mp h).1
 have e:Os xs.length (j:Int)=some j:=by
  unfold Os
  rw[if_pos (by omega),if_pos (by omega)];simp
 unfold atI;rw[e];exact h
theorem QH{α:Type}(xs:List α)(v:α):atI (xs++[v]) (-1)=some v:=by
 have hl:(xs++[v]).length=xs.length+1:=by simp
 have e:Os (xs++[v]).length (-1)=some xs.length:=by
  unfold Os
  rw[hl,if_neg (by decide),if_pos (by omega)]
  congr 1
  omega
 unfold atI
 rw[e]
 show(xs++[v])[xs.length]?=some v
 simp
def Dm(b:Expr):Prop:=∀o i,subscripted b false o i=operate [o,i] (lW o i)
def Yz(X:Cx)(r:R2):Prop:=
 ∀(value slice:Expr) (pins:List (Addr×Obj)) (s:a9) (σ:St) (H:Hp) (x y:V) (v u:Value) (Q:VK),Inv X pins σ H s→RelV x v→RelV y u→r x y H Q→
  subscripted slice false v u=operate [v,u] (lW v u)→wpAny (model X.prog X.w) X.A (nH value slice v u) (EP X pins σ Q) X.xe s
def cL(X:Cx)(id:String)(r:V→List V→Hp→VK→Prop):Prop:=
 ∀(pins:List (Addr×Obj)) (s:a9) (σ:St) (H:Hp) (x:V) (xs:List V) (v:Value) (us:List Value) (Q:VK),Inv X pins σ H s→RelV x v→Vals xs us→r x xs H Q→
  wpAny (model X.prog X.w) X.A (call (.builtin id) (v::us)) (EP X pins σ Q) X.xe s
section
variable{X:Cx}{a b:Expr}{ta tb:TE}{pos:Pos}
theorem VE{r:R2}(hr:Yz X r)(ha:PE X a ta)(hb:PE X b tb)(hs:Dm b):PE X (.Subscript a b pos) (Ym r ta tb):=by
 intro pins s σ H Q I h
 exact Subscript_ (WJ ha hb I h fun v u s2 x y H2 I2 rx ry q=>hr a b pins s2 σ H2 x y v u Q I2 rx ry q (hs _ _))
def WY(K:a8):R2:=fun x y H Q=>∃p xs i v,x=.ref p∧y=.int i∧EY K H p xs∧atI xs i=some v∧Q v H
def ZA(K:a8):R2:=fun x y H Q=>∃p xs i v,x=.ref p∧y=.int i∧DV K H p xs∧atI xs i=some v∧Q v H
theorem Dn:Yz X (WY X.K):=by
 intro value slice pins s σ H x y v u Q I rx ry h hs
 obtain⟨p,xs,i,z,rfl,rfl,hq,he,q⟩:=h
 cases rx
 obtain⟨t,rfl⟩:=ry
 obtain⟨its,r,pl,hz⟩:=I.list hq
 obtain⟨j,h1,h2,h3,h4,h5⟩:=Ee he
 obtain⟨w,ew,rw'⟩:=r.get h2
 have hl:=r.length
 have hn:=Gk
 have fin:EP X pins σ Q w s:=⟨z,H,I,rw',q⟩
 by_cases h0:0≤i
 ·have hj:i.toNat=j:=by
   rw[oA h0 h5] at h1
   exact gc.inj h1
  exact item_listR pl.isList h0 (by omega) (by rw[hj];simpa using ew) fin hs
 ·have hj:(i+(its.toArray.size:Int)).toNat=j:=by
   rw[seqIndex_neg (by omega) h4] at h1
   rw[eP,←hl]
   exact gc.inj h1
  exact subscriptTail_builtinR (x:=w) pl.isList.typeIs slot_list_getitem.lookup
   (wpAny_getItem_list_neg (Q:=fun r s'=>r=w∧EP X pins σ Q r s') pl.isList (by omega) (by rw[eP]<;>omega) (by omega) (by rw[hj];simpa using ew) ⟨rfl,fin⟩) hs
theorem WZ:Yz X (ZA X.K):=by
 intro value slice pins s σ H x y v u Q I rx ry h hs
 obtain⟨p,xs,i,z,rfl,rfl,hq,he,q⟩:=h
 cases rx
 obtain⟨t,rfl⟩:=ry
 obtain⟨its,r,pl,hz⟩:=I.tuple hq
 obtain⟨j,h1,h2,h3,h4,h5⟩:=Ee he
 obtain⟨w,ew,rw'⟩:=r.get h2
 have hl:=r.length
 have hn:=Gk
 have fin:EP X pins σ Q w s:=⟨z,H,I,rw',q⟩
 exact subscriptTail_builtinR (x:=w) pl.typeIs slot_tuple_getitem.lookup
  (getItem_tuple (j:=j) (Q:=fun r s'=>r=w∧EP X pins σ Q r s') pl (by omega) (by omega) (by rw[eP,←hl];exact h1) (by simpa using ew) ⟨rfl,fin⟩) hs
theorem ML(its:List Value)(n j:Nat)(u:Value):hZ (·.setIfInBounds j u) {cls:=.type "list",data:=.seq its.toArray n}={cls:=.type "list",data:=.seq (its.set j u).toArray n}:=by
 simp[hZ]
theorem Inv.lst{pins:List (Addr×Obj)}{σ:St}{H:Hp}{s:a9}{p:Addr}{xs:List V}(I:Inv X pins σ H s)(h:H p=some (.lst xs)):
  ∃(its:List Value) (n:Nat),Vals xs its∧s.heap.get? p=some {cls:=.type "list",data:=.seq its.toArray n}∧xs.length≤sizeLine:=by
 obtain⟨z,its,n,r,e⟩:=I.hok p _ h
 exact⟨its,n,r,e,z⟩
theorem Inv.lstUpd{pins:List (Addr×Obj)}{σ:St}{H:Hp}{s:a9}{p:Addr}{xs ys:List V}{its its':List Value}{n n':Nat}{f:Obj→Obj}(I:Inv X pins σ H s)(h:H p=some (.lst xs))
  (ho:s.heap.get? p=some {cls:=.type "list",data:=.seq its.toArray n}) (hf:f {cls:=.type "list",data:=.seq its.toArray n}={cls:=.type "list",data:=.seq its'.toArray n'}) (r:Vals ys its') (hz:ys.length≤sizeLine) (t:Nat):
  Inv X pins σ (upd H p (.lst ys)) {s with heap:=s.heap.update p f,toks:=t}:=by
 have e:(s.heap.update p f).get? p=some {cls:=.type "list",data:=.seq its'.toArray n'}:=by
  rw[jh f ho (by rw[hf]<;>rfl),hf]
 refine I.write (x:=p) (e:=p) (by rw[h];trivial) (.inl rfl) (fun b u hb q=> (ie _ _ (Ne.symm hb)).trans q) ⟨_,e⟩ ?_
 exact⟨hz,its',n',r,e⟩
def ZC:V→V→V→Hp→(Hp→Prop)→Prop:=fun o i v H Q=>∃p xs k j,o=.ref p∧i=.int k∧H p=some (.lst xs)∧Os xs.length k=some j∧Q (upd H p (.lst (xs.set j v)))
theorem QI:Yd X ZC:=by
 intro pins s σ H o i v ov iv u Q I ro ri rv h
 obtain⟨p,xs,k,j,rfl,rfl,hp,hj,q⟩:=h
 cases ro
 obtain⟨t,rfl⟩:=ri
 obtain⟨its,n,r,ho,hz⟩:=I.lst hp
 obtain⟨h1,h2,h3,h4⟩:=NO hj
 have hl:=r.length
 have hn:=Gk
 have I':Inv X pins σ (upd H p (.lst (xs.set j v))) {s with heap:=s.heap.update p (hZ (·.setIfInBounds j u))}:=
  I.lstUpd hp ho (ML its n j u) (r.set rv j) (by rw[iL];exact hz) s.toks
 by_cases h0:0≤k
 ·have hk:k.toNat=j:=by
   rw[oA h0 h4] at h1
   exact gc.inj h1
  exact PySem.W.ki_setAt ho h0 (by omega) (by rw[eP,←hl];exact h4) (by rw[hk];exact⟨_,I',q⟩)
 ·have hk:(k+(its.toArray.size:Int)).toNat=j:=by
   rw[seqIndex_neg (by omega) h3] at h1
   rw[eP,←hl]
   exact gc.inj h1
  exact PySem.W.ki_setBack ho (by omega) (by rw[eP,←hl];exact h3) (by omega) (by rw[hk];exact⟨_,I',q⟩)
theorem JU(lo hi:Option Int)(n:Nat):(ku lo hi none n).1=((HT.BO n 0 lo:Nat):Int)∧(ku lo hi none n).2.1=((HT.BO n n hi:Nat):Int)∧(ku lo hi none n).2.2=1:=by
 refine⟨?_,?_,rfl⟩
 ·cases lo with
  |none=>simp[ku,HT.BO]
  |some i=>
   simp only[ku,HT.BO,Option.getD_none,show(1:Int)>0 by decide,if_true]
   by_cases h:i<0
   ·simp only[h,if_true]<;>omega
   ·simp only[h,if_false]<;>omega
 ·cases hi with
  |none=>simp[ku,HT.BO]
  |some i=>
   simp only[ku,HT.BO,Option.getD_none,show(1:Int)>0 by decide,if_true]
   by_cases h:i<0
   ·simp only[h,if_true]<;>omega
   ·simp only[h,if_false]<;>omega
theorem IH(its:List Value)(lo hi:Option Int):slicePick its.toArray lo hi none=((its.drop (HT.BO its.length 0 lo)).take (HT.BO its.length its.length hi-HT.BO its.length 0 lo)).toArray:=by
 obtain⟨h1,h2,h3⟩:=JU lo hi its.toArray.size
 unfold slicePick
 rw[h1,h2,h3]
 simp only[sliceRange_one,pick_run,eP]<;>rfl
def bS(K:a8):V→Option Int→Option Int→Hp→VK→Prop:=fun x lo hi H Q=>∃a xs,x=.ref a∧EY K H a xs∧∀p,H p=none→Q (.ref p) (upd H p (.lst (FO xs lo hi)))
theorem JV:ag X (bS X.K):=by
 intro pins s σ H x v vl vu lo hi sl Q I rx hs pl pu h
 obtain⟨a,xs,rfl,hx,q⟩:=h
 cases rx
 obtain⟨its,r,ht,hz⟩:=I.list hx
 have hlen:=r.length
 refine⟨"list",_,slot_list_getitem.lookup,ht.isList.typeIs,?_⟩
 refine wpAny_getItem_list_slice ht.isList hs pl pu .none (by simp) ?_ (by rw[eP]<;>omega)
 rw[IH,←hlen]
 refine⟨.ref s.heap.objs.size,_,I.laid (t':=s.toks) (o:=.lst (FO xs lo hi)) (fun b ob q=>dm _ q) (dv _) ?_,rfl,q _ (I.hok.fresh (dv _))⟩
 exact⟨fo (Ft xs lo hi) hz,_,0,(r.drop (HT.BO xs.length 0 lo)).take (HT.BO xs.length xs.length hi-HT.BO xs.length 0 lo),eS _ rfl⟩
theorem Bx:Au X (.builtin "len") (fun xs H Q=>∃p ys,xs=[.ref p]∧(EY X.K H p ys∨DV X.K H p ys)∧Q (.int ys.length) H):=by
 intro pins s σ H xs us Q I r h
 obtain⟨p,ys,rfl,hq,q⟩:=h
 obtain⟨u,rfl,rx⟩:=DP r
 cases rx
 have hn:=Gk
 rcases hq with hq|hq
 ·obtain⟨its,r',pl,hz⟩:=I.list hq
  have hlen:=r'.length
  exact Calls.call_len_list pl.isList (by simp only[eP]<;>omega) ⟨.int ys.length,H,I.tok _,⟨s.toks+1,by rw[eP,hlen]⟩,q⟩
 ·obtain⟨its,r',pl,hz⟩:=I.tuple hq
  have hlen:=r'.length
  exact len_tuple pl (by simp only[eP]<;>omega) ⟨.int ys.length,H,I.tok _,⟨s.toks+1,by rw[eP,hlen]⟩,q⟩
def bT(K:a8)(T:String)(x:V)(H:Hp):Prop:=match x with
 | .str _=>T= "str"
 | .int _=>T= "int"
 | .ref p=> (T= "list"∧∃xs,EY K H p xs)∨(T= "tuple"∧∃o,K.lookup p=some o∧o.cls=.type "tuple"∧o.dict=none)∨
   (T= "dict"∧((∃kvs,H p=some (.dK kvs))∨∃kvs,H p=some (.dT kvs)))∨(T= "set"∧∃S n,H p=some (.set S n))
 |_=>False
theorem Wa{pins:List (Addr×Obj)}{σ:St}{H:Hp}{s:a9}{T:String}{x:V}{v:Value}(I:Inv X pins σ H s)(r:RelV x v)(ty:bT X.K T x H):
  s.TypeIs v T∧∀a,v=.ref a→∃ob,s.heap.get? a=some ob∧ob.dict=none:=by
 cases x with
 |str z=>
  obtain⟨t,rfl⟩:=r
  cases(show T= "str" from ty)
  exact⟨typeIs_str s z t,fun _ e=>nomatch e⟩
 |int i=>
  obtain⟨t,rfl⟩:=r
  cases(show T= "int" from ty)
  exact⟨typeIs_int s i t,fun _ e=>nomatch e⟩
 |ref p=>
  cases r
  rcases ty with⟨rfl,xs,hq⟩| ⟨rfl,o,hk,hc,hd⟩| ⟨rfl,hk⟩| ⟨rfl,S,n,hk⟩
  ·obtain⟨its,_,pl,_⟩:=I.list hq
   refine⟨pl.isList.typeIs,fun a e=>?_⟩
   cases e
   obtain⟨o,n,e,c,hd,_⟩:=pl
   exact⟨o,e,hd⟩
  ·refine⟨⟨o,I.kIn p o hk,hc⟩,fun a e=>?_⟩
   cases e
   exact⟨o,I.kIn _ o hk,hd⟩
  ·have z:∃o,s.heap.get? p=some o∧o.ExactDict:=by
    rcases hk with⟨kvs,hk⟩| ⟨kvs,hk⟩
    ·obtain⟨_,_,_,_,o,_,_,e,ex,_⟩:=I.hok p _ hk
     exact⟨o,e,ex⟩
    ·obtain⟨_,_,_,_,o,_,_,e,ex,_⟩:=I.hok p _ hk
     exact⟨o,e,ex⟩
   obtain⟨o,e,ex⟩:=z
   refine⟨⟨o,e,ex.1⟩,fun a e2=>?_⟩
   cases e2
   exact⟨o,e,ex.2.1⟩
  ·obtain⟨o,_,_,_,e,ex,_⟩:=I.hok p _ hk
   refine⟨⟨o,e,ex.1⟩,fun a e2=>?_⟩
   cases e2
   exact⟨o,e,ex.2.1⟩
 |_=>exact jv ty
def cg(K:a8)(T:String)(r:V→List V→Hp→VK→Prop)(to:TE)(t:TA):TE:=fun σ H Q=>to σ H fun x H1=>bT K T x H1∧t σ H1 fun xs H2=>r x xs H2 Q
variable{o e:Expr}{es:List Expr}{to:TE}{t:TA}{name:Str}{apos cpos:Pos}{T id:String}{r:V→List V→Hp→VK→Prop}
theorem ZD(pa:PlainAttrs T)(slot:Slot T name id)(hty:typeOf (.builtin id)=pure (.type "method_descriptor"))(hm:cL X id r)(ho:PE X o to)(ha:PA X (e::es) t)
  (hbase:md o name X.env (eval o X.env)=eval o X.env:=by rfl)
  (hfew:((i7 cpos (du (e::es) X.env)).all (fun x=>!x.1)&&(oI cpos (mZ [] X.env)).all (fun x=>x.1.isSome)
   &&decide ((e::es).length+([]:List l7).length+(if([]:List l7).isEmpty then 0 else 1)<30))=true:=by rfl)
  (hline:(apos.endLine==cpos.line)=true:=by rfl) (hs:du (e::es) X.env=(false,eval e X.env)::du es X.env:=by rfl) (hplain:(i7 cpos (du es X.env)).any (·.1)=false:=by rfl):
  PE X (.Call (.Attribute o name apos) (e::es) [] cpos) (cg X.K T r to t):=by
 intro pins s σ H Q I h
 refine wpAny_Call_method_late hbase hfew hline rfl (BB (ho pins s σ H _ I h) fun v s1 ⟨x,H1,I1,r1,ty,q1⟩=>?_)
 obtain⟨h1,h2⟩:=Wa I1 r1 ty
 refine⟨T,id,pa,slot,hty,h1,h2,?_⟩
 have hA:=ha cpos pins s1 σ H1 _ I1 q1
 rw[hs] at hA ⊢
 refine Calls.callWith_builtin (by show(false|| (i7 cpos (du es X.env)).any (·.1))=false;rw[hplain]<;>rfl) (Calls.evalArgs_plain ?_)
 exact BB hA fun us s2 ⟨vs,H2,I2,r2,q2⟩=>hm pins s2 σ H2 x vs v us Q I2 r1 r2 q2
end
def cM(X:Cx)(id:String)(r:V→List V→Hp→VK→Prop):Prop:=
 ∀(pins:List (Addr×Obj)) (s:a9) (σ:St) (H:Hp) (x:V) (xs:List V) (v:Value) (us:List Value) (Q:VK),Inv X pins σ H s→RelV x v→Vals xs us→r x xs H Q→
  wpAny (model X.prog X.w) X.A (call (.builtin id) (v::us)) (EP X pins σ Q) X.xe s
theorem Vals.one:∀{x:V} {us:List Value},Vals [x] us→∃u,us=[u]∧RelV x u
 |_,_,.cons r .nil=> ⟨_,rfl,r⟩
theorem Vals.eraseIdx:∀{xs:List V} {us:List Value} (i:Nat),Vals xs us→Vals (xs.eraseIdx i) (us.eraseIdx i)
 |_,_,_,.nil=> .nil
 |_,_,0,.cons _ t=>t
 |_,_,i+1,.cons r t=> .cons r (Vals.eraseIdx i t)
theorem Ia{α:Type}:∀(l:List α) (i:Nat),(l.eraseIdx i).length≤l.length
 | [],_=>dv _
 |_::_,0=>Nat.le_succ _
 |_::r,i+1=>Nat.succ_le_succ (Ia r i)
section
variable{X:Cx}{pins:List (Addr×Obj)}{σ:St}{H:Hp}{s:a9}{l b:Addr}{xs ys zs:List V}
theorem Inv.lset{its its':List Value}{n:Nat}{f:Array Value→Array Value}{t':Nat}(I:Inv X pins σ H s)(hH:H l=some (.lst xs))
  (e:s.heap.get? l=some {cls:=.type "list",data:=.seq its.toArray n}) (hf:f its.toArray=its'.toArray) (hv:Vals ys its') (hz:ys.length≤sizeLine):
  Inv X pins σ (upd H l (.lst ys)) {s with heap:=s.heap.update l (hZ f),toks:=t'}:=by
 have q:=PySem.IsL.update e f
 rw[hf] at q
 refine I.write (x:=l) (e:=l) (by rw[hH];exact trivial) (.inl rfl) (fun b' u hb hu=> (ie s.heap (hZ f) (Ne.symm hb)).trans hu) ⟨_,q⟩ ?_
 exact⟨hz,its',_,hv,q⟩
theorem Inv.lnew{its:List Value}{t':Nat}(I:Inv X pins σ H s)(hv:Vals ys its)(hz:ys.length≤sizeLine):
  Inv X pins σ (upd H s.heap.objs.size (.lst ys)) {s with heap:=s.heap.push {cls:=.type "list",data:=.seq its.toArray},toks:=t'}:=
 I.laid (fun _ _ q=>dm _ q) (dv _) ⟨hz,its,0,hv,eS _ rfl⟩
theorem Inv.fresh(I:Inv X pins σ H s):H s.heap.objs.size=none:=I.hok.fresh (dv _)
theorem Inv.lstM(I:Inv X pins σ H s)(hH:H l=some (.lst xs)):xs.length≤sizeLine∧∃(its:List Value) (n:Nat),Vals xs its∧xs.length=its.length∧s.heap.get? l=some {cls:=.type "list",data:=.seq its.toArray n}:=by
 obtain⟨z,its,n,r,e⟩:=I.hok l _ hH
 exact⟨z,its,n,r,r.length,e⟩
end
section
variable{X:Cx}
def NP:V→List V→Hp→VK→Prop:=fun x vs H Q=>∃l xs y,x=.ref l∧vs=[y]∧H l=some (.lst xs)∧xs.length<sizeLine∧Q .non (upd H l (.lst (xs++[y])))
theorem Ib:cM X "list.append" NP:=by
 intro pins s σ H x vs v us Q I rx rv h
 obtain⟨l,xs,y,rfl,rfl,hH,hz,q⟩:=h
 cases rx
 obtain⟨u,rfl,ru⟩:=rv.one
 obtain⟨z,its,n,r,hl,e⟩:=I.lstM hH
 refine nS F.slot_list_append ⟨_,e,rfl⟩ F.entry_list_append (F.args_list_append_2 _ _) (PySem.list_append l its.toArray n u (by rw[eP];omega)) ⟨e,?_⟩
 refine⟨.non,_,I.lset (its':=its++[u]) hH e (by simp) (r.append (.cons ru .nil)) ?_,rfl,q⟩
 rw[eK,List.length_singleton]
 omega
def Wb:V→List V→Hp→VK→Prop:=fun x vs H Q=>∃l xs i k y,x=.ref l∧vs=[.int i]∧H l=some (.lst xs)∧-(2^63)≤i∧i<2^63∧nA i xs.length=some k∧xs[k]?=some y∧Q y (upd H l (.lst (xs.eraseIdx k)))
theorem QJ:cM X "list.pop" Wb:=by
 intro pins s σ H x vs v us Q I rx rv h
 obtain⟨l,xs,i,k,y,rfl,rfl,hH,h1,h2,hk,hy,q⟩:=h
 cases rx
 obtain⟨u,rfl,ru⟩:=rv.one
 obtain⟨t,rfl⟩:=ru
 obtain⟨z,its,n,r,hl,e⟩:=I.lstM hH
 obtain⟨w,hw,rw'⟩:=r.get hy
 refine nS F.slot_list_pop ⟨_,e,rfl⟩ F.entry_list_pop (F.args_list_pop_2 _ _)
  (MeetsSeq.list_pop_at l its.toArray n i t k w (fitsIndex_both h1 h2) (by rw[eP,←hl];exact hk) (by rw[←fh];exact hw) (by rw[eP];omega)) ⟨e,?_⟩
 refine⟨y,_,I.lset (its':=its.eraseIdx k) hH e ?_ (r.eraseIdx k) ?_,rw',q⟩
 ·show its.toArray.eraseIdxIfInBounds k=(its.eraseIdx k).toArray
  rw[List.eraseIdxIfInBounds_toArray]
 ·have:=Ia xs k
  omega
def ZE:R2:=fun x y H Q=>∃l b xs zs,x=.ref l∧y=.ref b∧H l=some (.lst xs)∧H b=some (.lst zs)∧xs.length+zs.length≤sizeLine∧∀p,H p=none→Q (.ref p) (upd H p (.lst (xs++zs)))
theorem Gv:DD X (jl .Add) ZE:=by
 intro pins s σ H x y v u Q I rx ry h
 obtain⟨l,b,xs,zs,rfl,rfl,hH,hB,hz,q⟩:=h
 cases rx
 cases ry
 obtain⟨z,its,n,r,hl,e⟩:=I.lstM hH
 obtain⟨z2,its2,n2,r2,hl2,e2⟩:=I.lstM hB
 refine PySem.P.add_list e e2 ?_ (by rw[eP,eP];omega)
 have ea:its.toArray++its2.toArray=(its++its2).toArray:=by simp
 rw[ea]
 exact⟨.ref _,_,I.lnew (t':=s.toks) (r.append r2) (by rw[eK];omega),rfl,q _ I.fresh⟩
end
section
variable{prog:Program}{w:World}{A:eU}{E:Value→a9→Prop}{s:a9}
end
section
variable{X:Cx}
end
end L2
namespace Att
open PySem PySem.W PySem.Calls PyProof.Rows
theorem GG{P:Params}{h:Heap}:∀(ns:List Int) (vs:List Value),WellAll P h vs (ns.map WData.int)→IntsAre vs ns:=by
 intro ns
 induction ns with
 |nil=>
  intro vs w
  rw[kM] at w
  cases w
  exact .nil
 |cons n ns ih=>
  intro vs w
  rw[eT] at w
  cases w with
  |cons a b=>
   cases a
   exact .cons _ _ (ih _ b)
theorem Ot{l:mQ}{n:Nat}(hn:l.most=some n){P:Params}{h:Heap}{args:List WData}{vals:List Value}
  (hpre:l.row.toRowW.claim.pre args=true) (hwl:WellAll P h vals args):
  ∃a vs ns,vals=[Value.ref a]∧args=[WData.list (ns.map WData.int)]∧h.get? a=some {cls:=.type "list",data:=.seq vs.toArray}∧IntsAre vs ns∧ns.length≤n:=by
 have hsh:WShape.hasAll [] args [.list .int]=true:=(pre_splitW hpre).1
 have hc:l.pre.holds [] {args:=args}=true:=(pre_splitW hpre).2
 obtain⟨d,r,rfl,h1,h2⟩:=hasAllW_cons hsh
 obtain rfl:=hasAllW_nil h2
 obtain⟨xs,rfl,h3⟩:=hasW_list h1
 obtain⟨ns,rfl⟩:=items_int h3
 have hlen:ns.length≤n:=by
  unfold mQ.pre at hc
  have h4:(WTm.not (.lt (.lit (.int (n:Int))) (.len (.arg 0)))).holds [] {args:=[.list (ns.map .int)]}=true:=by
   have h4:=(holds_andW hc).1
   rw[hn] at h4
   exact h4
  have h5:=condW_of h4 (w_not (w_lt w_lit (w_len_list (w_arg rfl))))
  rw[b6] at h5
  refine kS fun q=>?_
  have q':(n:Int)< ((ns.length:Nat):Int):=by omega
  first
   | (rw[decide_eq_true q'] at h5;exact absurd h5 (by decide))
   | (simp at h5;omega)
 cases hwl with
 |cons w1 w2=>
  cases w2
  cases w1 with
  |list ho hall=>exact⟨_,_,ns,rfl,rfl,ho,GG ns _ hall,hlen⟩
theorem Ou(l:mQ)(args:List WData):l.row.toRowW.claim.post args (.bool true) args=true:=
 postW_of (r:=l.row.toRowW) (X:=(true==true))
  (show WShape.has [] (.bool true) .bool=true by first|rfl|decide|simp[WShape.has,WShape.arms,WShape.armsAll])
  (show(WTm.eq .res (.lit (.bool true))).value [] {args:=args,res:=some (.bool true),after:=args}=some (.bool (true==true)) from w_eq_bool (w_res rfl) w_lit) rfl
theorem Ko{l:mQ}{n:Nat}{q:Program}{loose:List Str}{XP:(Str→Option Value)→Heap→Prop}{YP:World→Heap→Prop}{d:DefRec}
  (hn:l.most=some n) (hdf:d.params.defaults=[])
  (call:∀(w:World) (s₀ s₁:a9) (mg mb:Str→Option Value) (fa:Addr) (o:Obj) (pm cd doc:Value) (a:Addr) (vs:List Value) (ns:List Int),
   Ground q loose [] XP w s₀ mg mb s₁.heap→YP w s₁.heap→
   s₁.heap.get? fa=some o→o.data=.func (docDef d.name d.params d.body d.scope pm cd doc)→s₁.heap.CodeRec cd d.name→mg d.name=some (.ref fa)→
   s₁.heap.get? a=some {cls:=.type "list",data:=.seq vs.toArray}→IntsAre vs ns→ns.length≤n→s₁.gens= #[]→
   j1 (model l.prog w) nD (.call (.ref fa) ⟨[.ref a],[]⟩) (fun r s'=>r=.ok (.ret (.bool true))∧OldK s₁.heap s'.heap∧s'.os=s₁.os∧lG s'.gens) s₁):
  WalkO q loose XP YP l.row.toRowW d [] (fun f vs=>PySem.call f vs):=by
 intro w s₀ s₁ mg mb G Y fa o pm cd doc dV kV ho hd hcd hD hmg hg args vals as hpre hlay hrd hwl hlo
 obtain rfl:dV=.none:=Dflts.none hD hdf
 obtain rfl:kV=.none:=Dflts.noKw hD
 obtain⟨a,vs,ns,rfl,rfl,hobj,hints,hlen⟩:=Ot hn hpre hwl
 refine enter_call (lC (call w s₀ s₁ mg mb fa o pm cd doc a vs ns G Y ho (fd_plain hd) hcd hmg hobj hints hlen hg) fun r s' hq=>?_)
 obtain⟨rfl,h2,h3,h4⟩:=hq
 exact⟨.inl ⟨.bool true,.bool true,[],rfl,fun _=>rfl,.bool true,Ou l _,fun _=> ⟨fv.nil,fun _ hm=> (nomatch hm)⟩⟩,h2,h3,h4⟩
section
variable{prog:Program}{w:World}{A:eU}{E:Value→a9→Prop}{s:a9}{K:Frag}
end
end Att
namespace L2
open PySem PySem.Spec PyProof.Rows
theorem Ic:∀{vs:List Value} {ns:List Int},IntsAre vs ns→Vals (ns.map V.int) vs
 |_,_,.nil=> .nil
 |_,_,.cons n t h=> .cons ⟨t,rfl⟩ (Ic h)
def Wc(H:Hp):Prop:=∀b,H b=none∨∃o xs,H b=some (.frz o (.lst xs))
theorem QK{P:Program}{w:World}{K:a8}{mg mb:Str→Option Value}{CX:Sj}{k:Nat}{fa a:Addr}{fd:fm}{x:Str}{sp:Sp}{s₁:a9}{vs:List Value}{ns:List Int}
  (KX:K.In s₁.heap) (hns:s₁.heap.Ns gT mg) (hb:s₁.heap.Ns nT mb) (hbb:∀x:Str,x≠"__name__"→mb x=fw x) (hlim:s₁.heap.NoLimit) (hg:s₁.gens= #[])
  (ha:s₁.heap.get? a=some {cls:=.type "list",data:=.seq vs.toArray}) (hi:IntsAre vs ns) (hl:ns.length≤sizeLine) (hr:Room k nD)
  (F:∀base:Heap,K.In base→base.Ns gT mg→FnOk P w K mg base CX k fa fd [x] sp) (hbind:∀(s:a9) (u:Value),om s fd ⟨[u],[]⟩ [(x,u)])
  (hsp:∀H:Hp,Wc H→EY K H a (ns.map V.int)→sp [.ref a] H (fun v _=>v=.bl true) fun _ _ _=>False)
  (hCX:∀H e s',CX [] H s₁ (fun _ _ _=>False) e s'→False):
  j1 (model P w) nD (.call (.ref fa) ⟨[.ref a],[]⟩) (fun r s'=>r=.ok (.ret (.bool true))∧OldK s₁.heap s'.heap∧s'.os=s₁.os∧lG s'.gens) s₁:=by
 have rv:=Ic hi
 have lenV:=hi.length
 have core:∀H:Hp,Wc H→EY K H a (ns.map V.int)→HOk P w H s₁.heap→(∀b,H b≠none→b=a)→(H a≠none→K.lookup a=none)→
   j1 (model P w) nD (.call (.ref fa) ⟨[.ref a],[]⟩) (fun r s'=>r=.ok (.ret (.bool true))∧OldK s₁.heap s'.heap∧s'.os=s₁.os∧lG s'.gens) s₁:=by
  intro H hO hS hok hA hK
  have base_of:∀{b:Addr} {o:Obj},s₁.heap.get? b=some o→H b=none→(JQ s₁.heap H).get? b=some o:=fun e n=>Pq e n
  have noA:∀{b:Addr} {o:Obj} {es:Array DictEntry} {ep:Nat},s₁.heap.get? b=some o→o.data=.dict es ep→H b=none:=fun{b o es ep} e d=>by
   cases q:H b with
   |none=>rfl
   |some u=>
    have e':b=a:=hA b (by rw[q];simp)
    subst e'
    rw[ha] at e;cases e
    have d':Data.seq vs.toArray _=Data.dict es ep:=d
    cases d'
  have nsK:∀{b:Addr} {m:Str→Option Value},s₁.heap.Ns b m→(JQ s₁.heap H).Ns b m:=fun{b m} ⟨o,es,ep,e,d,r⟩=> ⟨o,es,ep,base_of e (noA e d),d,r⟩
  have hKb:K.In (JQ s₁.heap H):=fun b o e=>base_of (KX b o e) (by
   cases q:H b with
   |none=>rfl
   |some u=>
    have e':b=a:=hA b (by rw[q];simp)
    subst e'
    rw[hK (by rw[q];simp)] at e;cases e)
  have hM:Mod K mg (JQ s₁.heap H):=⟨hKb,nsK hns,⟨mb,nsK hb,hbb⟩,let⟨mc,h1,h2⟩:=hlim;⟨mc,nsK h1,h2⟩⟩
  have e0:Env0 P w K mg (JQ s₁.heap H) nD [] s₁ H:=⟨rfl,hM,fun b o e=>Sn e,Nat.le_of_eq (Od _ _),trivial,fun b hb=>absurd (show b∈([]:List Addr) from hb) (by simp),hok,.of_eq hg⟩
  refine lC ((F _ hKb (nsK hns)).run nD [] s₁ H ⟨[.ref a],[]⟩ [.ref a] [.ref a] _ _ hr e0 (hbind s₁ (.ref a)) (.cons rfl .nil) (hsp H hO hS)) fun r s' h=>?_
  cases r with
  |error e=>exact(hCX H e s' h).elim
  |ok fl=>
   cases fl with
   |next=>exact jv h
   |brk=>exact jv h
   |cont=>exact jv h
   |ret u=>
    obtain⟨v,H',os,bare,un,hok',r',q⟩:=h
    have q':v=.bl true:=q
    subst q'
    obtain rfl:u=lN true:=r'
    refine⟨rfl,OldK.of_keep fun b o e=>?_,os,bare⟩
    cases q:H b with
    |none=>exact un.keep b o e q (by intro z;exact absurd (show b∈([]:List Addr) from z) (by simp)) (by simp)
    |some u=>
     rcases hO b with z| ⟨ob,xs,z⟩
     ·rw[q] at z;cases z
     ·have z2:=un.frzs b ob _ z
      obtain⟨e1,_⟩:=hok b _ z
      obtain⟨e2,_⟩:=hok' b _ z2
      rw[e] at e1;cases e1
      exact e2
 cases hk:K.lookup a with
 |some o=>
  have e:=KX a o hk
  rw[ha] at e
  cases e
  refine core (fun _=>none) (fun _=> .inl rfl) (.inr ⟨_,vs.toArray,_,hk,rfl,rfl,rfl,by rw[eP,lenV];exact hl,by simpa using rv⟩) (fun b u z=>by have z':(none:Option HO)=some u:=z;cases z') (fun b z=>absurd rfl z) fun z=>absurd rfl z
 |none=>
  refine core (fun b=>if b=a then some (.frz {cls:=.type "list",data:=.seq vs.toArray} (.lst (ns.map V.int))) else none) (fun b=>?_) (.inl (.inr ⟨{cls:=.type "list",data:=.seq vs.toArray},if_pos rfl⟩)) (fun b u z=>?_) (fun b z=>?_) fun _=>hk
  ·by_cases hb:b=a
   ·exact .inr ⟨_,_,if_pos hb⟩
   ·exact .inl (if_neg hb)
  ·by_cases hb:b=a
   ·have z':=(if_pos hb).symm.trans z
    cases z'
    subst hb
    exact⟨ha,by rw[b6];exact hl,vs,_,rv,ha⟩
   ·have z':=(if_neg hb).symm.trans z
    cases z'
  ·by_cases hb:b=a
   ·exact hb
   ·exact absurd (if_neg hb) z
theorem TJ{l:mQ}{n k:Nat}{q:Program}{loose:List Str}{XP:(Str→Option Value)→Heap→Prop}{YP:World→Heap→Prop}{d:DefRec}{K:Params→a8}{CX:World→Sj}{sp:World→Sp}{x:Str}
  (hn:l.most=some n) (hn2:n≤sizeLine) (hdf:d.params.defaults=[]) (hr:Room k nD)
  (hY:∀(w:World) (h:Heap),YP w h→(K w.params).In h)
  (F:∀(w:World) (mg:Str→Option Value) (fa:Addr) (h:Heap),(K w.params).In h→h.Ns gT mg→mg d.name=some (.ref fa)→
   ∃fd:fm,(∀(s:a9) (u:Value),om s fd ⟨[u],[]⟩ [(x,u)])∧
    ∀base:Heap,(K w.params).In base→base.Ns gT mg→FnOk l.prog w (K w.params) mg base (CX w) k fa fd [x] (sp w))
  (hsp:∀(w:World) (H:Hp) (a:Addr) (ns:List Int),ns.length≤n→Wc H→EY (K w.params) H a (ns.map V.int)→sp w [.ref a] H (fun v _=>v=.bl true) fun _ _ _=>False)
  (hCX:∀(w:World) (H:Hp) (s:a9) (e:Value) (s':a9),CX w [] H s (fun _ _ _=>False) e s'→False):
  PySem.W.WalkO q loose XP YP l.row.toRowW d [] (fun f vs=>PySem.call f vs):=by
 refine Att.Ko hn hdf fun w s₀ s₁ mg mb fa o pm cd doc a vs ns G Y ho hd hcd hmg hobj hints hlen hg=>?_
 have KX:=hY w _ Y
 obtain⟨fd,hb,hF⟩:=F w mg fa _ KX G.T.g hmg
 exact QK KX G.T.g G.T.b G.T.builtins G.T.nolimit hg hobj hints (fo hlen hn2) hr hF hb (fun H hO hS=>hsp w H a ns hlen hO hS) fun H e s'=>hCX w H s₁ e s'
def Ef(s:Stmt):Arguments:=match s with
 | .FunctionDef _ a _ _ _ _ _ _ _ _=>a
 |_=> {posonlyargs:=[],args:=[],vararg:=none,kwonlyargs:=[],kw_defaults:=[],kwarg:=none,defaults:=[]}
def Aq(s:Stmt):List Stmt:=match s with
 | .FunctionDef _ _ b _ _ _ _ _ _ _=>b
 |_=> []
def AA(s:Stmt):Scope:=match s with
 | .FunctionDef _ _ _ _ _ _ sc _ _ _=>sc
 |_=> {kind:=.function,names:=[],isGenerator:=false,isCoroutine:=false}
abbrev E0:XK:=fun _ _ _=>False
structure Fun(K:a8)(x qual:Str)(st:Stmt)(f:Addr)(fd:fm):Prop where
 ex:∃(oc:Value) (od:Option Addr) (kV doc pm:Value) (an:Option Addr) (cdv ct:Value) (osl:Array (Option Value)),
  fd=j3 x qual (Ef st) (Aq st) (AA st) .none kV doc pm an cdv ct∧K.lookup f=some ⟨oc,od,.func fd,osl⟩∧m9 K cdv qual=true
 kp:jg K (.ref f)=true
section
variable{P:Program}{w:World}{K:a8}{mg:Str→Option Value}{base:Heap}
theorem Fun.binds{x qual:Str}{st:Stmt}{f:Addr}{fd:fm}{ps:List Str}(F:Fun K x qual st f fd)
  (h:∀(kV doc pm:Value) (an:Option Addr) (cdv ct:Value) (us:List Value),us.length=ps.length→bindArgs (j3 x qual (Ef st) (Aq st) (AA st) .none kV doc pm an cdv ct) ⟨us,[]⟩=pure (ps.zip us)):Binds K fd ps []:=by
 obtain⟨oc,od,kV,doc,pm,an,cdv,ct,osl,rfl,lk,hcd⟩:=F.ex
 exact .all (h kV doc pm an cdv ct)
end
section
variable{X:Cx}
theorem pv(i:Nat){x:Str}{pos:Pos}(hN:X.N[i]?=some x:=by rfl)(hv:YR X.env.scope x:=by first|exact mh rfl|exact lP (mh rfl)|exact lP (lP rfl))(hd:(x==("__debug__" :Str))=false:=by decide)
  (hcd:(x==("__classdict__" :Str))=false:=by decide):PE X (.Name x pos) (YV i):=Pt hN hv hd hcd
end
theorem TK{A B:Prop}(h:B):if false=true then A else B:=by
 rw[if_neg eC]
 exact h
theorem GH{A B:Prop}(h:A):if true=true then A else B:=by
 rw[if_pos rfl]
 exact h
theorem Wd{c A B:Prop} [Decidable c](h1:c→A)(h2:¬c→B):if c then A else B:=by
 by_cases h:c
 ·rw[if_pos h]
  exact h1 h
 ·rw[if_neg h]
  exact h2 h
end L2
set_option maxHeartbeats 4000000
namespace K04
open PySem L2
def kE(P:Params)(x:Str)(n:Tok)(v:Value):DictEntry:=⟨PyData.keyHash P x,.str x n,v⟩
def tp(i:Nat):Stmt:=gq.main.body.getD i (.Pass ⟨0,0,0,0⟩)
def kF(x:Str)(i:Nat)(m:Str)(t:Tok)(c:Addr):Obj:=⟨.type "function",none,.func (j3 x x (Ef (tp i)) (Aq (tp i)) (AA (tp i)) .none .none .none (.str m t) none (.ref c) .none),#[]⟩
def kC(x:Str)(a b c:Tok)(vs:List Value):Obj:=⟨.type "code",none,.fields ((ou x a::.str x b::.str "/claim/cut.py" c::vs).toArray),#[]⟩
def kD(x:Str)(a b c:Tok)(l n:Int)(r:Addr)(g:Int)(q:Addr)(z:Int)(k:Tok)(vs:List Value):Obj:=kC x a b c (.int l 0::.int n 0::.int 0 0::.int 0 0::.int 3 0::.ref r::.bool true::.int g 0::.ref q::(vs++[.int z 0,.int l 0,.str "/claim/cut.py" k]))
def Kk:Params→a8:=fun P=> (nat_lit 3,⟨(.type "dict"),none,(.dict #[kE P "__name__" 165 (.str "law_noshortring_k04_rings" 297),kE P "__doc__" 166 .none,kE P "__package__" 167 .none,kE P "__loader__" 168 (.builtin "__main__.__loader__#opaque"),kE P "__spec__" 169 .none,kE P "__annotations__" 170 (.ref 6),kE P "__builtins__" 171 (.ref 4),kE P "__file__" 173 (.str "/claim/cut.py" 172),kE P "__cached__" 174 .none,kE P "is_whole" 197 (.ref 21),kE P "least_told" 203 (.ref 26),kE P "LEAST_RING" 207 (.int 3 206),kE P "is_place" 215 (.ref 33),kE P "are_tied" 224 (.ref 40),kE P "nears_of" 230 (.ref 45),kE P "fars_from" 236 (.ref 50),kE P "ring_good" 242 (.ref 55),kE P "ring_by_tie" 248 (.ref 60),kE P "shortest" 254 (.ref 65),kE P "shortest_rings_from" 266 (.ref 72),kE P "rows_longer" 279 (.ref 79),kE P "first_ring" 290 (.ref 86),kE P "shortest_many" 296 (.ref 91),kE P "_law_cell_at" 306 (.ref 98),kE P "_law_next" 313 (.ref 105),kE P "_law_pen_of" 321 (.ref 112),kE P "_law_draw" 330 (.ref 119),kE P "_law_whole" 337 (.ref 126),kE P "_law_named" 343 (.ref 131),kE P "_law_names_by" 349 (.ref 136),kE P "_law_turned" 361 (.ref 143),kE P "_law_shape" 367 (.ref 148),kE P "_law_web_by" 379 (.ref 155),kE P "_law_far" 385 (.ref 160),kE P "_law_rings" 391 (.ref 165),kE P "_law_shortest" 399 (.ref 172),kE P "_law_good" 405 (.ref 177),kE P "_law_bent" 417 (.ref 184),kE P "law" 423 (.ref 189)] 39),#[]⟩)::
  (nat_lit 20,kD "is_whole" 189 190 191 2 3 15 181 16 195 196 [.none,(.ref 17),(.ref 18),(.ref 19)])::
  (nat_lit 21,kF "is_whole" 1 "noshortring.common" 187 20)::
  (nat_lit 25,kD "least_told" 198 199 200 6 1 22 181 23 201 202 [.none,.none,.none,(.ref 24)])::
  (nat_lit 26,kF "least_told" 2 "noshortring.common" 187 25)::
  (nat_lit 32,kD "is_place" 208 209 210 10 2 27 181 28 213 214 [.none,(.ref 29),(.ref 30),(.ref 31)])::
  (nat_lit 33,kF "is_place" 5 "noshortring.webs" 204 32)::
  (nat_lit 39,kD "are_tied" 216 217 218 12 3 34 181 35 222 223 [.none,(.ref 36),(.ref 37),(.ref 38)])::
  (nat_lit 40,kF "are_tied" 6 "noshortring.webs" 204 39)::
  (nat_lit 44,kD "nears_of" 225 226 227 14 1 41 181 42 228 229 [.none,.none,.none,(.ref 43)])::
  (nat_lit 45,kF "nears_of" 7 "noshortring.webs" 204 44)::
  (nat_lit 49,kD "fars_from" 231 232 233 20 2 46 181 47 234 235 [.none,.none,.none,(.ref 48)])::
  (nat_lit 50,kF "fars_from" 8 "noshortring.webs" 204 49)::
  (nat_lit 54,kD "ring_good" 237 238 239 36 2 51 181 52 240 241 [.none,.none,.none,(.ref 53)])::
  (nat_lit 55,kF "ring_good" 9 "noshortring.webs" 204 54)::
  (nat_lit 59,kD "ring_by_tie" 243 244 245 42 3 56 181 57 246 247 [.none,.none,.none,(.ref 58)])::
  (nat_lit 60,kF "ring_by_tie" 10 "noshortring.webs" 204 59)::
  (nat_lit 64,kD "shortest" 249 250 251 47 1 61 181 62 252 253 [.none,.none,.none,(.ref 63)])::
  (nat_lit 65,kF "shortest" 11 "noshortring.webs" 204 64)::
  (nat_lit 71,kD "shortest_rings_from" 255 256 257 50 3 66 181 67 264 265 [.none,(.ref 68),(.ref 69),(.ref 70)])::
  (nat_lit 72,kF "shortest_rings_from" 12 "noshortring.webs" 204 71)::
  (nat_lit 78,kD "rows_longer" 267 268 269 56 4 73 181 74 277 278 [.none,(.ref 75),(.ref 76),(.ref 77)])::
  (nat_lit 79,kF "rows_longer" 13 "noshortring.webs" 204 78)::
  (nat_lit 85,kD "first_ring" 280 281 282 63 1 80 181 81 288 289 [.none,(.ref 82),(.ref 83),(.ref 84)])::
  (nat_lit 86,kF "first_ring" 14 "noshortring.webs" 204 85)::
  (nat_lit 90,kD "shortest_many" 291 292 293 73 1 87 181 88 294 295 [.none,.none,.none,(.ref 89)])::
  (nat_lit 91,kF "shortest_many" 15 "noshortring.webs" 204 90)::
  (nat_lit 97,kD "_law_cell_at" 299 300 301 80 2 92 181 93 304 305 [.none,(.ref 94),(.ref 95),(.ref 96)])::
  (nat_lit 98,kF "_law_cell_at" 17 "law_noshortring_k04_rings" 297 97)::
  (nat_lit 104,kD "_law_next" 307 308 309 84 1 99 181 100 311 312 [.none,(.ref 101),(.ref 102),(.ref 103)])::
  (nat_lit 105,kF "_law_next" 18 "law_noshortring_k04_rings" 297 104)::
  (nat_lit 111,kD "_law_pen_of" 314 315 316 87 1 106 181 107 319 320 [.none,(.ref 108),(.ref 109),(.ref 110)])::
  (nat_lit 112,kF "_law_pen_of" 19 "law_noshortring_k04_rings" 297 111)::
  (nat_lit 118,kD "_law_draw" 322 323 324 90 2 113 181 114 328 329 [.none,(.ref 115),(.ref 116),(.ref 117)])::
  (nat_lit 119,kF "_law_draw" 20 "law_noshortring_k04_rings" 297 118)::
  (nat_lit 125,kD "_law_whole" 331 332 333 97 1 120 181 121 335 336 [.none,(.ref 122),(.ref 123),(.ref 124)])::
  (nat_lit 126,kF "_law_whole" 21 "law_noshortring_k04_rings" 297 125)::
  (nat_lit 130,kD "_law_named" 338 339 340 99 2 127 181 128 341 342 [.none,.none,.none,(.ref 129)])::
  (nat_lit 131,kF "_law_named" 22 "law_noshortring_k04_rings" 297 130)::
  (nat_lit 135,kD "_law_names_by" 344 345 346 102 2 132 181 133 347 348 [.none,.none,.none,(.ref 134)])::
  (nat_lit 136,kF "_law_names_by" 23 "law_noshortring_k04_rings" 297 135)::
  (nat_lit 142,kD "_law_turned" 350 351 352 105 2 137 181 138 359 360 [.none,(.ref 139),(.ref 140),(.ref 141)])::
  (nat_lit 143,kF "_law_turned" 24 "law_noshortring_k04_rings" 297 142)::
  (nat_lit 147,kD "_law_shape" 362 363 364 112 2 144 181 145 365 366 [.none,.none,.none,(.ref 146)])::
  (nat_lit 148,kF "_law_shape" 25 "law_noshortring_k04_rings" 297 147)::
  (nat_lit 154,kD "_law_web_by" 368 369 370 131 2 149 181 150 377 378 [.none,(.ref 151),(.ref 152),(.ref 153)])::
  (nat_lit 155,kF "_law_web_by" 26 "law_noshortring_k04_rings" 297 154)::
  (nat_lit 159,kD "_law_far" 380 381 382 141 1 156 181 157 383 384 [.none,.none,.none,(.ref 158)])::
  (nat_lit 160,kF "_law_far" 27 "law_noshortring_k04_rings" 297 159)::
  (nat_lit 164,kD "_law_rings" 386 387 388 152 2 161 181 162 389 390 [.none,.none,.none,(.ref 163)])::
  (nat_lit 165,kF "_law_rings" 28 "law_noshortring_k04_rings" 297 164)::
  (nat_lit 171,kD "_law_shortest" 392 393 394 167 1 166 181 167 397 398 [.none,(.ref 168),(.ref 169),(.ref 170)])::
  (nat_lit 172,kF "_law_shortest" 29 "law_noshortring_k04_rings" 297 171)::
  (nat_lit 176,kD "_law_good" 400 401 402 172 2 173 181 174 403 404 [.none,.none,.none,(.ref 175)])::
  (nat_lit 177,kF "_law_good" 30 "law_noshortring_k04_rings" 297 176)::
  (nat_lit 183,kD "_law_bent" 406 407 408 179 3 178 181 179 415 416 [.none,(.ref 180),(.ref 181),(.ref 182)])::
  (nat_lit 184,kF "_law_bent" 31 "law_noshortring_k04_rings" 297 183)::
  (nat_lit 188,kD "law" 418 419 420 185 1 185 181 186 421 422 [.none,.none,.none,(.ref 187)])::
  (nat_lit 189,kF "law" 32 "law_noshortring_k04_rings" 297 188)::[]
def ka:List Addr:=[3,20,21,25,26,32,33,39,40,44,45,49,50,54,55,59,60,64,65,71,72,78,79,85,86,90,91,97,98,104,105,111,112,118,119,125,126,130,131,135,136,142,143,147,148,154,155,159,160,164,165,171,172,176,177,183,184,188,189]
abbrev kq:Program:=PySem.W.view gq [1,2,4,5,6,7,8,9,10,11,12,13,14,15,17,18,19,20,21,22,23,24,25,26,27,28,29,30,31,32]
theorem bU:(fun(_:Params→a8) (_:Program)=>true) Kk gq=true:=by k_qdec
theorem left:PySem.W.LeftO gq kq [] (fun s=>PySem.W.xlAt kq [] s&&PySem.W.recOk [] s) (fun s=>ka.map s.heap.get?) (fun w=> (Kk w.params).map fun(p:Addr×Obj)=>some p.2) 1876:=by
 intro w
 delta kq
 rw[PySem.W.Fast.te9721838442714472925,PySem.W.Fast.te14893033108948938285,PySem.W.Fast.te14364793385576792824,PySem.W.Fast.te4187177175401517315,PySem.W.Fast.te5923862056798008813]
 kernel_rfl
end K04
namespace L2
open PySem PySem.Spec PyProof.Rows
theorem JW{env:Env}:∀(l:List (Str×NameKind)) (acc:List (Str×Addr)),(∀y∈l,y.2=.free→∃c,env.cells.lookup y.1=some c)→
  (∀x c,acc.lookup x=some c→env.cells.lookup x=some c)→
  ∃cl,(forIn l acc (fun(x:Str×NameKind) (r:List (Str×Addr))=> (match x with
   | (name,kind)=>if(kind==NameKind.free)=true then(do let a←cellOf env name;pure (iM ((name,a)::r))) else pure (iM r):Sem (ForInStep (List (Str×Addr))))))=(pure cl:Sem _)∧
   (∀x c,cl.lookup x=some c→env.cells.lookup x=some c)∧(∀x,(acc.lookup x).isSome=true→(cl.lookup x).isSome=true)∧∀y∈l,y.2=.free→(cl.lookup y.1).isSome=true
 | [],acc,_,ha=> ⟨acc,rfl,ha,fun _ h=>h,fun _ h=>nomatch h⟩
 | (n,k)::r,acc,h,ha=>by
  have hr:∀y∈r,y.2=.free→∃c,env.cells.lookup y.1=some c:=fun y hy=>h y (eF _ hy)
  by_cases hk:k=.free
  ·subst hk
   obtain⟨c,hc⟩:=h (n,.free) eY rfl
   have hc:env.cells.lookup n=some c:=hc
   have ha':∀x c',((n,c)::acc).lookup x=some c'→env.cells.lookup x=some c':=fun x c' e=>by
    rw[fJ] at e
    cases hx:x==n with
    |true=>rw[hx] at e;cases e;rw[beq_iff_eq.mp hx];exact hc
    |false=>rw[hx] at e;exact ha x c' e
   obtain⟨cl,e,h1,h2,h3⟩:=JW r ((n,c)::acc) hr ha'
   refine⟨cl,?_,h1,fun x hx=>h2 x ?_,fun y hy hf=>?_⟩
   ·rw[lu]
    simp only[cellOf,hc,beq_self_eq_true,if_true]
    exact e
   ·rw[fJ]
    cases x==n with
    |true=>rfl
    |false=>exact hx
   ·rcases eJ.mp hy with rfl|hy
    ·exact h2 n (by rw[fJ,beq_self_eq_true];rfl)
    ·exact h3 y hy hf
  ·have hb:(k==NameKind.free)=false:=by simpa using hk
   obtain⟨cl,e,h1,h2,h3⟩:=JW r acc hr ha
   refine⟨cl,?_,h1,h2,fun y hy hf=>?_⟩
   ·rw[lu]
    simp only[hb,e9,if_false]
    exact e
   ·rcases eJ.mp hy with rfl|hy
    ·exact absurd hf hk
    ·exact h3 y hy hf
theorem TM{env:Env}{csc:Scope}(h:∀y∈csc.names,y.2=.free→∃c,env.cells.lookup y.1=some c):
  ∃cl,closureFor csc env=pure cl∧(∀x c,cl.lookup x=some c→env.cells.lookup x=some c)∧∀y∈csc.names,y.2=.free→(cl.lookup y.1).isSome=true:=by
 obtain⟨cl,e,h1,_,h3⟩:=JW csc.names [] h (fun x c e=>by cases e)
 refine⟨cl,?_,h1,h3⟩
 unfold closureFor
 have e':=congrArg (fun m:Sem (List (Str×Addr))=>m>>=fun r=>pure r) e
 exact e'
theorem Eg{env:Env}:∀{names:List (Str×NameKind)} {x:Str},names.lookup x=some .free→
  (names.map fun(n,k)=>if(k==NameKind.free&&env.scope.kind==.function&&env.kindOf n==some .cell) then(n,jP) else(n,k)).lookup x=some .cell∨
  (names.map fun(n,k)=>if(k==NameKind.free&&env.scope.kind==.function&&env.kindOf n==some .cell) then(n,jP) else(n,k)).lookup x=some .free
 | [],_,h=>by simp at h
 | (n,k)::r,x,h=>by
  have ih:=@Eg env r x
  rw[eT]
  show List.lookup x ((if(k==NameKind.free&&env.scope.kind==.function&&env.kindOf n==some .cell)=true then(n,jP) else(n,k))::_)=_∨List.lookup x ((if(k==NameKind.free&&env.scope.kind==.function&&env.kindOf n==some .cell)=true then(n,jP) else(n,k))::_)=_
  cases hx:x==n with
  |true=>
   simp only[fJ,hx] at h
   cases h
   split
   ·exact .inl (by rw[fJ,hx])
   ·exact .inr (by rw[fJ,hx])
  |false=>
   simp only[fJ,hx] at h
   split
   ·simp only[fJ,hx];exact ih h
   ·simp only[fJ,hx];exact ih h
def NQ:Option NameKind→Bool
 |some .cell=>true
 |_=>false
theorem Kq{k:Option NameKind}(h:NQ k=true):k=some .cell:=by
 cases k with
 |none=>cases h
 |some k=>cases k<;>first|rfl|cases h
def TN(X:Cx)(csc:Scope)(cl:List (Str×Addr))(N':List Str)(s:a9)(H:Hp)(fp:List Addr):Cx:=
 {X with N:=N',s₀:=s,H₀:=H,env:=nZ csc cl s.heap.objs.size X.env,outer:=X.stack,ex:=fp,fn:=fun x=>NQ (csc.names.lookup x),pn:=[],xe:=fun _ _=>False}
structure LcCx(X:Cx)(csc:Scope)(N':List Str)(X':Cx):Prop where
 is:∃cl s H fp,X'=TN X csc cl N' s H fp
def CV(σ:St)(cap:List (Str×Nat)):St:=cap.map fun p=> (σ[p.2]?).join
structure LcOk(X:Cx)(csc:Scope)(nc:List Str)(cap:List (Str×Nat)):Prop where
 kind:csc.kind=.function
 cells:∀y∈csc.names,y.2=.cell→csc.names.lookup y.1=some .cell
 locals:∀y∈csc.names,y.2=.local→csc.names.lookup y.1=some .local
 free:∀y∈csc.names,y.2=.free→X.env.scope.names.lookup y.1=some .cell∨X.env.scope.names.lookup y.1=some .free
 caps:∀p∈cap,X.N[p.2]?=some p.1∧csc.names.lookup p.1=some .free
abbrev Ai(nc:List Str)(cap:List (Str×Nat)):List Str:=nc++cap.map (·.1)
abbrev II(nc:List Str)(σ:St)(cap:List (Str×Nat)):St:=eE nc.length none++CV σ cap
theorem Aw{α:Type}:∀{l:List (Str×α)} {x:Str} {v:α},l.lookup x=some v→(x,v)∈l
 | [],_,_,h=>by simp at h
 | (n,k)::r,x,v,h=>by
  rw[fJ] at h
  cases hx:x==n with
  |true=>rw[hx] at h;cases h;rw[beq_iff_eq.mp hx];exact eY
  |false=>rw[hx] at h;exact eF _ (Aw h)
theorem MM:∀(names:List (Str×NameKind)) (L:Nat) (a acc:List (Str×Addr)),iz L names (a++acc)=iz L names a++acc
 | [],_,_,_=>rfl
 | (n,k)::r,L,a,acc=>by
  unfold iz
  split
  ·exact MM r (L+1) ((n,L)::a) acc
  ·exact MM r L a acc
theorem We(names:List (Str×NameKind))(L:Nat)(acc:List (Str×Addr)):iz L names acc=iz L names []++acc:=MM names L [] acc
theorem MN:∀(names:List (Str×NameKind)) (L:Nat) (acc:List (Str×Addr)) (x:Str) (c:Addr),(x,c)∈iz L names acc→(x,.cell)∈names∨(x,c)∈acc
 | [],_,_,_,_,h=> .inr h
 | (n,k)::r,L,acc,x,c,h=>by
  unfold iz at h
  split at h
  ·rename_i hk
   rcases MN r (L+1) _ x c h with h|h
   ·exact .inl (eF _ h)
   ·rcases eJ.mp h with h|h
    ·cases h
     rw[eq_of_beq hk]
     exact .inl eY
    ·exact .inr h
  ·rcases MN r L _ x c h with h|h
   ·exact .inl (eF _ h)
   ·exact .inr h
theorem JX:∀(names:List (Str×NameKind)) (L:Nat) (acc:List (Str×Addr)) (x:Str),((x,.cell)∈names∨(acc.lookup x).isSome=true)→((iz L names acc).lookup x).isSome=true
 | [],_,_,_,h=>h.elim (fun z=>by cases z) id
 | (n,k)::r,L,acc,x,h=>by
  unfold iz
  split
  ·refine JX r (L+1) _ x ?_
   rcases h with h|h
   ·rcases eJ.mp h with h|h
    ·cases h
     exact .inr (by rw[fJ,beq_self_eq_true];rfl)
    ·exact .inl h
   ·refine .inr ?_
    rw[fJ]
    cases x==n with
    |true=>rfl
    |false=>exact h
  ·rename_i hk
   refine JX r L acc x ?_
   rcases h with h|h
   ·rcases eJ.mp h with h|h
    ·cases h;exact absurd rfl hk
    ·exact .inl h
   ·exact .inr h
theorem ED{α:Type}:∀{l m:List (Str×α)} {x:Str},(l++m).lookup x=match l.lookup x with|some v=>some v|none=>m.lookup x
 | [],_,_=>rfl
 | (n,k)::r,m,x=>by
  rw[j5,fJ,fJ]
  cases x==n with
  |true=>rfl
  |false=>exact ED
structure LcCells(X:Cx)(csc:Scope)(cs:List (Str×Addr))(s:a9)(h1:Heap):Prop where
 at_:∀x c,cs.lookup x=some c→(csc.names.lookup x=some .cell∧s.heap.objs.size≤c∧h1.IsCell c none)∨(csc.names.lookup x≠some .cell∧X.env.cells.lookup x=some c)
 has:∀x,csc.names.lookup x=some .free∨csc.names.lookup x=some .cell→∃c,cs.lookup x=some c
 inj:∀x y c,cs.lookup x=some c→cs.lookup y=some c→x=y
theorem TQ{X:Cx}{csc:Scope}{cl:List (Str×Addr)}{nc:List Str}{cap:List (Str×Nat)}{pins:List (Addr×Obj)}{σ:St}{H:Hp}{s:a9}{o:Obj}
  (ok:LcOk X csc nc cap) (I:Inv X pins σ H s) (hc1:∀x c,cl.lookup x=some c→X.env.cells.lookup x=some c) (hc2:∀y∈csc.names,y.2=.free→(cl.lookup y.1).isSome=true):
  LcCells X csc (iz (s.heap.objs.size+1) csc.names cl) s (nB (s.heap.push o) csc.names):=by
 have nk:=cellsFrom_ok csc.names (s.heap.push o) (s.heap.objs.size+1) [] ⟨fun _ _ hm=> (nomatch hm),fv.nil⟩ (by rw[fZ];exact dv _)
 rw[fZ] at nk
 rw[We]
 have split:∀x c,(iz (s.heap.objs.size+1) csc.names []++cl).lookup x=some c→((x,c)∈iz (s.heap.objs.size+1) csc.names []∧csc.names.lookup x=some .cell)∨(csc.names.lookup x≠some .cell∧cl.lookup x=some c):=fun x c e=>by
  rw[ED] at e
  cases hx:(iz (s.heap.objs.size+1) csc.names []).lookup x with
  |some v=>
   rw[hx] at e
   cases e
   have m:=Aw hx
   refine .inl ⟨m,?_⟩
   rcases MN _ _ _ _ _ m with z|z
   ·exact ok.cells _ z rfl
   ·cases z
  |none=>
   rw[hx] at e
   refine .inr ⟨fun z=>?_,e⟩
   have:=JX csc.names (s.heap.objs.size+1) [] x (.inl (Aw z))
   rw[hx] at this
   cases this
 refine⟨fun x c e=>?_,fun x hx=>?_,fun x y c e1 e2=>?_⟩
 ·rcases split x c e with⟨m,k⟩| ⟨k,e⟩
  ·exact .inl ⟨k,lY (nk.empty x c m).2,(nk.empty x c m).1⟩
  ·exact .inr ⟨k,hc1 x c e⟩
 ·refine Option.isSome_iff_exists.mp ?_
  rw[ED]
  cases hn:(iz (s.heap.objs.size+1) csc.names []).lookup x with
  |some v=>rfl
  |none=>
   rcases hx with hx|hx
   ·exact hc2 _ (Aw hx) rfl
   ·have:=JX csc.names (s.heap.objs.size+1) [] x (.inl (Aw hx))
    rw[hn] at this
    cases this
 ·have old:∀z,cl.lookup z=some c→c<s.heap.objs.size:=fun z e=>by
   obtain⟨v,hv⟩:=I.cell z c (hc1 z c e)
   exact hv.lt
  rcases split x c e1 with⟨m1,_⟩| ⟨_,g1⟩<;>rcases split y c e2 with⟨m2,_⟩| ⟨_,g2⟩
  ·exact name_of_addr nk.apart m1 m2
  ·exact absurd (eX (old y g2) (lY (nk.empty x c m1).2)) (gw _)
  ·exact absurd (eX (old x g1) (lY (nk.empty y c m2).2)) (gw _)
  ·exact I.ok.inj x y c (hc1 x c g1) (hc1 y c g2)
section
variable{M:Model}{A:eU}{E:Value→a9→Prop}{s:a9}
theorem QL{scope:Scope}{globals:Addr}{closure:List (Str×Addr)}{qual:Str}{env:Env}{Q:Env→a9→Prop}
  (hQ:Q (newEnv scope s.heap.objs.size globals (iz (s.heap.objs.size+1) scope.names closure) qual none .none (some env) nT) {s with heap:=nB (s.heap.push {cls:=.type "dict",data:=.dict #[]}) scope.names}):
  wpAny M A (mY scope globals closure [] qual none .none (some env)) Q E s:=by
 simp only[mY,Option.isSome_some,if_true]
 refine a7 (wpAny_alloc ?_)
 refine a7 (wpAny_layCells _ (fun name kind cells=>by cases hkc:kind==jP<;>simp[hkc]) _ _ _ _ ?_)
 rw[show({s with heap:=s.heap.push {cls:=.type "dict",data:=.dict #[]}}:a9).heap.objs.size=s.heap.objs.size+1 from fZ ..]
 refine a7 ?_
 rw[ni]
 exact b9 (b9 hQ)
end
theorem Wf{X:Cx}{csc:Scope}{cl:List (Str×Addr)}{nc:List Str}{cap:List (Str×Nat)}{pins:List (Addr×Obj)}{σ:St}{H:Hp}{s:a9}{h1:Heap}{fp:List Addr}
  (ok:LcOk X csc nc cap) (I:Inv X pins σ H s) (C:LcCells X csc cl s h1)
  (hf:∀b∈fp,Gh X pins H b) (ho:∀b∈fp,∃o,s.heap.get? b=some o)
  (hn:h1.Ns s.heap.objs.size (fun _=>none)) (kept:∀b o,s.heap.get? b=some o→h1.get? b=some o):
  Inv (TN X csc cl (Ai nc cap) s H fp) [] (II nc σ cap) H {s with heap:=h1}:=by
 have frel:∀x,csc.names.lookup x=some .free→(nZ csc cl s.heap.objs.size X.env).kindOf x=some .cell∨(nZ csc cl s.heap.objs.size X.env).kindOf x=some .free:=fun x h=>Eg h
 have back:∀{names:List (Str×NameKind)} {x:Str},((names.map fun(n,k)=>if(k==NameKind.free&&X.env.scope.kind==.function&&X.env.kindOf n==some .cell) then(n,jP) else(n,k)).lookup x=some .cell∨
   (names.map fun(n,k)=>if(k==NameKind.free&&X.env.scope.kind==.function&&X.env.kindOf n==some .cell) then(n,jP) else(n,k)).lookup x=some .free)→
   names.lookup x=some .free∨names.lookup x=some .cell:=by
  intro names
  induction names with
  |nil=>intro x h;simp at h
  |cons p r ih=>
   obtain⟨n,k⟩:=p
   intro x h
   rw[eT] at h
   cases hx:x==n with
   |true=>
    rw[fJ,hx]
    have e:∀(kk:NameKind) (l:List (Str×NameKind)),((n,kk)::l).lookup x=some kk:=fun kk l=>by rw[fJ,hx]
    by_cases hcnd:(k==NameKind.free&&X.env.scope.kind==.function&&X.env.kindOf n==some .cell)=true
    ·left
     have:(k==NameKind.free)=true:=by
      revert hcnd;cases(k==NameKind.free)<;>simp
     show some k=some .free
     rw[eq_of_beq this]
    ·simp only[if_neg hcnd] at h
     rw[e,] at h
     exact h.symm
   |false=>
    have e:∀(kk:NameKind) (l:List (Str×NameKind)),((n,kk)::l).lookup x=l.lookup x:=fun kk l=>by rw[fJ,hx]
    by_cases hcnd:(k==NameKind.free&&X.env.scope.kind==.function&&X.env.kindOf n==some .cell)=true
    ·simp only[if_pos hcnd] at h
     rw[e] at h
     rw[e]
     exact ih h
    ·simp only[if_neg hcnd] at h
     rw[e] at h
     rw[e]
     exact ih h
 refine⟨⟨I.ok.mod,ok.kind,I.ok.glob,I.ok.blt,dv _,C.inj,fun x hx=>C.has x (back hx),fun x c e1 e2=>?_,I.ok.hd,I.ok.frames,.inl rfl,fun b hb=> ⟨?_,fun x c e=>?_⟩,
  I.bs,fo I.ok.bsz I.sz,fun b o e hb=>?_,fun b hb z=>?_,I.stack,I.stkFree⟩,rfl,I.bare,⟨fun b o e _ _ _=>kept b o e,fun b o e _ _ _=> ⟨o.slots,kept b o e⟩,fun b o e n _=>n,fun b o e _=> ⟨o,kept b o e⟩,fun _ _ e=>e,fun _ _ _ e=>e,fun b ps e=> ⟨#[],by rw[show H b=some (HO.tbl ps) from e];simp⟩⟩,
  ⟨_,hn,fun i x v e1 e2 e3=>?_⟩,fun x c e=>?_,I.hok.fresh (dv _),fun x c e=> (C.at_ x c e).elim (fun z=>I.hok.fresh z.2.1) (fun z=>I.freeC x c z.2),fun p hp=>absurd (show p∈([]:List (Addr×Obj)) from hp) (by simp),I.hok.kept kept,?_⟩
 ·rcases C.at_ x c e2 with z|z
  ·exact z.2.1
  ·exact absurd (Kq e1) z.1
 ·obtain⟨o,e⟩:=ho b hb
  exact fb (eM e)
 ·rcases C.at_ x c e with z|z
  ·obtain⟨o,e⟩:=ho b hb
   exact jI (eX (eM e) z.2.1)
  ·exact(hf b hb).2.2.2.2.1 x c z.2
 ·have h1:=(hf b hb).2.2.2.1
  rcases h1 with z|z
  ·exact I.ok.noex b o e z
  ·exact absurd (eX (eM e) (fo I.ok.bsz z)) (gw _)
 ·have h1:=(hf b hb).2.1
  have h2:=(hf b hb).2.2.1
  exact(eJ.mp (I.stkSub b z)).elim h1 h2
 ·--the names
  have hlen:nc.length≤i:=by
   by_cases hi:i<nc.length
   ·have e2':(eE nc.length (none:Option V)++CV σ cap)[i]?=some (some v):=e2
    rw[fq (by simpa using hi),gG] at e2'
    split at e2'<;>cases e2'
   ·omega
  have e1':(nc++cap.map (·.1))[i]?=some x:=e1
  have e2':(eE nc.length (none:Option V)++CV σ cap)[i]?=some (some v):=e2
  rw[e8 hlen,c9] at e1'
  rw[e8 (by simpa using hlen)] at e2'
  simp only[gr] at e2'
  unfold CV at e2'
  rw[c9] at e2'
  cases hp:cap[i-nc.length]? with
  |none=>rw[hp] at e1';cases e1'
  |some p=>
   rw[hp] at e1' e2'
   have e1'':p.1=x:=gc.inj e1'
   have e2'':(σ[p.2]?).join=some v:=gc.inj e2'
   subst e1''
   obtain⟨c1,c2⟩:=ok.caps p (dw hp)
   have hσ:σ[p.2]?=some (some v):=by
    cases q:σ[p.2]? with
    |none=>rw[q] at e2'';cases e2''
    |some w'=>rw[q] at e2'';exact congrArg some e2''
   have vis:X.env.scope.names.lookup p.1=some .cell∨X.env.scope.names.lookup p.1=some .free:=ok.free _ (Aw c2) rfl
   obtain⟨m,_,hl⟩:=I.loc
   obtain⟨u,r,l⟩:=hl p.2 p.1 v c1 hσ (vis.elim (fun z=> .inr (.inl z)) fun z=> .inr (.inr z))
   refine⟨u,r,.inr ⟨frel p.1 c2,?_⟩⟩
   rcases l with⟨k,_⟩| ⟨_,c,e,z⟩
   ·have k:X.env.scope.names.lookup p.1=some .local:=k
    rcases vis with q|q<;> (rw[q] at k;cases k)
   ·obtain⟨c',e''⟩:=C.has p.1 (.inl c2)
    have q:X.env.cells.lookup p.1=some c':=by
     rcases C.at_ _ _ e'' with z|z
     ·rw[c2] at z;cases z.1
     ·exact z.2
    rw[e] at q;cases q
    obtain⟨o,z1,z2⟩:=z
    exact⟨c,e'',o,kept c o z1,z2⟩
 ·rcases C.at_ x c e with z|z
  ·exact⟨none,z.2.2⟩
  ·obtain⟨v,o,z1,z2⟩:=I.cell x c z.2
   exact⟨v,o,kept c o z1,z2⟩
 ·show(eE nc.length (none:Option V)++CV σ cap).length=(nc++cap.map (·.1)).length
  unfold CV
  simp
section
variable{prog:Program}{w:World}{A:eU}{R:ow→a9→Prop}{s:a9}
abbrev TR:Value→a9→Prop:=fun _ _=>False
theorem DX{elt target iter:Expr}{ifs:List Expr}{scope:Scope}{pos:Pos}{it acc:Value}{env:Env}(I:Nat→a9→Prop)
  (turn:∀n s,I n s→wpAny (model prog w) A (ki it) (fun r s₁=>match r with
   |none=>R (.ok .next) s₁
   |some v=>wpAny (model prog w) A (lh target it v) (fun _ s₂=>wpAny (model prog w) A (assign target env v) (fun _ s₃=>
     wpAny (model prog w) A (forIn ifs true fun c r=>if r=true then do let ok←isTrue c env (eval c env);pure (iM ok) else pure (iM r)) (fun ok s₄=>
      if ok=true then wpAny (model prog w) A (eval elt env) (fun x s₅=>
       wpAny (model prog w) A (call (.builtin "list.append") [acc,x]) (fun _ s₆=>∃m,m<n∧I m s₆) TR s₅) TR s₄
      else∃m,m<n∧I m s₄) TR s₃) TR s₂) TR s₁) TR s)
  (n:Nat) (h:I n s):
  j1 (model prog w) A (.compLoop (.ListComp elt [⟨target,iter,ifs,0⟩] scope pos) 0 it acc env) R s:=by
 refine codeAny_loop rfl I (fun n s hI=>?_) n h
 show wpAny _ A ((compTurn (.ListComp elt [⟨target,iter,ifs,0⟩] scope pos) 0 it acc env).onRaise (fun x=>do noteFrame x env;theTreesLotGoes x)) _ _ s
 refine wpAny_noted (wpAny_noRaise ?_)
 rw[compTurn_list]
 refine a7 (kW (a7 (BB (turn n s hI) fun r s₁ h₁=>?_)))
 cases r with
 |none=>exact b9 h₁
 |some v=>
  refine a7 (BB h₁ fun _ s₂ h₂=>a7 (BB h₂ fun _ s₃ h₃=>a7 (BB h₃ fun ok s₄ h₄=>?_)))
  cases ok with
  |true=>
   rw[if_pos rfl] at h₄ ⊢
   exact a7 (a7 (BB h₄ fun x s₅ h₅=>a7 (BB h₅ fun _ s₆ h₆=>b9 (b9 ⟨rfl,h₆⟩))))
  |false=>
   rw[if_neg eC] at h₄ ⊢
   exact a7 (b9 (b9 ⟨rfl,h₄⟩))
end
def Wg(X:Cx)(ifs:List Expr)(t:TT):Prop:=
 ∀(pins:List (Addr×Obj)) (s:a9) (σ:St) (H:Hp) (Q:Bool→Hp→Prop),Inv X pins σ H s→t σ H Q→
  wpAny (model X.prog X.w) X.A (forIn ifs true fun c r=>if r=true then do let ok←isTrue c X.env (eval c X.env);pure (iM ok) else pure (iM r)) (TP X pins σ Q) X.xe s
def ZF:TT:=fun _ H Q=>Q true H
theorem TU{X:Cx}:Wg X [] ZF:=fun _ _ _ H _ I h=>wpAny_tests_nil ⟨H,I,h⟩
theorem TV{X:Cx}{c:Expr}{t:TT}(h:PT X c t):Wg X [c] t:=fun pins s σ H Q I q=>wpAny_tests_one (h pins s σ H Q I q)
def VF(nc:List Str)(cap:List (Str×Nat))(g:TG)(tt:TT)(te:TE)(σ:St)(J:It)(p:Addr)(H:Hp)(Q:Hp→Prop):Prop:=
 ∃W:Nat→Nat→Hp→Prop,(∃m,W 0 m (upd H p (.lst [])))∧∀i m H2,W i m H2→
  (J.stop i H2∧Q H2)∨(J.go i H2∧∃N:Hp→Prop,(∀H',N H'→∃m',m'<m∧W (i+1) m' H')∧∀x H3,J.yld i H2 x H3→g x (II nc σ cap) H3 fun σ4 H4=> (∃pre:St,pre.length=nc.length∧σ4=pre++CV σ cap)∧tt σ4 H4 fun b H5=>
   if b=true then te σ4 H5 fun y H6=>∃ys,H6 p=some (.lst ys)∧ys.length<sizeLine∧N (upd H6 p (.lst (ys++[y])))
   else N H5)
def ah(wi:TI)(nc:List Str)(cap:List (Str×Nat))(g:TG)(tt:TT)(te:TE):TE:=fun σ H Q=>wi σ H fun J H1=>∀p,H1 p=none→VF nc cap g tt te σ J p H1 (Q (.ref p))
section
variable{X:Cx}{elt tg iter:Expr}{ifs:List Expr}{csc:Scope}{nc:List Str}{cap:List (Str×Nat)}{wi:TI}{g:TG}{tt:TT}{te:TE}{pos:Pos}
theorem Kr{pins:List (Addr×Obj)}{σ:St}{s2:a9}{H2:Hp}{it:Addr}{fp:List Addr}{tn:Nat→Heap→Prop}{J:It}{cl:List (Str×Addr)}{Q:Hp→Prop}{RR:Value→Addr→ow→a9→Prop}{E:Value→a9→Prop}
  (hc:X.calm=true) (ok:LcOk X csc nc cap) (hg:∀X',LcCx X csc (Ai nc cap) X'→PG X' tg g) (ht:∀X',LcCx X csc (Ai nc cap) X'→Wg X' ifs tt) (he:∀X',LcCx X csc (Ai nc cap) X'→PE X' elt te)
  (hc1:∀x c,cl.lookup x=some c→X.env.cells.lookup x=some c) (hc2:∀y∈csc.names,y.2=.free→(cl.lookup y.1).isSome=true)
  (I2:Inv X pins σ H2 s2) (T:Turn X.prog X.w X.K tg J fp it tn) (st2:tn 0 s2.heap) (f2:∀b∈fp,Gh X pins H2 b) (run:VF nc cap g tt te σ J s2.heap.objs.size H2 Q)
  (out:∀(C:Addr) (H':Hp) (s':a9),Inv X pins σ H' s'→(∃m,s'.heap.Ns C m)→H' C=none→C≠X.env.locals→X.s₀.heap.objs.size≤C→(∀x c,X.env.cells.lookup x=some c→c≠C)→(∀p∈X.pn++pins,p.1≠C)→Q H'→RR (.ref s2.heap.objs.size) C (.ok .next) s'):
  wpAny (model X.prog X.w) X.A (newList []) (fun acc s₃=>wpAny (model X.prog X.w) X.A (mY csc X.env.globals cl [] X.env.qual none .none (some X.env)) (fun cenv s₄=>
   j1 (model X.prog X.w) X.A (.compStart (.ListComp elt [⟨tg,iter,ifs,0⟩] csc pos) 0 (.ref it) acc {cenv with scope:=relabel csc X.env}) (RR acc cenv.locals) s₄) E s₃) E s2:=by
 refine fV ?_
 have hp:H2 s2.heap.objs.size=none:=I2.hok.fresh (dv _)
 have I3:Inv X pins σ (upd H2 s2.heap.objs.size (.lst [])) {s2 with heap:=s2.heap.push {cls:=.type "list",dict:=none,data:=.seq ([]:List Value).toArray}}:=
  I2.laid (t':=s2.toks) (fun b u e=>dm _ e) (dv _) ⟨fB _,[],0,.nil,eS _ rfl⟩
 generalize hs3:({s2 with heap:=s2.heap.push {cls:=.type "list",dict:=none,data:=.seq ([]:List Value).toArray}}:a9)=s3 at I3
 have hk3:∀b o,s2.heap.get? b=some o→s3.heap.get? b=some o:=fun b o e=>by rw[←hs3];exact dm _ e
 generalize hp0:s2.heap.objs.size=p at*
 have hlt:∀b∈fp,b<p:=fun b hb=>by
  obtain⟨o,e,_⟩:=T.obj 0 _ st2 b hb
  rw[←hp0];exact eM e
 have f3:∀b∈fp,Gh X pins (upd H2 p (.lst [])) b:=fun b hb=> ⟨by rw[AX (fb (hlt b hb))];exact(f2 b hb).1,(f2 b hb).2⟩
 have st3:tn 0 s3.heap:=T.keep 0 _ _ st2 fun b _ o e=>hk3 b o e
 refine QL ?_
 have LC:=TQ (o:={cls:=.type "dict",data:=.dict #[]}) ok I3 hc1 hc2
 have hns:(nB (s3.heap.push {cls:=.type "dict",data:=.dict #[]}) csc.names).Ns s3.heap.objs.size (fun _=>none):=(Heap.Ns.new s3.heap (.type "dict")).keeps (pushCells_keeps _ _)
 have kept4:∀b o,s3.heap.get? b=some o→(nB (s3.heap.push {cls:=.type "dict",data:=.dict #[]}) csc.names).get? b=some o:=fun b o e=>pushCells_keeps _ _ b o (dm _ e)
 generalize hcs:iz (s3.heap.objs.size+1) csc.names cl=cs at LC ⊢
 generalize hh1:nB (s3.heap.push {cls:=.type "dict",data:=.dict #[]}) csc.names=h₁ at LC hns kept4 ⊢
 have hcc:∀x c,cs.lookup x=some c→X.env.cells.lookup x=some c∨s3.heap.objs.size≤c:=fun x c e=> (LC.at_ x c e).elim (fun z=> .inr z.2.1) (fun z=> .inl z.2)
 have I4:Inv (TN X csc cs (Ai nc cap) s3 (upd H2 p (.lst [])) fp) [] (II nc σ cap) (upd H2 p (.lst [])) {s3 with heap:=h₁}:=
  Wf ok I3 LC f3 (fun b hb=> (T.obj 0 _ st3 b hb).imp fun o q=>q.1) hns kept4
 have st4:tn 0 h₁:=T.keep 0 _ _ st3 fun b _ o e=>kept4 b o e
 generalize hX':TN X csc cs (Ai nc cap) s3 (upd H2 p (.lst [])) fp=X' at I4
 have is':LcCx X csc (Ai nc cap) X':=⟨_,_,_,_,hX'.symm⟩
 have hP:X'.prog=X.prog:=by rw[←hX'];rfl
 have hw:X'.w=X.w:=by rw[←hX'];rfl
 have hK:X'.K=X.K:=by rw[←hX'];rfl
 have hA:X'.A=X.A:=by rw[←hX'];rfl
 have hcal:X'.calm=true:=by rw[←hX'];exact hc
 have hE:X'.env=nZ csc cs s3.heap.objs.size X.env:=by rw[←hX'];rfl
 have hxe:X'.xe=TR:=by rw[←hX'];rfl
 have hfs:X'.fs=IG X.stack:=by rw[←hX'];rfl
 have hex:X'.ex=fp:=by rw[←hX'];rfl
 have hs0:X'.s₀=s3:=by rw[←hX'];rfl
 have hH0:X'.H₀=upd H2 p (.lst []):=by rw[←hX'];rfl
 have hpn:X'.pn=[]:=by rw[←hX'];rfl
 have stat:∀{H':Hp},(∀b∈fp,H' b=none)→∀b∈fp,Gh X' [] H' b:=fun{H'} hn b hb=>by
  obtain⟨_,q2,q3,q4,q5,q6⟩:=f3 b hb
  obtain⟨o,e,_⟩:=T.obj 0 _ st3 b hb
  refine⟨hn b hb,?_,?_,?_,?_,?_⟩
  ·rw[hE];exact fb (eM e)
  ·rw[hfs];exact fun z=> (eJ.mp (I3.stkSub b z)).elim q2 q3
  ·rw[hex];exact .inl hb
  ·rw[hE];exact fun x c e'=> (hcc x c e').elim (fun z=>q5 x c z) fun z=>jI (eX (eM e) z)
  ·rw[hpn];intro p hp;simp at hp
 obtain⟨W,⟨m0,w0⟩,turn⟩:=run
 have loop:∀s4:a9,s4={s3 with heap:=h₁}→j1 (model X.prog X.w) X.A (.compLoop (.ListComp elt [⟨tg,iter,ifs,0⟩] csc pos) 0 (.ref it) (.ref p) (nZ csc cs s3.heap.objs.size X.env)) (RR (.ref p) s3.heap.objs.size) s4:=by
  rintro s4 rfl
  refine DX (fun n s'=>∃i H',Inv X' [] (II nc σ cap) H' s'∧tn i s'.heap∧(∀b∈fp,H' b=none)∧W i n H') ?_ m0 ⟨0,_,I4,st4,fun b hb=> (f3 b hb).1,w0⟩
  rintro n s5 ⟨i,H5,I5,st5,fr5,w5⟩
  rcases turn i n H5 w5 with⟨stop,qn⟩| ⟨go,N,hN,step⟩
  ·have q:=T.done X' hP hw hK hcal i [] s5 (II nc σ cap) H5 TR I5 (stat fr5) st5 stop
   rw[hA] at q
   refine BB q fun r s6 ⟨hr,I6⟩=>?_
   subst hr
   have B:=I6.base
   rw[hfs,hex,hs0,hH0] at B
   have I7:Inv X pins σ H5 s6:=by
    refine I3.call' (ch:=fp) (by rw[I6.os,hs0]) B (by have:=I6.hok;rw[hP,hw] at this;exact this) I6.bare fun b hb=>?_
    obtain⟨_,q2,q3,q4,q5,q6⟩:=f3 b hb
    exact⟨q4,q2,q5,q6⟩
   obtain⟨m,hm,_⟩:=I6.loc
   have hCf:=I6.free
   rw[hE] at hm hCf
   refine out _ H5 s6 I7 ⟨m,hm⟩ hCf (jI I3.lt) I3.sz (fun x c e z=>?_) (fun p hp z=>?_) qn
   ·obtain⟨v,hv⟩:=I3.cell x c e
    exact absurd hv.lt (by rw[z];exact gw _)
   ·exact absurd (eM (I3.pin p hp).1) (by rw[z];exact gw _)
  ·have q:=T.item X' hP hw hK hcal i [] s5 (II nc σ cap) H5 TR I5 (stat fr5) st5 go
   rw[hA] at q
   refine BB q fun r s6 ⟨u,hr,h6⟩=>?_
   subst hr
   refine BB h6 fun _ s7 ⟨x,H7,I7,r7,y7,st7,fr7⟩=>?_
   have I7':=I7.pinned (stat fr7) (T.obj _ _ st7)
   have q8:=hg X' is' _ s7 _ H7 x u _ I7' r7 (step x H7 y7)
   rw[hP,hw,hA,hE,hxe] at q8
   refine BB q8 fun _ s8 ⟨σ8,H8,I8,⟨pre,hpl,hσ8⟩,q8⟩=>?_
   have q9:=ht X' is' _ s8 σ8 H8 _ I8 q8
   rw[hP,hw,hA,hE,hxe] at q9
   have wk:∀{s':a9} {H':Hp} {pl:List (Addr×Obj)},Inv X' pl σ8 H' s'→Inv X' pl (II nc σ cap) H' s':=fun{s' H' pl} J'=>by
    refine J'.weak (by rw[J'.len,I4.len]) fun j v e=>?_
    rw[hσ8]
    by_cases hj:j<nc.length
    ·have e:(eE nc.length (none:Option V)++CV σ cap)[j]?=some (some v):=e
     rw[fq (by simpa using hj),gG] at e
     split at e<;>cases e
    ·have e:(eE nc.length (none:Option V)++CV σ cap)[j]?=some (some v):=e
     rw[e8 (by simpa using hj)] at e
     rw[e8 (by omega),hpl]
     simpa using e
   have again:∀{s':a9} {H':Hp} {m':Nat},Inv X' ([]++Gi fp s7.heap) σ8 H' s'→m'<n→W (i+1) m' H'→
     ∃m,m<n∧∃i H',Inv X' [] (II nc σ cap) H' s'∧tn i s'.heap∧(∀b∈fp,H' b=none)∧W i m H':=fun{s' H' m'} J' hm hW=>by
    refine⟨m',hm,i+1,H',wk J'.unpinned,T.keep _ _ _ st7 fun b hb o e=> (J'.pin (b,o) (fP _ (fP _ (DC hb e)))).1,fun b hb=>?_,hW⟩
    obtain⟨o,e,d⟩:=T.obj _ _ st7 b hb
    exact(J'.pin (b,o) (fP _ (fP _ (DC hb e)))).2.1
   refine BB q9 fun b s9 ⟨H9,I9,q9⟩=>?_
   cases b with
   |false=>
    rw[if_neg eC] at q9 ⊢
    obtain⟨m',hm,hW⟩:=hN _ q9
    exact again I9 hm hW
   |true=>
    rw[if_pos rfl] at q9 ⊢
    have qe:=he X' is' _ s9 σ8 H9 _ I9 q9
    rw[hP,hw,hA,hE,hxe] at qe
    refine BB qe fun u s10 ⟨y,H10,I10,ry,ys,hys,hlen,hNn⟩=>?_
    obtain⟨m',hm,hW⟩:=hN _ hNn
    have qa:=Ib (X:=X') _ s10 σ8 H10 (.ref p) [y] (.ref p) [u] (fun _ H'=>H'=upd H10 p (.lst (ys++[y]))) I10 rfl (.cons ry .nil) ⟨p,ys,y,rfl,rfl,hys,hlen,rfl⟩
    rw[hP,hw,hA,hxe] at qa
    refine BB qa fun _ s11 ⟨_,H11,I11,_,e11⟩=>?_
    subst e11
    exact again I11 hm hW
 have st5:=loop _ rfl
 exact codeAny_compStart_list (loop _ rfl) (T.self X.A 0 _ _ _ st4 (loop _ rfl))
end
section
variable{X:Cx}{elt tg iter:Expr}{ifs:List Expr}{csc:Scope}{nc:List Str}{cap:List (Str×Nat)}{wi:TI}{g:TG}{tt:TT}{te:TE}{pos:Pos}
theorem LcOk.clos{pins:List (Addr×Obj)}{σ:St}{H:Hp}{s:a9}(ok:LcOk X csc nc cap)(I:Inv X pins σ H s):
  ∃cl,closureFor csc X.env=pure cl∧(∀x c,cl.lookup x=some c→X.env.cells.lookup x=some c)∧∀y∈csc.names,y.2=.free→(cl.lookup y.1).isSome=true:=
 TM fun y hy hf=>I.ok.has y.1 (ok.free y hy hf)
theorem ZG(hc:X.calm=true)(ok:LcOk X csc nc cap)(hi:PI X tg iter wi)(hg:∀X',LcCx X csc (Ai nc cap) X'→PG X' tg g)(ht:∀X',LcCx X csc (Ai nc cap) X'→Wg X' ifs tt)(he:∀X',LcCx X csc (Ai nc cap) X'→PE X' elt te)
  (hs:∀x,gY iter X.env x=pure x:=by intro _;rfl):PE X (.ListComp elt [⟨tg,iter,ifs,0⟩] csc pos) (ah wi nc cap g tt te):=by
 intro pins s σ H Q I h
 obtain⟨cl,hcl,hc1,hc2⟩:=ok.clos I
 rw[eval_ListComp]
 refine wpAny_comprehension_free (use:=none) rfl hs hcl ok.kind ok.locals (BB (hi pins s σ H _ I h) fun v s1 h1=>BB h1 fun itv s2 h2=>?_)
 obtain⟨it,fp,tn,J,H2,e,I2,T,st2,f2,run⟩:=h2
 subst e
 refine Kr (RR:=fun acc C=>compPost (model X.prog X.w) X.A X.xe none (EP X pins σ Q) acc C) hc ok hg ht he hc1 hc2 I2 T st2 f2 (run _ (I2.hok.fresh (dv _))) ?_
 intro C H' s' I' hn h1 h2 h3 h4 h5 q
 obtain⟨m,hn⟩:=hn
 refine⟨m,hn,fun h' sb=> ⟨.ref s2.heap.objs.size,H',?_,rfl,q⟩⟩
 exact I'.turned (t':=s'.toks) (fun b o hb e=> (sb.2 b hb).trans e) h1 h2 (.inr h3) h4 h5
def Wh(i:Nat)(te:TE):TS:=fun D σ H=>te σ H fun v H1=>D.nx (σ.set i (some v)) H1
theorem Ks{i:Nat}{x:Str}{px spos:Pos}(hN:X.N.Nodup)(hx:X.N[i]?=some x)(hk:X.env.scope.names.lookup x=some .local)(hsw:kQ (.ListComp elt [⟨tg,iter,ifs,0⟩] csc pos) (some (.Name x px)) spos.line X.env=pure true)
  (hc:X.calm=true) (ok:LcOk X csc nc cap) (hi:PI X tg iter wi) (hg:∀X',LcCx X csc (Ai nc cap) X'→PG X' tg g) (ht:∀X',LcCx X csc (Ai nc cap) X'→Wg X' ifs tt) (he:∀X',LcCx X csc (Ai nc cap) X'→PE X' elt te)
  (hs:∀x,gY iter X.env x=pure x:=by intro _;rfl):PS X (.Assign [.Name x px] (.ListComp elt [⟨tg,iter,ifs,0⟩] csc pos) spos) (Wh i (ah wi nc cap g tt te)):=by
 intro pins s σ H D I h
 obtain⟨cl,hcl,hc1,hc2⟩:=ok.clos I
 rw[exec_Assign_Name_used _ _ _ _ hsw]
 refine a7 (kW (a7 ?_))
 show wpAny _ X.A (do let _←comprehension (.ListComp elt [⟨tg,iter,ifs,0⟩] csc pos) csc X.env _ (newList []) false (eval iter X.env) (some (assign (.Name x px) X.env))) _ _ s
 refine a7 (BB (wpAny_comprehension_free (use:=some (assign (.Name x px) X.env)) (Q:=fun _ s'=>SP X pins D .next s') rfl hs hcl ok.kind ok.locals
  (BB (hi pins s σ H _ I h) fun v s1 h1=>BB h1 fun itv s2 h2=>?_)) fun _ s' hq=>b9 (b9 hq))
 obtain⟨it,fp,tn,J,H2,e,I2,T,st2,f2,run⟩:=h2
 subst e
 refine Kr (RR:=fun acc C=>compPost (model X.prog X.w) X.A X.xe (some (assign (.Name x px) X.env)) (fun _ s'=>SP X pins D .next s') acc C) hc ok hg ht he hc1 hc2 I2 T st2 f2 (run _ (I2.hok.fresh (dv _))) ?_
 intro C H' s' I' hn h1 h2 h3 h4 h5 q
 obtain⟨m,hn⟩:=hn
 show wpAny _ X.A (assign (.Name x px) X.env (.ref s2.heap.objs.size)) _ _ _
 refine wpAny_assign_Name (IV I' hN hx (.inl hk) (v:=.ref s2.heap.objs.size) rfl (fun s'' I'' ha=>?_) (.inr hk))
 obtain⟨a,sb,ha⟩:=ha
 have hCa:C≠a:=by
  rcases ha with ha|ha
  ·rw[ha];exact h2
  ·exact fun z=>h4 x a ha z.symm
 refine⟨m,hn.sameBut sb hCa,fun h' sb'=> ⟨_,H',?_,q⟩⟩
 exact I''.turned (t':=s''.toks) (fun b o hb e=> (sb'.2 b hb).trans e) h1 h2 (.inr h3) h4 h5
end
section
variable{K:a8}{nc:List Str}{cap:List (Str×Nat)}{g:TG}{tt:TT}{te:TE}{σ:St}{p a:Addr}{H:Hp}{Q:Hp→Prop}
end
def DK(h h':Heap):Prop:=h.objs.size≤h'.objs.size∧∀e,e<h.objs.size→(h'.objs[e]?).map (·.dict)=(h.objs[e]?).map (·.dict)
theorem DK.refl(h:Heap):DK h h:=⟨dv _,fun _ _=>rfl⟩
theorem DK.trans{a b c:Heap}(x:DK a b)(y:DK b c):DK a c:=⟨fo x.1 y.1,fun e he=> (y.2 e (eX he x.1)).trans (x.2 e he)⟩
theorem DK.push{h:Heap}{o:Obj}:DK h (h.push o):=by
 refine⟨by rw[fZ];omega,fun e he=>?_⟩
 show((h.objs.push o)[e]?).map _=_
 rw[Array.getElem?_push,if_neg (by omega)]
theorem DK.upd{h:Heap}{a:Addr}{f:Obj→Obj}(hf:∀o,(f o).dict=o.dict):DK h (h.update a f):=by
 obtain⟨objs,l⟩:=h
 refine⟨by show objs.size≤(objs.modify a f).size;simp,fun e he=>?_⟩
 show((objs.modify a f)[e]?).map _=_
 rw[Array.getElem?_modify]
 split
 ·cases objs[e]? with
  |none=>rfl
  |some o=>exact congrArg some (hf o)
 ·rfl
theorem NR{h:Heap}{e:Addr}{o:Obj}(q:h.get? e=some o):h.objs[e]?=some o:=by
 unfold Heap.get? at q
 split at q
 ·cases q
 ·exact q
theorem DK.at_{h h':Heap}{e:Addr}{o o':Obj}(x:DK h h')(q:h.get? e=some o)(q':h'.get? e=some o'):o'.dict=o.dict:=by
 have z:=x.2 e (eM q)
 rw[NR q,NR q'] at z
 exact gc.inj z
inductive KD{α:Type}:Sem α→Prop
 |pure (a:α):KD (.pure a)
 |raise (e:Value):KD (.raise e)
 |unsup (x:String):KD (.unsupported x)
 |load {a:Addr} {p:Option Value} {k:Obj→Sem α}:(∀o,KD (k o))→KD (.load a p k)
 |upd {a:Addr} {p:Option Value} {f:Obj→Obj} {k:Unit→Sem α}:(∀o,(f o).dict=o.dict)→KD (k ())→KD (.update a p f k)
 |alloc {o:Obj} {k:Addr→Sem α}:(∀a,KD (k a))→KD (.alloc o k)
 |stack {k:List (Code×Pos)→Sem α}:(∀l,KD (k l))→KD (.stack k)
theorem KD.bind{α β:Type}{m:Sem α}{f:α→Sem β}(h:KD m)(hf:∀a,KD (f a)):KD (m>>=f):=by
 show KD (Sem.bind m f)
 induction h with
 |pure a=>exact hf a
 |raise e=>exact .raise e
 |unsup x=>exact .unsup x
 |load _ ih=>exact .load ih
 |upd q _ ih=>exact .upd q ih
 |alloc _ ih=>exact .alloc ih
 |stack _ ih=>exact .stack ih
theorem KD.wp{α:Type}{M:Model}{Γ:PySem.Ctx}{Q:α→Pos→a9→Prop}{E:Value→Pos→a9→Prop}{h0:Heap}{t:Sem α}(h:KD t):∀{p:Pos} {s:a9},DK h0 s.heap→Sem.wp M Γ t Q E p s→Sem.wp M Γ t (fun a p' s'=>Q a p' s'∧DK h0 s'.heap) E p s:=by
 induction h with
 |pure a=>intro p s d q;exact⟨q,d⟩
 |raise e=>intro p s d q;exact q
 |unsup x=>intro p s d q;exact q
 |load _ ih=>intro p s d q;obtain⟨o,e,q⟩:=q;exact⟨o,e,ih o d q⟩
 |upd hf _ ih=>intro p s d q;exact⟨q.1,ih (d.trans (.upd hf)) q.2⟩
 |alloc _ ih=>intro p s d q;exact ih _ (d.trans .push) q
 |stack _ ih=>intro p s d q;exact ih _ d q
theorem KD.any{α:Type}{M:Model}{A:eU}{Q:α→a9→Prop}{E:Value→a9→Prop}{s:a9}{t:Sem α}(h:KD t)(q:wpAny M A t Q E s):wpAny M A t (fun a s'=>Q a s'∧DK s.heap s'.heap) E s:=
 fun Γ p g=>h.wp (.refl _) (q Γ p g)
theorem KD.ite{α:Type}{c:Prop} [Decidable c]{a b:Sem α}(ha:KD a)(hb:KD b):KD (if c then a else b):=by split<;>assumption
theorem Kt(v:Value):KD (fieldsOf v):=by
 unfold fieldsOf
 split
 ·refine KD.bind (.load fun o=> .pure o) fun o=>?_
  split
  ·exact .pure _
  ·exact .unsup _
 ·exact .unsup _
theorem Eh(v:Value)(i:Nat):KD (field v i):=by
 unfold field
 refine(Kt v).bind fun vs=>?_
 split
 ·exact .pure _
 ·exact .unsup _
theorem Gw(f:Array Value→Array Value)(o:Obj):(Obj.mapFields f o).dict=o.dict:=by
 unfold Obj.mapFields;split<;>rfl
theorem DY(v:Value)(i:Nat)(x:Value):KD (setField v i x):=by
 unfold setField
 split
 ·unfold updateField
  refine KD.bind (.load fun o=> .pure o) fun o=>?_
  split
  ·exact .ite (.upd (Gw _) (.pure _)) (.unsup _)
  ·exact .unsup _
 ·exact .unsup _
theorem JY(e:Value)(f:Option Addr):KD (setFlight e f):=by
 unfold setFlight
 exact(Eh e 1).bind fun tb=> .ite (DY _ _ _) (.pure _)
theorem Ku:∀(l:List Env),KD (readyFrames l)
 | []=> .pure _
 |env::outer=>by
  unfold readyFrames
  split
  ·refine KD.bind (.load fun o=> .pure o) fun o=>?_
   refine .ite (.pure _) ?_
   refine KD.bind ?_ fun im=>?_
   ·unfold behindIsImport
    exact .ite (.pure _) (.ite (.pure _) ((Eh _ _).bind fun _=> .pure _))
   refine KD.bind ?_ fun bk=>?_
   ·unfold keptBack
    split
    ·refine .ite (.pure _) (KD.bind ?_ fun _=> .pure _)
     unfold underTheClaimsCaller
     exact KD.bind (.stack fun _=> .pure _) fun _=> .pure _
    ·exact .pure _
   exact KD.bind (.upd (fun _=>rfl) (.pure _)) fun _=>Ku outer
  ·exact .unsup _
theorem MO(env:Env):KD (nL env):=by
 unfold nL
 refine KD.bind ?_ fun es=>?_
 ·unfold frameEnvs
  exact KD.bind (.stack fun _=> .pure _) fun _=> .pure _
 refine KD.bind ?_ fun r=>?_
 ·cases es.dropWhile (·.frame !=env.frame) with
  |nil=>exact .pure _
  |cons a b=>unfold frameObject;exact(Ku _).bind fun _=> .pure _
 split
 ·exact .pure _
 ·exact .unsup _
theorem QM(f:Addr)(b:Bool):KD (nX f b):=by
 unfold nX
 refine KD.bind (.stack fun _=> .pure _) fun _=>?_
 split<;>exact .pure _
theorem QN(h a l f i:Value)(pl:List Value):KD (lB h a l f i pl):=by
 have z:∀d,KD (newObjAsIs (.type "traceback") d):=fun d=> .alloc fun a=> .pure _
 unfold lB newFields newObj
 dsimp only
 exact .ite (KD.bind (.unsup _) fun _=>z _) (z _)
theorem TX(e:Value)(env:Env):KD (noteFrame e env):=by
 unfold noteFrame
 split
 ·rename_i f hf
  refine(Eh e 1).bind fun head=>?_
  have fin:KD (do setField e 1 (←lB head (←nL env) .none (kA f) .none (←nX f (head !=.none)))):=
   (MO env).bind fun a=> (QM _ _).bind fun pl=> (QN _ _ _ _ _ _).bind fun b=>DY _ _ _
  refine .ite ?_ fin
  exact(Eh _ _).bind fun x=> .ite (.pure _) ((DY _ _ _).bind fun _=>fin)
 ·exact .unsup _
theorem Gx(env:Env)(e:Value):KD (leaving env e):=(TX e env).bind fun _=>JY e none
theorem ObjOk.obj{P:Program}{w:World}{H:Hp}{h:Heap}{a:Addr}{o:HO}(x:ObjOk P w H h a o):∃ob,h.get? a=some ob:=by
 cases o with
 |lst xs=>obtain⟨_,_,_,_,e⟩:=x;exact⟨_,e⟩
 |tup xs=>obtain⟨_,_,_,o,e,_⟩:=x;exact⟨_,e⟩
 |dK kvs=>obtain⟨_,_,_,_,o,_,_,e,_⟩:=x;exact⟨_,e⟩
 |dT kvs=>obtain⟨_,_,_,_,o,_,_,e,_⟩:=x;exact⟨_,e⟩
 |set S n=>obtain⟨o,_,_,_,e,_⟩:=x;exact⟨_,e⟩
 |ins C dx fs=>obtain⟨_,_,_,e,_⟩:=x;exact⟨_,e⟩
 |own y=>obtain⟨_,e⟩:=x;exact⟨_,e⟩
 |xd fs=>obtain⟨_,⟨_,_,_,e,_⟩,_⟩:=x;exact⟨_,e⟩
 |rng lo hi=>obtain⟨_,_,_,e⟩:=x;exact⟨_,e⟩
 |frz ob u=>obtain⟨e,_⟩:=x;exact⟨_,e⟩
 |tbl ps=>exact⟨_,(show h.get? a=some _ from x)⟩
 |met f y=>exact⟨_,(show h.get? a=some _ from x)⟩
 |ext φ=>obtain⟨_,⟨_,e⟩,_⟩:=x;exact⟨_,e⟩
theorem HOk.none_of{P:Program}{w:World}{H:Hp}{h:Heap}{a:Addr}(x:HOk P w H h)(e:h.get? a=none):H a=none:=by
 cases q:H a with
 |none=>rfl
 |some u=>
  obtain⟨ob,e'⟩:=(x a u q).obj
  rw[e] at e';cases e'
def ai(n:Nat):Int:=if n%2=0 then((n/2:Nat):Int) else-((n/2:Nat):Int)
def cj:List Nat→List (Str×V)
 |0::n::_=> [("number",.int (ai n))]
 |1::n::_=> [("row",.int (ai n))]
 |2::n::m::_=> [("many",.int (ai n)),("most",.int (ai m))]
 |_=> []
def cN(x:Str):List (Str×V):=cj x.cps.toList
def QO:Value→Value
 | .str _ C=> .ref C
 |v=>v
def bV(dx:Addr)(fs:List (Str×V))(h:Heap):Prop:=∃mA,h.Ns1 dx mA∧(∀f,Sm (fs.lookup f) (mA f))∧n8 mA (fs.map (·.1))
def cO(dx:Addr)(fs:List (Str×V)):HO:=.ext (bV dx fs)
def DicX(cls:Value)(x:Addr)(H:Hp)(h:Heap):Prop:=∀fs C,cls=.str fs C→∃ox dx,h.get? x=some ox∧ox.dict=some dx∧H dx=some (cO dx (cN fs))
theorem DicX.ref{C x:Addr}{H:Hp}{h:Heap}:DicX (.ref C) x H h:=fun _ _ e=>nomatch e
theorem DicX.dk{cls:Value}{x:Addr}{H:Hp}{h h':Heap}(q:DicX cls x H h)(d:DK h h')(e:∃o',h'.get? x=some o'):DicX cls x H h':=fun fs C z=>by
 obtain⟨ox,dx,e1,e2,e3⟩:=q fs C z
 obtain⟨o',e'⟩:=e
 exact⟨o',dx,e',(d.at_ e1 e').trans e2,e3⟩
structure Fly(P:Program)(w:World)(outer:List Env)(H:Hp)(s:a9)(H':Hp)(x:Addr)(cls:Value)(s':a9):Prop where
 os:s'.os=s.os
 bare:lG s'.gens
 un:Un (IG outer) [] H H' s.heap s'.heap
 hok:HOk P w H' s'.heap
 fr:H' x=none
 fly:∃B t,(∀b,H' b≠none→∃o,B.get? b=some o)∧(∀b o,s.heap.get? b=some o→b∉IG outer→∃o',B.get? b=some o')∧oj B outer x (QO cls) (.ref t) s'.heap
 dic:DicX cls x H' s'.heap
def CXe(P:Program)(w:World):Sj:=fun outer H s E e s'=>∃x cls H',e=.ref x∧Fly P w outer H s H' x cls s'∧E cls none H'
theorem CXe.never{P:Program}{w:World}{outer:List Env}{H:Hp}{s s':a9}{e:Value}(h:CXe P w outer H s E0 e s'):False:=by
 obtain⟨_,_,_,_,_,q⟩:=h
 exact q
structure XFly(X:Cx)(W:St→XK):Prop where
 fly:∀(pins:List (Addr×Obj)) (σ:St) (H:Hp) (s:a9) (e:Value) (s':a9),Inv X pins σ H s→CXe X.prog X.w X.stack H s (W σ) e s'→X.xe e s'
structure XOk(X:Cx)(W:St→XK):Prop where
 made:∀(pins:List (Addr×Obj)) (σ:St) (H:Hp) (s:a9) (h':Heap) (x C:Addr),Inv X pins σ H s→Heap.MadeExcOf s.heap h' x (.ref C) []→W σ (.ref C) none H→X.xe (.ref x) {s with heap:=h'}
 fly:∀(pins:List (Addr×Obj)) (σ:St) (H:Hp) (s:a9) (e:Value) (s':a9),Inv X pins σ H s→CXe X.prog X.w X.stack H s (W σ) e s'→X.xe e s'
 own:lI (model X.prog X.w) X.A X.env X.xe
 madeF:∀(pins:List (Addr×Obj)) (σ:St) (H:Hp) (s:a9) (x C t dx:Addr) (fs:Str),Inv X pins σ H s→H x=none→X.s₀.heap.get? x=none→s.heap.get? x=some ⟨.ref C,some dx,.fields #[.ref t,.none,.none,.none,.bool false,.none],#[]⟩→H dx=some (cO dx (cN fs))→W σ (.str fs C) none H→X.xe (.ref x) s
theorem HOk.by_keep{P:Program}{w:World}{H:Hp}{h h':Heap}(x:HOk P w H h)(k:∀b o,H b≠none→h.get? b=some o→h'.get? b=some o):HOk P w H h':=fun a o e=>
 (x a o e).stay (fun b u hb q=>k b u (by
  rcases hb with rfl|hb
  ·rw[e];exact fun z=>nomatch z
  ·rw[hb];exact fun z=>nomatch z) q) (fun _ q=>q) fun _ _ q=>q
section
variable{P:Program}{w:World}{K:a8}{mg:Str→Option Value}{base:Heap}{N:List Str}{qual:Str}{scope:Scope}{f:Addr}{cd:Value}{A:eU}{outer:List Env}{s:a9}{H:Hp}{E:XK}
theorem JZ{X:Cx}{pins:List (Addr×Obj)}{σ:St}{H1:Hp}{s2:a9}{h':Heap}{x:Addr}{cls:Value}{B:Heap}{t:Addr}(hst:X.stack=X.env::X.outer)(hex:X.ex=[])(hfr:X.env.frame=some X.env.locals)(I:Inv X pins σ H1 s2)
  (hB1:∀b,H1 b≠none→∃o,B.get? b=some o) (hB2:∀b o,X.s₀.heap.get? b=some o→b∉IG X.outer→∃o',B.get? b=some o') (hx:H1 x=none) (hs2:B.StaysIn s2.heap) (fl:oj B X.outer x (QO cls) (.ref t) h') (up:s2.heap.UpToSlots h') (dq:DicX cls x H1 h'):
  Fly X.prog X.w X.outer X.H₀ X.s₀ H1 x cls {s2 with heap:=h'}:=by
 have fsm:∀b o,b∈X.fs→s2.heap.get? b=some o→∃sl,h'.get? b=some {o with slots:=sl}:=fun b o hb e=>by
  obtain⟨_,o',e',hd⟩:=I.funs.mem hb
  rw[e] at e';cases e'
  exact up b o e hd
 have same:∀b o o',B.get? b=some o'→s2.heap.get? b=some o→h'.get? b=some o:=fun b o o' e1 e2=>by
  have q:=hs2 b o' e1
  rw[e2] at q;cases q
  exact fl.1 b o e1
 refine⟨I.os,I.bare,⟨fun b o e n hb _=>?_,fun b o e n hb _=>?_,fun b o e n _=>?_,fun b o e _=>?_,I.base.tups,I.base.frzs,I.base.tbls⟩,I.hok.by_keep fun b o hb e=>?_,hx,⟨B,t,hB1,hB2,fl⟩,dq⟩
 ·obtain⟨o',e'⟩:=hB2 b o e hb
  exact same b o o' e' (I.base.keep b o e n hb (by rw[hex];simp))
 ·obtain⟨sl,e1⟩:=I.base.slot b o e n hb (by rw[hex];simp)
  obtain⟨sl',e2⟩:=fsm b _ hb e1
  exact⟨sl',e2⟩
 ·exact I.base.free b o e n (by rw[hex];simp)
 ·obtain⟨o1,e1⟩:=I.base.there b o e (by rw[hex];simp)
  by_cases hb:b∈X.fs
  ·obtain⟨sl,e2⟩:=fsm b o1 hb e1
   exact⟨_,e2⟩
  ·obtain⟨o',e'⟩:=hB2 b o e hb
   exact⟨o',fl.1 b o' e'⟩
 ·obtain⟨o',e'⟩:=hB1 b hb
  exact same b o o' e' e
theorem Ab:XOk (Cg (CXe P w) P w K mg base N qual scope f cd A outer s H E) (fun _=>E) where
 made:=by
  intro pins σ H1 s1 h' x C I hx q
  have hin:∀env∈(Cg (CXe P w) P w K mg base N qual scope f cd A outer s H E).stack,∀b,env.frame=some b→b∈IG (Cg (CXe P w) P w K mg base N qual scope f cd A outer s H E).stack:=fun env he b hb=>iU.mpr ⟨env,he,hb⟩
  have hxn:H1 x=none:=I.hok.none_of hx.new
  have I':Inv (Cg (CXe P w) P w K mg base N qual scope f cd A outer s H E) pins σ H1 {s1 with heap:=h'}:=I.kept (t':=s1.toks) hx.keeps
  refine wpAny_leaves_madeW (base:=kg s1.heap (IG (Cg (CXe P w) P w K mg base N qual scope f cd A outer s H E).stack)) (h:=s1.heap) I.ok.frames rfl (fun b o q=>kj _ q) (PySem.W.funFrames_hide I.stack hin) hx fun h2 t x1 x2 x3 x4=>?_
  refine⟨x,.ref C,H1,rfl,?_,q⟩
  refine JZ (X:=Cg (CXe P w) P w K mg base N qual scope f cd A outer s H E) rfl rfl rfl I' (fun b hb=>?_) (fun b o e hb=>?_) hxn (fun b o e=>hx.keeps b o (kj _ e)) x1 x4 .ref
  ·cases e:H1 b with
   |none=>exact absurd e hb
   |some u=>
    obtain⟨o,eo⟩:=(I.hok b u e).obj
    exact⟨o,jy _ eo fun z=>hb (I.stkFree b z)⟩
  ·obtain⟨o1,e1⟩:=I.base.there b o e (fun z=>nomatch z)
   refine⟨o1,jy _ e1 fun z=>?_⟩
   rcases eJ.mp (I.stkSub b z) with z|z
   ·exact absurd z (fb (eX (eM e) I.ok.above))
   ·exact hb z
 fly:=by
  rintro pins σ H1 s1 e s2 I ⟨x,cls,H2,rfl,F,q⟩
  obtain⟨B,t,b1,b2,fl⟩:=F.fly
  have I2:Inv (Cg (CXe P w) P w K mg base N qual scope f cd A outer s H E) pins σ H2 s2:=I.call' (ch:=[]) F.os F.un F.hok F.bare (fun b z=>absurd z (by simp))
  refine jG (KD.any (Gx _ _) (wpAny_leaves_onW (E:=fun _ _=>False) (Q:=fun _ s3=>oj B outer x (QO cls) (.ref t) s3.heap∧s2.heap.UpToSlots s3.heap∧s3={s2 with heap:=s3.heap}) I.ok.frames rfl fl fun h' x1 x2=> ⟨x1,x2,rfl⟩)) ?_ fun _ _ z=>jv z
  rintro _ s3 ⟨⟨x1,x2,e3⟩,dk⟩
  refine⟨x,cls,H2,rfl,?_,q⟩
  rw[e3]
  refine JZ (X:=Cg (CXe P w) P w K mg base N qual scope f cd A outer s H E) rfl rfl rfl I2 b1 (fun b o e hb=>?_) F.fr fl.1 x1 x2 (F.dic.dk dk (let⟨o,e,_⟩:=x1.there;⟨o,e⟩))
  obtain⟨o1,e1⟩:=I.base.there b o e (fun z=>nomatch z)
  refine b2 b o1 e1 fun z=>?_
  rcases eJ.mp (I.stkSub b z) with z|z
  ·exact absurd z (fb (eX (eM e) I.ok.above))
  ·exact hb z
 own:=lI.leaving
 madeF:=by
  intro pins σ H1 s1 x C t dx fs I hxn hs0 ex hdx q
  have hin:∀env∈(Cg (CXe P w) P w K mg base N qual scope f cd A outer s H E).stack,∀b,env.frame=some b→b∈x::IG (Cg (CXe P w) P w K mg base N qual scope f cd A outer s H E).stack:=fun env he b hb=>eF _ (iU.mpr ⟨env,he,hb⟩)
  have hkb:Heap.StaysIn (kg s1.heap (x::IG (Cg (CXe P w) P w K mg base N qual scope f cd A outer s H E).stack)) s1.heap:=fun b o q=>kj _ q
  have hen:(kg s1.heap (x::IG (Cg (CXe P w) P w K mg base N qual scope f cd A outer s H E).stack)).get? x=none:=by
   exact PySem.W.hideAll_none _ (eY ..)
  refine jG (KD.any (Gx _ _) (wpAny_leaving_firstW (E:=fun _ _=>False) (Q:=fun _ s3=>Heap.LeftW (kg s1.heap (x::IG (Cg (CXe P w) P w K mg base N qual scope f cd A outer s H E).stack)) _ x (.ref C) (.ref t) s1.heap s3.heap∧s3={s1 with heap:=s3.heap}) I.ok.frames (PySem.W.funFrames_hide I.stack hin) rfl ex hkb hen rfl rfl rfl fun h' hL=> ⟨hL,rfl⟩)) ?_ fun _ _ z=>jv z
  rintro _ s3 ⟨⟨⟨x1,⟨_,_,x2⟩,x3,x4⟩,e3⟩,dk⟩
  refine⟨x,.str fs C,H1,rfl,?_,q⟩
  rw[e3]
  have hth:∃o,s3.heap.get? x=some o:=by
   obtain⟨oe,_,_,_,_,he,_⟩:=x3
   exact⟨oe,he⟩
  refine JZ (X:=Cg (CXe P w) P w K mg base N qual scope f cd A outer s H E) rfl rfl rfl I (fun b hb=>?_) (fun b o e hb=>?_) hxn hkb ⟨x1,hen,x2,x3⟩ x4 ?_
  ·cases e:H1 b with
   |none=>exact absurd e hb
   |some u=>
    obtain⟨o,eo⟩:=(I.hok b u e).obj
    refine⟨o,jy _ eo fun z=>?_⟩
    rcases eJ.mp z with z|z
    ·rw[z] at e;rw[hxn] at e;cases e
    ·exact hb (I.stkFree b z)
  ·obtain⟨o1,e1⟩:=I.base.there b o e (fun z=>nomatch z)
   refine⟨o1,jy _ e1 fun z=>?_⟩
   rcases eJ.mp z with z|z
   ·rw[z] at e;rw[hs0] at e;cases e
   rcases eJ.mp (I.stkSub b z) with z|z
   ·exact absurd z (fb (eX (eM e) I.ok.above))
   ·exact hb z
  ·exact DicX.dk (h:=s1.heap) (fun fs' C' z=>by cases z;exact⟨_,dx,ex,rfl,hdx⟩) dk hth
end
section
variable{X:Cx}{W:St→XK}
def Wi(sp:Sp)(W:St→XK)(t:TA):TE:=fun σ H Q=>t σ H fun vs H1=>sp vs H1 Q (W σ)
theorem XOk.f(x:XOk X W):XFly X W:=⟨x.fly⟩
theorem Kv{k:Nat}{f:Addr}{fd:fm}{ps:List Str}{sp:Sp}{x:Str}{p pos:Pos}{e:Expr}{es:List Expr}{t:TA}(xo:XFly X W)(F:FnOk X.prog X.w X.K X.mg X.base (CXe X.prog X.w) k f fd ps sp)(hr:Room k X.A)(hg:Gl X x)(hm:X.mg x=some (.ref f))(hk:jg X.K (.ref f)=true)(hb:Binds X.K fd ps [])
  (ha:PA X (e::es) t) (hdb:(x==("__debug__" :Str))=false:=by decide) (he:du (e::es) X.env=(false,eval e X.env)::du es X.env:=by rfl) (hpl:(i7 pos (du es X.env)).any (·.1)=false:=by rfl):
  PE X (.Call (.Name x p) (e::es) [] pos) (Wi sp W t):=by
 intro pins s σ H Q I h
 refine kh (NG I hg hm ?_ hdb)
 refine PySem.W.callWith_K (h₀:=X.base) I.ok.mod.kin hk (BB (ha pos pins s σ H _ I h) fun us s1 ⟨vs,H1,I1,r,q⟩=> ⟨I1.kIn,?_⟩) he hpl
 have r2:Vals vs (us++[]):=by rw[gE];exact r
 have hl:(us++[]).length=ps.length:=by rw[←r2.length];exact F.len _ _ _ _ q
 refine mF (lC (F.run X.A X.stack s1 H1 ⟨us,[]⟩ (us++[]) vs Q (W σ) hr I1.env0 (hb s1 us I1.kIn hl) r2 q) fun r s' hq=>?_)
 cases r with
 |error e=>exact xo.fly pins σ H1 s1 e s' I1 hq
 |ok fl=>
  cases fl with
  |ret u=>exact I1.after hq
  |next=>exact jv hq
  |brk=>exact jv hq
  |cont=>exact jv hq
end
open PySem.Calls
section
variable{prog:Program}{w:World}{A:eU}{E:Value→a9→Prop}{s:a9}{K:a8}{x D:Addr}{ox:Obj}{od:Option Obj}{name:Str}
structure ExcCls(K:a8)(D:Addr):Prop where
 ga:kH K (.ref D) "__getattribute__" =some (some (.builtin "BaseException.__getattribute__"))
 gn:kH K (.ref D) "__getattr__" =some none
 be:me K D (.type "BaseException")=some true
 ob:me K D (.type "object")=some true
 cl:kH K (.ref D) "__class__" =some (some (.builtin "object.__class__"))
 gt:PySem.W.specialIn K (.builtin "object.__class__") "__get__" =some (some (.builtin "getset_descriptor.__get__"))
 tk:PySem.W.takesIn K (.builtin "object.__class__")=some true
def TyAt(D x:Addr)(h:Heap):Prop:=∃ox,h.get? x=some ox∧ox.cls=.ref D
theorem TyAt.looks{M:Model}{h:Heap}(p:TyAt D x h):jO M h (typeOf (.ref x)) (.ref D):=by
 obtain⟨o,h1,h2⟩:=p
 exact h2▸(jO.ld h1).andThen .now
open PySem.W Builtin Builtin.ObjectAttr Builtin.Getset_descriptor in
theorem MP {R:ow→a9→Prop} {tp:Value} (X:K.In s.heap) (I:TyAt D x s.heap) (hm:me K D (.type "object")=some true) (h:R (.ok (.ret (.ref D))) s):
  j1 (model prog w) A (.call (.builtin "getset_descriptor.__get__") ⟨[.builtin "object.__class__",.ref x,tp],[]⟩) R s:=by
 obtain⟨hh,gg,dd,tt,oo⟩:=s
 have L0:=I.looks (M:=model prog w)
 have L1:=PySem.W.looks_mroIn (M:=model prog w) X hm
 refine jk
  KF.slot_gs.plain KF.entry_gs (KF.slot_gs.check _ _ _ _ _ _ _ _
   KF.type_class (KF.args_gs _ _ _) ?_)
 unfold Builtin.«getset_descriptor.__get__»
  descrGet
 rw[dga_obj]
 refine a7 (b9 ?_)
 unfold descrGetter descrCheckInstance
  descrNameAndClass isInstance
 simp only[KF.owner_class]
 repeat lk
 refine⟨Code.quiet_builtin _
  (by decide+kernel),i6 KF.entry_class ?_⟩
 unfold Builtin.«object.__class__» shownTypeOf
 repeat lk
 exact h
theorem ExcCls.find{M:Model}{h:Heap}(c:ExcCls K D)(X:K.In h):jO M h (Builtin.ObjectAttr.find (.ref x) (.ref D) "__class__") (.bind (.builtin "getset_descriptor.__get__") (.builtin "object.__class__")):=by
 have L1:=k6 (M:=M) X c.cl
 have L2:jO M h (Builtin.ObjectAttr.getOf (some (.builtin "object.__class__"))) (some (.builtin "getset_descriptor.__get__")):=PySem.W.looks_specialIn X c.gt
 have L3:=PySem.W.looks_takesIn (M:=M) X c.tk
 refine L1.andThen (L2.andThen ?_)
 exact(show jO M h (Builtin.ObjectAttr.dataDescriptor? (some (.builtin "object.__class__")) (some (.builtin "getset_descriptor.__get__"))) (some (.builtin "getset_descriptor.__get__",.builtin "object.__class__"))
  from L3.andThen .now).andThen (jO.tag .now)
theorem Ov{Q:Option Value→a9→Prop}(c:ExcCls K D)(X:K.In s.heap)(I:TyAt D x s.heap)(h:Q (some (.ref D)) {s with toks:=s.toks+1}):wpAny (model prog w) A (getAttr? (.ref x) "__class__") Q E s:=by
 obtain⟨hh,g,d,t,os⟩:=s
 have L0:=I.looks (M:=model prog w)
 have L1:=k6 (M:=model prog w) X c.ga
 have L2:=k6 (M:=model prog w) X c.gn
 have L3:=PySem.W.looks_mroIn (M:=model prog w) X c.be
 have L4:=c.find (x:=x) (M:=model prog w) X
 have hb:bindSpecial (.builtin "BaseException.__getattribute__") (.ref x)=pure (.builtin "BaseException.__getattribute__",[.ref x]):=PySem.F.excAttr_ValueError.ga.bind _
 have hk:builtinKind "BaseException.__getattribute__" =some .slot:=by decide+kernel
 have hsplit:splitId "BaseException.__getattribute__" =some ("BaseException","__getattribute__"):=by decide+kernel
 have hx2:(Value.builtin "BaseException.__getattribute__" ==Value.builtin "object.__getattribute__")=false:=by decide+kernel
 unfold getAttr? getAttrBy? getAttrBy
 refine a7 (wpAny_mkText (a7 (jq (fI (a7 (L0.at (a7 (L1.at ?_))))))))
 dsimp only
 rw[hx2,nv,if_neg eC]
 unfold getAttrByItsOwn hookBefore
 refine a7 (L2.at ?_)
 refine a7 (jq (fI ?_))
 unfold callGetattribute boundAndCalled
 rw[hb]
 show wpAny _ _ (call (.builtin "BaseException.__getattribute__") [.ref x,.str "__class__" t]) _ _ _
 refine mF (jk PySem.F.excAttr_ValueError.ga.plain PySem.F.entry_bexc_ga ?_)
 have ha:=PySem.F.args_bexc_ga (.ref x) (.str "__class__" t)
 simp only[mq,hk,hsplit]
 refine a7 ?_
 unfold isInstance
 refine a7 (L0.at (L3.at ?_))
 rw[if_neg (by decide)]
 refine kZ ha ?_
 show wpAny _ _ (typeOf (.ref x)>>=fun tp=>Builtin.ObjectAttr.find (.ref x) tp "__class__" >>=_) _ _ _
 refine a7 (L0.at (a7 (L4.at ?_)))
 show wpAny _ _ ((holding [.builtin "object.__class__"] (call (.builtin "getset_descriptor.__get__") [.builtin "object.__class__",.ref x,.ref D]))>>=ret) _ _ _
 refine a7 (fI (mF (MP (s:=⟨hh,g,d,t+1,os⟩) X I c.ob ?_)))
 exact b9 (b9 (b9 h))
theorem ExcCls.isTy{M:Model}{h:Heap}(c:ExcCls K D)(X:K.In h):jO M h (isType (.ref D)) true:=by
 obtain⟨cd,hc,_⟩:=Option.bind_eq_some_iff.mp (show(mf K D).bind _=some true from c.be)
 unfold mf at hc
 split at hc
 ·rename_i c' d' cd' sl' ho
  intro A' Q' E' s' k q
  unfold isType loadHead
  exact a7 (wpAny_loadPart (k _ _ (X _ _ ho)) (b9 q))
 ·cases hc
theorem QP(c:ExcCls K D):PySem.W.KitX K (.ref x) (.ref D) (TyAt D x) where
 ty:=fun _ _ _ I=>I.looks
 it:=fun _ _ X _=>c.isTy X
 ne:=fun h tp dd its n sl X htp=>by
  refine Bool.eq_false_iff.mpr fun q=>?_
  have e:D=tp:=Value.ref.inj (beq_iff_eq.mp q)
  subst e
  obtain⟨cd,hc,_⟩:=Option.bind_eq_some_iff.mp (show(mf K D).bind _=some true from c.be)
  unfold mf at hc
  split at hc
  ·rename_i c' d' cd' sl' ho
   have z:=(X _ _ ho).symm.trans htp
   cases z
  ·cases hc
 ca:=fun X I k=>Ov c X I k
end
def Wj(D x:Addr):HO:=.ext (TyAt D x)
theorem MQ{X:Cx}{pins:List (Addr×Obj)}{σ:St}{H:Hp}{s:a9}{A:eU}{E:Value→a9→Prop}{Q:Value→a9→Prop}{c:Value}{b:Bool}{D x:Addr}(I:Inv X pins σ H s)(hx:Rd H x (Wj D x))(k:ExcCls X.K D)
  (e:fe X.K (.ref D) c=some b) (h:∀tk,Q (.bool b) {s with toks:=tk}):wpAny (model X.prog X.w) A (call (.builtin "isinstance") [.ref x,c]) Q E s:=by
 obtain⟨p,_,_⟩:=(show ObjOk X.prog X.w H s.heap x (Wj D x) from hx.ok I.hok)
 exact gP (QP k) I.kIn p e (fun z=>nomatch z) h
section
variable{X:Cx}{pins:List (Addr×Obj)}{σ:St}{H:Hp}{s:a9}
end
section
variable{X:Cx}{pins pins':List (Addr×Obj)}{σ:St}{H:Hp}{s:a9}{E':Value→a9→Prop}{x:Addr}
end
theorem Fun.okX{P:Program}{w:World}{K:a8}{mg:Str→Option Value}{base:Heap}{x qual:Str}{st:Stmt}{f:Addr}{fd:fm}{N ps:List Str}{k:Nat}{sp:Sp}(F:Fun K x qual st f fd)(S:FnScope N ps (AA st))(len:∀vs H Q E,sp vs H Q E→vs.length=ps.length)
  (hbody:∀(cdv:Value) (A:eU) (outer:List Env) (s:a9) (H:Hp) (vs:List V) (Q:VK) (E:XK),Room k (A.deeper (jr qual (AA st) s.heap.objs.size f cdv))→sp vs H Q E→
   ∃t,PSs (Cg (CXe P w) P w K mg base N qual (AA st) f cdv A outer s H E) (Aq st) t∧t {nx:=fun _ H'=>Q .non H',rt:=Q} (start N vs) H):FnOk P w K mg base (CXe P w) (k+1) f fd ps sp:=by
 obtain⟨oc,od,kV,doc,pm,an,cdv,ct,osl,rfl,lk,hcd⟩:=F.ex
 exact Yw lk hcd S len fun A outer s H vs Q E hr hsp=>hbody cdv A outer s H vs Q E hr hsp
section
variable{X:Cx}
def ck(K:a8)(H:Hp)(x:V)(t:Value):Prop:=TyOf K H x t∨∃a D,x=.ref a∧t=.ref D∧Rd H a (Wj D a)∧ExcCls K D
def ZH(K:a8):List V→Hp→VK→Prop:=fun vs H Q=>∃x c t cv b,vs=[x,c]∧RelV c cv∧ck K H x t∧fe K t cv=some b∧Q (.bl b) H
theorem QQ:Au X (.builtin "isinstance") (ZH X.K):=by
 intro pins s σ H xs us Q I r h
 obtain⟨x,c,t,cv,b,rfl,rc,ty,e,q⟩:=h
 obtain⟨u,w',rfl,rx,rw'⟩:=NM r
 have e2:w'=cv:=by
  cases c with
  |ty n=>exact(show w'=jH n from rw').trans (show cv=jH n from rc).symm
  |ref a=>exact(show w'=Value.ref a from rw').trans (show cv=Value.ref a from rc).symm
  |non=>exact(show w'=iS from rw').trans (show cv=iS from rc).symm
  |bl b=>exact(show w'=lN b from rw').trans (show cv=lN b from rc).symm
  |int i=>exact absurd e (by obtain⟨k,rfl⟩:=rc;unfold fe;rcases ty with ty| ⟨_,_,_,rfl,_⟩<;>first| (cases ty<;> (intro z;simp[jf] at z))| (intro z;simp[jf] at z))
  |str i=>exact absurd e (by obtain⟨k,rfl⟩:=rc;unfold fe;rcases ty with ty| ⟨_,_,_,rfl,_⟩<;>first| (cases ty<;> (intro z;simp[jf] at z))| (intro z;simp[jf] at z))
  |byt i=>exact absurd e (by obtain⟨k,rfl⟩:=rc;unfold fe;rcases ty with ty| ⟨_,_,_,rfl,_⟩<;>first| (cases ty<;> (intro z;simp[jf] at z))| (intro z;simp[jf] at z))
  |flt i=>exact absurd e (by obtain⟨k,rfl⟩:=rc;unfold fe;rcases ty with ty| ⟨_,_,_,rfl,_⟩<;>first| (cases ty<;> (intro z;simp[jf] at z))| (intro z;simp[jf] at z))
 subst e2
 rcases ty with ty| ⟨a,D,rfl,rfl,hx,k⟩
 ·exact Oo I rx ty e fun tk=> ⟨.bl b,H,I.tok tk,rfl,q⟩
 ·cases(show u=Value.ref a from rx)
  exact MQ I hx k e fun tk=> ⟨.bl b,H,I.tok tk,rfl,q⟩
theorem IJ:Au X (.builtin "repr") (fun xs H Q=>∃i,xs=[.int i]∧i.natAbs.log2<1920∧Q (.str (toString i)) H):=by
 intro pins s σ H xs us Q I r h
 obtain⟨i,rfl,hz,q⟩:=h
 obtain⟨u,rfl,t,rfl⟩:=DP r
 exact PySem.P.repr_of_int hz ⟨.str _,H,I.tok _,⟨_,rfl⟩,q⟩
end
end L2
namespace StT
local macro_rules | `(tactic| omega) => `(tactic| first | lia | omega)
open PySem PySem.SetTable
theorem MR:∀(m:Nat) (l:List Nat),(∀e,e<m→e∈l)→m≤l.length
 |0,_,_=>fB _
 |m+1,l,h=>by
  have hm:m∈l:=h m (iT m)
  have ih:=MR m (l.erase m) fun e he=>by
   rw[List.mem_erase_of_ne (fb he)]
   exact h e (gZ he)
  rw[List.length_erase_of_mem hm] at ih
  have:0<l.length:=List.length_pos_of_mem hm
  omega
theorem CB:∀(n:Nat) (l:List Nat),l.Nodup→(∀x∈l,x<n)→l.length≤n
 |0,[],_,_=>dv _
 |0,x::_,_,h=>absurd (h x eY) (jM _)
 |n+1,l,nd,h=>by
  have ih:=CB n (l.erase n) (nd.erase n) fun x hx=>by
   have h1:=h x (List.mem_of_mem_erase hx)
   have h2:x≠n:=fun e=>by
    subst e
    exact absurd hx (List.Nodup.not_mem_erase nd)
   omega
  by_cases hn:n∈l
  ·rw[List.length_erase_of_mem hn] at ih
   omega
  ·rw[List.erase_of_not_mem hn] at ih
   omega
def QR(xs:Array Nat):Prop:=xs.toList.Pairwise (· < ·)
theorem Gy{xs:Array Nat}(r:QR xs){i j:Nat}{x y:Nat}(hi:xs[i]?=some x)(hj:xs[j]?=some y)(h:i<j):x<y:=by
 obtain⟨h1,rfl⟩:=fT.mp hi
 obtain⟨h2,rfl⟩:=fT.mp hj
 have:=fF.mp r i j (by simpa using h1) (by simpa using h2) h
 simpa using this
theorem Ja{xs:Array Nat}{j:Nat}:∀(fuel lo hi:Nat),hi-lo≤fuel→lo≤hi→hi≤xs.size→(∀i x,i<lo→xs[i]?=some x→x<j)→(∀i x,hi≤i→xs[i]?=some x→j≤x)→QR xs→
  (oH xs j fuel lo hi≤xs.size)∧(∀i x,i<oH xs j fuel lo hi→xs[i]?=some x→x<j)∧∀i x,oH xs j fuel lo hi≤i→xs[i]?=some x→j≤x
 |0,lo,hi,hf,hlo,hhi,h1,h2,r=>by
  have:lo=hi:=by omega
  subst this
  exact⟨hhi,h1,h2⟩
 |fuel+1,lo,hi,hf,hlo,hhi,h1,h2,r=>by
  unfold oH
  by_cases hl:lo<hi
  ·rw[if_pos hl]
   have hm:(lo+hi)/2<xs.size:=by omega
   have em:xs[(lo+hi)/2]?=some xs[(lo+hi)/2]:=by simp[hm]
   have eg:xs.getD ((lo+hi)/2) j=xs[(lo+hi)/2]:=by simp[lS,hm]
   dsimp only
   rw[eg]
   by_cases hc:xs[(lo+hi)/2]<j
   ·rw[if_pos hc]
    refine Ja fuel _ _ (by omega) (by omega) hhi (fun i x hi' e=>?_) h2 r
    by_cases hx:i=(lo+hi)/2
    ·subst hx
     rw[em] at e;cases e
     exact hc
    ·exact lE (Gy r e em (by omega)) hc
   ·rw[if_neg hc]
    refine Ja fuel _ _ (by omega) (by omega) (by omega) h1 (fun i x hi' e=>?_) r
    by_cases hx:i=(lo+hi)/2
    ·subst hx
     rw[em] at e;cases e
     omega
    ·have:=Gy r em e (by omega)
     omega
  ·rw[if_neg hl]
   have:lo=hi:=by omega
   subst this
   exact⟨hhi,h1,h2⟩
theorem DE{xs:Array Nat}{j:Nat}(r:QR xs):(below xs j≤xs.size)∧(∀i x,i<below xs j→xs[i]?=some x→x<j)∧∀i x,below xs j≤i→xs[i]?=some x→j≤x:=
 Ja _ _ _ (by omega) (by omega) (dv _) (fun i x h=>absurd h (jM _)) (fun i x h e=>by
  have:=(fT.mp e).1
  omega) r
theorem CF{xs:Array Nat}{i j:Nat}(r:QR xs)(h:xs[i]?=some j):below xs j=i:=by
 obtain⟨b1,b2,b3⟩:=DE (j:=j) r
 have hi:i<xs.size:=(fT.mp h).1
 apply Nat.le_antisymm
 ·apply kS
  intro hc
  exact absurd (b2 i j hc h) (gw _)
 ·apply kS
  intro hc
  have e:xs[below xs j]?=some xs[below xs j]:=by simp[lE hc hi]
  have h1:=b3 _ _ (dv _) e
  have h2:=Gy r e h hc
  omega
theorem BR{α:Type}(xs:Array α)(p:Nat)(x:α):(iP xs p x).toList=xs.toList.take p++x::xs.toList.drop p:=by
 unfold iP
 simp
 rw[List.take_of_length_le (by simp)]
theorem getElem?_insertAt{α:Type}(xs:Array α)(p:Nat)(x:α)(hp:p≤xs.size)(i:Nat):(iP xs p x)[i]?=if i<p then xs[i]? else if i=p then some x else xs[i-1]?:=by
 have e:(iP xs p x)[i]?=(iP xs p x).toList[i]?:=by simp
 rw[e,BR]
 have hl:(xs.toList.take p).length=p:=by simp[hp]
 by_cases h1:i<p
 ·rw[if_pos h1,fq (by omega),jt h1]
  simp
 ·rw[if_neg h1,e8 (by omega),hl]
  by_cases h2:i=p
  ·subst h2
   simp
  ·rw[if_neg h2]
   have:i-p=(i-p-1)+1:=by omega
   rw[this,iF,iE]
   have:p+(i-p-1)=i-1:=by omega
   rw[this]
   simp
theorem Dy{α:Type}(xs:Array α)(p:Nat)(x:α)(hp:p≤xs.size):(iP xs p x).size=xs.size+1:=by
 rw[←eG,BR]
 simp
 omega
theorem MS{xs:Array Nat}{j:Nat}(r:QR xs)(hj:∀i:Nat,xs[i]?≠some j):QR (iP xs (below xs j) j):=by
 obtain⟨b1,b2,b3⟩:=DE (j:=j) r
 unfold QR
 rw[BR]
 have lt:∀y∈xs.toList.take (below xs j),y<j:=fun y hy=>by
  obtain⟨i,hi⟩:=fM hy
  have hlt:i<below xs j:=by
   have:=(eB.mp hi).1
   simp at this;omega
  rw[jt hlt] at hi
  exact b2 i y hlt (by simpa using hi)
 have gt:∀y∈xs.toList.drop (below xs j),j<y:=fun y hy=>by
  obtain⟨i,hi⟩:=fM hy
  rw[iE] at hi
  have hi':xs[below xs j+i]?=some y:=by simpa using hi
  have h1:=b3 _ y (Nat.le_add_right _ _) hi'
  have h2:y≠j:=fun e=>hj _ (e▸hi')
  omega
 refine k7.mpr ⟨fv.sublist (kK _ _) r,List.pairwise_cons.mpr ⟨gt,fv.sublist (List.drop_sublist _ _) r⟩,fun a ha b hb=>?_⟩
 rcases eJ.mp hb with rfl|hb
 ·exact lt a ha
 ·exact lE (lt a ha) (gt b hb)
def adv(m:Nat)(p:Probe):Probe:=(gB.mk m #[] #[] 0 false 0 false).advance p
theorem Gz(t:gB)(p:Probe):t.advance p=adv t.mask p:=rfl
theorem HA{m:Nat}{p:Probe}(h:0<p.more):adv m p=⟨p.j+1,p.more-1,p.i,p.perturb,p.dummy⟩:=by
 unfold adv advance
 exact if_pos h
theorem HB{m:Nat}{p:Probe}(h:¬0<p.more):adv m p=⟨(leap m p.i p.perturb).1,jT m (leap m p.i p.perturb).1- (leap m p.i p.perturb).1,(leap m p.i p.perturb).1,(leap m p.i p.perturb).2,p.dummy⟩:=by
 unfold adv advance
 exact if_neg h
def advN(m:Nat):Nat→Probe→Probe
 |0,p=>p
 |n+1,p=>advN m n (adv m p)
theorem CG(m:Nat):∀(a b:Nat) (p:Probe),advN m (a+b) p=advN m b (advN m a p)
 |0,b,p=>by rw[jn];rfl
 |a+1,b,p=>by
  rw[n9]
  exact CG m a b (adv m p)
theorem Ie(m n:Nat)(p:Probe):advN m (n+1) p=adv m (advN m n p):=CG m n 1 p
def st(m:Nat)(x:Nat×Nat)(d:Option Nat):Probe:={j:=x.1,more:=jT m x.1-x.1,i:=x.1,perturb:=x.2,dummy:=d}
theorem QS(t:gB)(h:Int):t.probeStart h=st t.mask (bits h%(t.mask+1),bits h) none:=rfl
def MU(m:Nat):Nat→Nat×Nat→Nat×Nat
 |0,x=>x
 |n+1,x=>MU m n (leap m x.1 x.2)
theorem FP(m i:Nat)(h:i≤m):i+(jT m i-i)≤m∧jT m i-i≤9:=by
 unfold jT
 split<;>omega
theorem Jb(m:Nat):∀(k:Nat) (p:Probe),k≤p.more→advN m k p={p with j:=p.j+k,more:=p.more-k}
 |0,p,_=>rfl
 |k+1,p,h=>by
  show advN m k (adv m p)=_
  have e:adv m p={p with j:=p.j+1,more:=p.more-1}:=HA (by omega)
  rw[e,Jb m k _ (by show k≤p.more-1;omega)]
  show({p with j:=p.j+1+k,more:=p.more-1-k}:Probe)={p with j:=p.j+(k+1),more:=p.more- (k+1)}
  rw[show p.j+1+k=p.j+(k+1) by omega,show p.more-1-k=p.more- (k+1) by omega]
theorem HC(m:Nat)(p:Probe):advN m (p.more+1) p=st m (leap m p.i p.perturb) p.dummy:=by
 rw[Ie,Jb m p.more p (dv _)]
 rw[HB (by show¬0<p.more-p.more;omega)]
 rfl
theorem HD(m:Nat):∀(L:Nat) (x:Nat×Nat),x.1≤m→(MU m L x).1≤m
 |0,_,h=>h
 |L+1,x,_=>HD m L _ (by show(x.1*5+1+x.2/32)%(m+1)≤m;have:=nU (x.1*5+1+x.2/32) (show 0<m+1 by omega);omega)
theorem QT(m:Nat):∀(L:Nat) (x:Nat×Nat) (d:Option Nat),x.1≤m→∃n,n≤10*L∧advN m n (st m x d)=st m (MU m L x) d
 |0,x,d,_=> ⟨0,by omega,rfl⟩
 |L+1,x,d,h=>by
  have hl:(leap m x.1 x.2).1≤m:=HD m 1 x h
  obtain⟨n,hn,e⟩:=QT m L (leap m x.1 x.2) d hl
  have h9:=(FP m x.1 h).2
  refine⟨(st m x d).more+1+n,?_,?_⟩
  ·show jT m x.1-x.1+1+n≤_;omega
  ·rw[CG,HC]
   exact e
theorem NS(m:Nat):∀(a b:Nat) (x:Nat×Nat),MU m (a+b) x=MU m b (MU m a x)
 |0,b,x=>by rw[jn];rfl
 |a+1,b,x=>by rw[n9];exact NS m a b _
theorem NT(m:Nat):∀(L:Nat) (x:Nat×Nat),(MU m L x).2=x.2/32^L
 |0,x=>by simp[MU]
 |L+1,x=>by
  show(MU m L (leap m x.1 x.2)).2=_
  rw[NT m L]
  show x.2/32/32^L=x.2/32^(L+1)
  rw[Nat.div_div_eq_div_mul,Nat.pow_succ,Nat.mul_comm]
def YS(m:Nat):Nat→Nat→List Nat
 |0,_=> []
 |n+1,i=>i::YS m n ((i*5+1)%(m+1))
def fN(m:Nat):Nat→Nat→Nat
 |0,i=>i
 |n+1,i=>fN m n ((i*5+1)%(m+1))
theorem ZI(m:Nat):∀(L i:Nat),MU m L (i,0)=(fN m L i,0)
 |0,_=>rfl
 |L+1,i=>by
  show MU m L ((i*5+1+0/32)%(m+1),0/32)=_
  rw[Nat.zero_div,oa]
  exact ZI m L _
theorem Jc(m:Nat):∀(a b x:Nat),fN m (a+b) x=fN m b (fN m a x)
 |0,b,x=>by rw[jn];rfl
 |a+1,b,x=>by rw[n9];exact Jc m a b _
theorem Jd(m:Nat):∀(n i e:Nat),e∈YS m n i→∃k,k<n∧fN m k i=e
 |0,_,_,h=>by simp[YS] at h
 |n+1,i,e,h=>by
  rcases eJ.mp h with rfl|h
  ·exact⟨0,lD _,rfl⟩
  ·obtain⟨k,hk,hf⟩:=Jd m n _ e h
   exact⟨k+1,by omega,hf⟩
def CH(m:Nat):Prop:=m=7∨m=31∨m=127∨m=511
theorem bW{m:Nat}(h:CH m):fN m (m+1) 0=0∧∀e,e≤m→e∈YS m (m+1) 0:=by
 have all:∀k,((eW (k+1)).all fun e=> (YS k (k+1) 0).contains e)=true→∀e,e≤k→e∈YS k (k+1) 0:=fun k hk e he=>by
  have:=jD.mp hk e (fy.mpr (Nat.lt_succ_of_le he))
  exact List.contains_iff_mem.mp this
 rcases h with rfl|rfl|rfl|rfl
 ·exact⟨by decide+kernel,all 7 (by decide+kernel)⟩
 ·exact⟨by decide+kernel,all 31 (by decide+kernel)⟩
 ·exact⟨by decide+kernel,all 127 (by decide+kernel)⟩
 ·exact⟨by decide+kernel,all 511 (by decide+kernel)⟩
theorem Kg{m:Nat}(h:CH m){i e:Nat}(hi:i≤m)(he:e≤m):∃k,k≤m∧fN m k i=e:=by
 obtain⟨c0,call⟩:=bW h
 obtain⟨a,ha,ea⟩:=Jd m _ _ _ (call i hi)
 obtain⟨b,hb,eb⟩:=Jd m _ _ _ (call e he)
 by_cases hab:a≤b
 ·refine⟨b-a,by omega,?_⟩
  rw[←ea,←Jc,show a+(b-a)=b by omega]
  exact eb
 ·refine⟨m+1-a+b,by omega,?_⟩
  rw[←ea,←Jc,show a+(m+1-a+b)=(m+1)+b by omega,Jc,c0]
  exact eb
structure Pr(m:Nat)(p:Probe):Prop where
 ij:p.j+p.more≤m
 more:p.more≤9
 i:p.i≤m
 pert:p.perturb<2^64
theorem Pr.st{m:Nat}{x:Nat×Nat}{d:Option Nat}(h1:x.1≤m)(h2:x.2<2^64):Pr m (st m x d):=⟨(FP m x.1 h1).1,(FP m x.1 h1).2,h1,h2⟩
theorem Pr.adv{m:Nat}{p:Probe}(h:Pr m p):Pr m (adv m p):=by
 by_cases hm:0<p.more
 ·rw[HA hm]
  exact⟨by have:=h.ij;show p.j+1+(p.more-1)≤m;omega,by have:=h.more;show p.more-1≤9;omega,h.i,h.pert⟩
 ·rw[HB hm]
  have hl:(leap m p.i p.perturb).1≤m:=HD m 1 (p.i,p.perturb) h.i
  exact⟨(FP m _ hl).1,(FP m _ hl).2,hl,km (Nat.div_le_self _ _) h.pert⟩
theorem Pr.advN{m:Nat}:∀{n:Nat} {p:Probe},Pr m p→Pr m (advN m n p)
 |0,_,h=>h
 |n+1,_,h=>Pr.advN (n:=n) h.adv
theorem Pr.j{m:Nat}{p:Probe}(h:Pr m p):p.j≤m:=by have:=h.ij;omega
theorem NU(h:Int):bits h<2^64:=by
 unfold bits
 have h1:=jj h (show(2^64:Int)≠0 by decide)
 have h2:=iW h (show(0:Int)<2^64 by decide)
 have h3:((2:Nat)^64:Nat)=18446744073709551616:=by decide
 omega
def start(m:Nat)(h:Int):Probe:=st m (bits h%(m+1),bits h) none
theorem Pr.start(m:Nat)(h:Int):Pr m (start m h):=Pr.st (by show bits h%(m+1)≤m;have:=nU (bits h) (show 0<m+1 by omega);omega) (NU h)
theorem ZJ{q:Nat}(h:q<2^64):q/32^13=0:=Nat.div_eq_of_lt (eX h (by decide))
theorem VG{m:Nat}(hm:CH m){x:Nat×Nat}(h1:x.1≤m)(h2:x.2<2^64){e:Nat}(he:e≤m):∃L,L≤m+13∧(MU m L x).1=e:=by
 have e13:MU m 13 x=((MU m 13 x).1,0):=by
  have:=NT m 13 x
  rw[ZJ h2] at this
  rw[←this]
 obtain⟨k,hk,ek⟩:=Kg hm (HD m 13 x h1) he
 refine⟨13+k,by omega,?_⟩
 rw[NS,e13,ZI]
 exact ek
theorem VH{m:Nat}(hm:CH m){p:Probe}(h:Pr m p){e:Nat}(he:e≤m):∃n,n<10*(m+15)∧(advN m n p).j=e:=by
 have hl:(leap m p.i p.perturb).1≤m:=HD m 1 (p.i,p.perturb) h.i
 obtain⟨L,hL,eL⟩:=VG hm (x:=leap m p.i p.perturb) hl (km (Nat.div_le_self _ _) h.pert) he
 obtain⟨n,hn,en⟩:=QT m L (leap m p.i p.perturb) p.dummy hl
 refine⟨p.more+1+n,by have:=h.more;omega,?_⟩
 rw[CG,HC,en]
 exact eL
theorem Ow(m:Nat)(p:Probe):(adv m p).dummy=p.dummy:=by
 by_cases h:0<p.more
 ·rw[HA h]
 ·rw[HB h]
theorem EE(m:Nat):∀(n:Nat) (p:Probe),(advN m n p).dummy=p.dummy
 |0,_=>rfl
 |n+1,p=> (EE m n _).trans (Ow m p)
end StT
namespace StT
local macro_rules | `(tactic| omega) => `(tactic| first | lia | omega)
open PySem PySem.SetTable
def Kw(t:gB)(j:Nat):Prop:=∃i:Nat,t.place[i]?=some j
structure Tb(t:gB)(hs:List Int):Prop where
 mask:CH t.mask
 dum:t.dummies= #[]
 ris:QR t.place
 le:∀i j:Nat,t.place[i]?=some j→j≤t.mask
 size:t.place.size=hs.length
 fnd:∀(i j:Nat) (h:Int),t.place[i]?=some j→hs[i]?=some h→∃n,(advN t.mask n (start t.mask h)).j=j∧∀k,k<n→Kw t (advN t.mask k (start t.mask h)).j
section
variable{t:gB}{hs:List Int}
theorem Tb.odd(T:Tb t hs):t.mask%2=1:=by rcases T.mask with h|h|h|h<;>rw[h]
theorem Tb.low(T:Tb t hs):7≤t.mask:=by rcases T.mask with h|h|h|h<;>omega
theorem Tb.live(T:Tb t hs){i j:Nat}(h:t.place[i]?=some j):t.slot j=.live i:=by
 unfold slot
 rw[CF T.ris h]
 simp only[h,beq_self_eq_true,if_true]
theorem Tb.empty(T:Tb t hs){j:Nat}(h:¬Kw t j):t.slot j=.empty:=by
 unfold slot
 have h1:(t.place[below t.place j]?==some j)=false:=by
  rw[beq_eq_false_iff_ne]
  exact fun e=>h ⟨_,e⟩
 have h2:has t.dummies j=false:=by
  unfold has
  rw[T.dum]
  rfl
 simp only[h1,h2,e9,if_false]
theorem Tb.room(T:Tb t hs)(h:hs.length≤t.mask):∃e,e≤t.mask∧¬Kw t e:=by
 apply il
 intro hn
 have:=MR (t.mask+1) t.place.toList fun e he=>by
  have:Kw t e:=il fun hc=>hn ⟨e,by omega,hc⟩
  obtain⟨i,hi⟩:=this
  exact dw (i:=i) (by simpa using hi)
 rw[eG,T.size] at this
 omega
theorem TY(T:Tb t hs){hashAt:Nat→Int}{h:Int}{p:Probe}{i:Nat}(fuel:Nat)(h1:t.place[i]?=some p.j)(h2:hashAt i≠h):k4 t hashAt h (fuel+1) p=k4 t hashAt h fuel (adv t.mask p):=by
 rw[k4,T.live h1]
 simp only[beq_iff_eq,if_neg h2,Gz]
theorem Kx(T:Tb t hs){hashAt:Nat→Int}{h:Int}:∀(n fuel:Nat) (p:Probe),(∀k,k<n→∃i,t.place[i]?=some (advN t.mask k p).j∧hashAt i≠h)→k4 t hashAt h (fuel+n) p=k4 t hashAt h fuel (advN t.mask n p)
 |0,_,_,_=>rfl
 |n+1,fuel,p,hk=>by
  obtain⟨i,h1,h2⟩:=hk 0 (lD _)
  have h1:t.place[i]?=some p.j:=h1
  rw[←nM,TY T _ h1 h2]
  exact Kx T n fuel _ fun k hk'=>hk (k+1) (Nat.succ_lt_succ hk')
theorem QU(T:Tb t hs){hashAt:Nat→Int}{h:Int}{p:Probe}{fuel:Nat}(h1:¬Kw t p.j):k4 t hashAt h (fuel+1) p=some (.empty p.j p.dummy):=by
 rw[k4,T.empty h1]
theorem Wl(T:Tb t hs){hashAt:Nat→Int}{h:Int}{p:Probe}{fuel i:Nat}(h1:t.place[i]?=some p.j)(h2:hashAt i=h):k4 t hashAt h (fuel+1) p=some (.candidate p.j i (adv t.mask p)):=by
 rw[k4,T.live h1]
 simp only[beq_iff_eq,if_pos h2,Gz]
theorem least{S:Nat→Prop}:∀(n:Nat),S n→∃m,m≤n∧S m∧∀k,k<m→¬S k:=by
 intro n
 induction n using mR with
 |ind n ih=>
  intro hn
  by_cases h:∃k,k<n∧S k
  ·obtain⟨k,hk,sk⟩:=h
   obtain⟨m,h1,h2,h3⟩:=ih k hk sk
   exact⟨m,by omega,h2,h3⟩
  ·exact⟨n,dv _,hn,fun k hk sk=>h ⟨k,hk,sk⟩⟩
theorem Ky(T:Tb t hs)(hl:hs.length≤t.mask){p:Probe}(pr:Pr t.mask p)(hashAt:Nat→Int)(h:Int):∃n,(∀k,k<n→∃i,t.place[i]?=some (advN t.mask k p).j∧hashAt i≠h)∧
  ((¬Kw t (advN t.mask n p).j∧t.probe hashAt h p=some (.empty (advN t.mask n p).j p.dummy))∨∃i,t.place[i]?=some (advN t.mask n p).j∧hashAt i=h∧t.probe hashAt h p=some (.candidate (advN t.mask n p).j i (advN t.mask (n+1) p))):=by
 obtain⟨e,he,hne⟩:=T.room hl
 obtain⟨n0,hn0,en0⟩:=VH T.mask pr he
 obtain⟨n,hn,sn,ln⟩:=least (S:=fun n=>¬Kw t (advN t.mask n p).j∨∃i,t.place[i]?=some (advN t.mask n p).j∧hashAt i=h) n0 (.inl (by rw[en0];exact hne))
 have pre:∀k,k<n→∃i,t.place[i]?=some (advN t.mask k p).j∧hashAt i≠h:=fun k hk=>by
  have:=ln k hk
  have ho:Kw t (advN t.mask k p).j:=il fun hc=>this (.inl hc)
  obtain⟨i,hi⟩:=ho
  exact⟨i,hi,fun z=>this (.inr ⟨i,hi,z⟩)⟩
 have hfuel:10*turns t.mask=(10*(t.mask+15)-n-1+1)+n:=by unfold turns;omega
 refine⟨n,pre,?_⟩
 unfold probe
 rw[hfuel,Kx T n _ p pre]
 rcases sn with sn| ⟨i,h1,h2⟩
 ·exact .inl ⟨sn,by rw[QU T sn,EE]⟩
 ·exact .inr ⟨i,h1,h2,by rw[Wl T h1 h2,Ie]⟩
theorem Tb.put(T:Tb t hs){h:Int}{n:Nat}(hfree:¬Kw t (advN t.mask n (start t.mask h)).j)(hway:∀k,k<n→Kw t (advN t.mask k (start t.mask h)).j):
  Tb (t.put (advN t.mask n (start t.mask h)).j).1 (hs.take (t.put (advN t.mask n (start t.mask h)).j).2++h::hs.drop (t.put (advN t.mask n (start t.mask h)).j).2)∧(t.put (advN t.mask n (start t.mask h)).j).2≤hs.length∧
   (t.put (advN t.mask n (start t.mask h)).j).1.mask=t.mask∧(t.put (advN t.mask n (start t.mask h)).j).1.plain=t.plain∧(t.put (advN t.mask n (start t.mask h)).j).1.led=t.led∧(t.put (advN t.mask n (start t.mask h)).j).1.moves=t.moves:=by
 have hj:(advN t.mask n (start t.mask h)).j≤t.mask:=(Pr.start t.mask h).advN.j
 generalize hJ:(advN t.mask n (start t.mask h)).j=J at*
 have hd:has t.dummies J=false:=by
  unfold has
  rw[T.dum]
  rfl
 have hnot:∀i:Nat,t.place[i]?≠some J:=fun i e=>hfree ⟨i,e⟩
 have hb:=(DE (j:=J) T.ris).1
 have e1:(t.put J).1={t with place:=iP t.place (below t.place J) J}:=by
  unfold gB.put
  simp only[hd,e9,if_false]
 have e2:(t.put J).2=below t.place J:=rfl
 rw[e1,e2]
 have ix:=getElem?_insertAt t.place (below t.place J) J hb
 have hl:(hs.take (below t.place J)).length=below t.place J:=by rw[fk,←T.size];omega
 have ih:∀i:Nat,(hs.take (below t.place J)++h::hs.drop (below t.place J))[i]?=if i<below t.place J then hs[i]? else if i=below t.place J then some h else hs[i-1]?:=fun i=>by
  by_cases h1:i<below t.place J
  ·rw[if_pos h1,fq (by omega),jt h1]
  ·rw[if_neg h1,e8 (by omega),hl]
   by_cases h2:i=below t.place J
   ·subst h2;simp
   ·rw[if_neg h2,show i-below t.place J=(i-below t.place J-1)+1 by omega,iF,iE]
    rw[show below t.place J+(i-below t.place J-1)=i-1 by omega]
 have occ:∀x,Kw t x→Kw {t with place:=iP t.place (below t.place J) J} x:=fun x ⟨i,hi⟩=>by
  by_cases h1:i<below t.place J
  ·exact⟨i,by show(iP t.place (below t.place J) J)[i]?=some x;rw[ix,if_pos h1];exact hi⟩
  ·exact⟨i+1,by show(iP t.place (below t.place J) J)[i+1]?=some x;rw[ix,if_neg (by omega),if_neg (by omega)];exact hi⟩
 refine⟨⟨T.mask,T.dum,MS T.ris hnot,fun i j e=>?_,?_,fun i j h' e eh=>?_⟩,by rw[←T.size];exact hb,rfl,rfl,rfl,rfl⟩
 ·have e:(iP t.place (below t.place J) J)[i]?=some j:=e
  rw[ix] at e
  by_cases h1:i<below t.place J
  ·rw[if_pos h1] at e;exact T.le i j e
  ·rw[if_neg h1] at e
   by_cases h2:i=below t.place J
   ·rw[if_pos h2] at e;cases e;exact hj
   ·rw[if_neg h2] at e;exact T.le _ j e
 ·show(iP t.place (below t.place J) J).size=_
  rw[Dy _ _ _ hb,T.size]
  have hb':below t.place J≤hs.length:=by rw[←T.size];exact hb
  rw[eK,hl,eD,gi]
  omega
 ·have e:(iP t.place (below t.place J) J)[i]?=some j:=e
  rw[ix] at e
  rw[ih] at eh
  by_cases h1:i<below t.place J
  ·rw[if_pos h1] at e eh
   obtain⟨k,ek,wk⟩:=T.fnd i j h' e eh
   exact⟨k,ek,fun k' hk=>occ _ (wk k' hk)⟩
  ·rw[if_neg h1] at e eh
   by_cases h2:i=below t.place J
   ·rw[if_pos h2] at e eh
    cases e;cases eh
    exact⟨n,hJ,fun k hk=>occ _ (hway k hk)⟩
   ·rw[if_neg h2] at e eh
    obtain⟨k,ek,wk⟩:=T.fnd _ j h' e eh
    exact⟨k,ek,fun k' hk=>occ _ (wk k' hk)⟩
theorem Tb.fresh(f mv:Nat)(led:Bool):Tb (gB.fresh f mv led) []:=by
 refine⟨.inl rfl,rfl,fv.nil,fun i j e=>?_,rfl,fun i j h e=>?_⟩
 ·have e:(#[]:Array Nat)[i]?=some j:=e
  simp at e
 ·have e:(#[]:Array Nat)[i]?=some j:=e
  simp at e
end
end StT
namespace StT
local macro_rules | `(tactic| omega) => `(tactic| first | lia | omega)
open PySem PySem.SetTable
structure LC(m:Nat)(owner:Array (Option Nat))(hs:List Int):Prop where
 size:owner.size=m+1
 put:∀(r:Nat) (h:Int),hs[r]?=some h→∃j,j≤m∧owner[j]?=some (some r)∧∃n,(advN m n (start m h)).j=j∧∀k,k<n→∃r',owner[(advN m k (start m h)).j]?=some (some r')
 lt:∀j r:Nat,owner[j]?=some (some r)→r<hs.length
 inj:∀j j' r:Nat,owner[j]?=some (some r)→owner[j']?=some (some r)→j=j'
section
variable{m:Nat}{owner:Array (Option Nat)}{hs:List Int}
theorem Je(hz:owner.size=m+1){x:Nat}(hx:x≤m):owner.getD x (some 0)=owner[x]'(by omega)∧owner[x]?=some (owner[x]'(by omega)):=by
 have hx':x<owner.size:=by omega
 exact⟨by simp[lS,hx'],by simp[hx']⟩
theorem VI(hz:owner.size=m+1){x:Nat}(hx:x≤m)(h:(owner.getD x (some 0)).isNone=false):∃r,owner[x]?=some (some r):=by
 obtain⟨h1,h2⟩:=Je hz hx
 rw[h1] at h
 cases e:owner[x]'(by omega) with
 |none=>rw[e] at h;cases h
 |some r=>exact⟨r,by rw[h2,e]⟩
theorem TZ(hz:owner.size=m+1){x:Nat}(hx:x≤m)(h:(owner.getD x (some 0)).isNone=true):owner[x]?=some none:=by
 obtain⟨h1,h2⟩:=Je hz hx
 rw[h1] at h
 cases e:owner[x]'(by omega) with
 |none=>rw[h2,e]
 |some r=>rw[e] at h;cases h
theorem MV{i q k:Nat}(hk:k≤jT m i-i):(advN m k (st m (i,q) none)).j=i+k:=by
 rw[Jb m k _ hk]
 rfl
theorem Ig(m i:Nat):i≤jT m i:=by
 unfold jT
 split<;>omega
theorem Ih(hz:owner.size=m+1){j:Nat}:∀(fuel i q:Nat),i≤m→layClean.free m owner fuel i q=some j→
  ∃n,(advN m n (st m (i,q) none)).j=j∧(∀k,k<n→∃r,owner[(advN m k (st m (i,q) none)).j]?=some (some r))∧owner[j]?=some none∧j≤m
 |0,i,q,_,e=>by simp[layClean.free] at e
 |fuel+1,i,q,hi,e=>by
  have hr:=FP m i hi
  have hge:=Ig m i
  rw[layClean.free] at e
  cases hf:(eW (jT m i+1-i)).find? fun k=> (owner.getD (i+k) (some 0)).isNone with
  |some k=>
   rw[hf] at e
   cases e
   have hk1:(owner.getD (i+k) (some 0)).isNone=true:=by simpa using List.find?_some hf
   have hkm:k<jT m i+1-i:=fy.mp (List.mem_of_find?_eq_some hf)
   refine⟨k,MV (by omega),fun k' hk'=>?_,TZ hz (by omega) hk1,by omega⟩
   rw[MV (by omega)]
   refine VI hz (by omega) ?_
   have:=List.find?_range_eq_some.mp hf
   have h3:=this.2.2 k' hk'
   simpa using h3
  |none=>
   rw[hf] at e
   have hl:(leap m i q).1≤m:=HD m 1 (i,q) hi
   obtain⟨n,h1,h2,h3⟩:=Ih hz fuel _ _ hl e
   have all:∀k,k≤jT m i-i→∃r,owner[(advN m k (st m (i,q) none)).j]?=some (some r):=fun k hk=>by
    rw[MV hk]
    refine VI hz (by omega) ?_
    have:=List.find?_eq_none.mp hf k (fy.mpr (by omega))
    exact Bool.eq_false_iff.mpr this
   have hleap:advN m (jT m i-i+1) (st m (i,q) none)=st m (leap m i q) none:=HC m (st m (i,q) none)
   refine⟨(jT m i-i+1)+n,?_,fun k hk=>?_,h3⟩
   ·rw[CG,hleap]
    exact h1
   ·by_cases hk':k≤jT m i-i
    ·exact all k hk'
    ·have e2:k=(jT m i-i+1)+(k- (jT m i-i+1)):=by omega
     rw[e2,CG,hleap]
     exact h2 _ (by omega)
theorem Ii(hz:owner.size=m+1){e:Nat}(he:owner[e]?=some none)(hem:e≤m):∀(fuel L i q:Nat),i≤m→L<fuel→(MU m L (i,q)).1=e→layClean.free m owner fuel i q≠none
 |0,L,_,_,_,h,_=>absurd h (jM _)
 |fuel+1,L,i,q,hi,hL,eL=>by
  rw[layClean.free]
  have hge:=Ig m i
  cases hf:(eW (jT m i+1-i)).find? fun k=> (owner.getD (i+k) (some 0)).isNone with
  |some k=>simp
  |none=>
   cases L with
   |zero=>
    have eL:i=e:=eL
    subst eL
    have:=List.find?_eq_none.mp hf 0 (fy.mpr (by omega))
    obtain⟨h1,h2⟩:=Je hz hem
    rw[he] at h2
    have h2:=gc.inj h2
    rw[oa,h1,←h2] at this
    exact absurd rfl this
   |succ L=>
    exact Ii hz he hem fuel L _ _ (HD m 1 (i,q) hi) (by omega) eL
def Ei(m:Nat)(acc:Option (Array (Option Nat)×Nat))(h:Int):Option (Array (Option Nat)×Nat):=do
 let(owner,k)←acc
 let j←layClean.free m owner (turns m) (bits h%(m+1)) (bits h)
 pure (owner.setIfInBounds j (some k),k+1)
theorem Kz(m:Nat)(hs:Array Int):layClean m hs=(hs.toList.foldl (Ei m) (some (mU (m+1) none,0))).map (·.1):=by
 unfold layClean
 rw[Array.foldl_toList]
 rfl
theorem LC.room(c:LC m owner hs)(h:hs.length≤m):∃e,e≤m∧owner[e]?=some none:=by
 apply il
 intro hn
 have all:∀e,e≤m→∃r,owner[e]?=some (some r):=fun e he=>by
  have hz:=c.size
  cases q:owner[e]'(by omega) with
  |none=>exact absurd ⟨e,he,by rw[←q];simp[show e<owner.size by omega]⟩ hn
  |some r=>exact⟨r,by rw[←q];simp[show e<owner.size by omega]⟩
 have hf:∀e,∃r,e≤m→owner[e]?=some (some r):=fun e=>by
  by_cases he:e≤m
  ·obtain⟨r,hr⟩:=all e he;exact⟨r,fun _=>hr⟩
  ·exact⟨0,fun z=>absurd z he⟩
 obtain⟨f,hf⟩:=Classical.axiomOfChoice hf
 have hl:=CB hs.length ((eW (m+1)).map f) (by
  refine l0 f (R:=fun a b=>a≠b∧a≤m∧b≤m) (fun a b hab e=>?_) ?_
  ·have h1:=hf a hab.2.1
   have h2:=hf b hab.2.2
   rw[e] at h1
   exact hab.1 (c.inj a b _ h1 h2)
  ·refine gR (fun{a b} ha hb h=> ⟨fb h,?_,?_⟩) (kL (n:=m+1))
   ·have:=fy.mp ha;omega
   ·have:=fy.mp hb;omega) (fun x hx=>by
  obtain⟨e,he,rfl⟩:=eQ.mp hx
  exact c.lt e _ (hf e (by have:=fy.mp he;omega)))
 rw[b6,gH] at hl
 omega
theorem LC.step(hm:CH m)(c:LC m owner hs)(hl:hs.length≤m)(h:Int):∃o',Ei m (some (owner,hs.length)) h=some (o',hs.length+1)∧LC m o' (hs++[h]):=by
 obtain⟨e,he,hne⟩:=c.room hl
 have hb:bits h%(m+1)≤m:=by have:=nU (bits h) (show 0<m+1 by omega);omega
 obtain⟨L,hL,eL⟩:=VG hm (x:=(bits h%(m+1),bits h)) hb (NU h) he
 have hs':=Ii c.size hne he (turns m) L _ _ hb (by unfold turns;omega) eL
 cases hf:layClean.free m owner (turns m) (bits h%(m+1)) (bits h) with
 |none=>exact absurd hf hs'
 |some j=>
  obtain⟨n,h1,h2,h3,h4⟩:=Ih c.size _ _ _ hb hf
  have hj:j<owner.size:=by rw[c.size];omega
  refine⟨owner.setIfInBounds j (some hs.length),?_,?_⟩
  ·unfold Ei
   show(layClean.free m owner (turns m) (bits h%(m+1)) (bits h)>>=_)=_
   rw[hf]
   rfl
  ·have at_:∀x:Nat,(owner.setIfInBounds j (some hs.length))[x]?=if x=j then some (some hs.length) else owner[x]?:=fun x=>by
    rw[Array.getElem?_setIfInBounds]
    by_cases hx:x=j
    ·subst hx;simp[hj]
    ·rw[if_neg (Ne.symm hx),if_neg hx]
   have occ:∀x r:Nat,owner[x]?=some (some r)→∃r',(owner.setIfInBounds j (some hs.length))[x]?=some (some r'):=fun x r hr=>by
    rw[at_]
    by_cases hx:x=j
    ·exact⟨_,if_pos hx⟩
    ·exact⟨r,by rw[if_neg hx];exact hr⟩
   refine⟨by simpa using c.size,fun r h' e'=>?_,fun x r hr=>?_,fun x y r hx hy=>?_⟩
   ·by_cases hr:r<hs.length
    ·rw[fq hr] at e'
     obtain⟨x,q1,q2,n',q3,q4⟩:=c.put r h' e'
     refine⟨x,q1,?_,n',q3,fun k hk=>?_⟩
     ·rw[at_,if_neg];exact q2
      rintro rfl
      rw[h3] at q2;cases q2
     ·obtain⟨r',hr'⟩:=q4 k hk
      exact occ _ r' hr'
    ·rw[e8 (by omega)] at e'
     have hr0:r-hs.length=0:=by
      have:=(eB.mp e').1
      simp at this;omega
     rw[hr0] at e'
     cases e'
     have:r=hs.length:=by omega
     subst this
     refine⟨j,h4,by rw[at_,if_pos rfl],n,h1,fun k hk=>?_⟩
     obtain⟨r',hr'⟩:=h2 k hk
     exact occ _ r' hr'
   ·rw[at_] at hr
    rw[eK]
    by_cases hx:x=j
    ·rw[if_pos hx] at hr;cases hr;simp
    ·rw[if_neg hx] at hr
     have:=c.lt x r hr
     omega
   ·rw[at_] at hx hy
    by_cases h1:x=j
    ·rw[if_pos h1] at hx
     cases hx
     by_cases h2:y=j
     ·rw[h1,h2]
     ·rw[if_neg h2] at hy
      exact absurd (c.lt y _ hy) (gw _)
    ·rw[if_neg h1] at hx
     by_cases h2:y=j
     ·rw[if_pos h2] at hy
      cases hy
      exact absurd (c.lt x _ hx) (gw _)
     ·rw[if_neg h2] at hy
      exact c.inj x y r hx hy
theorem LC.steps(hm:CH m):∀(rest hs:List Int) (owner:Array (Option Nat)),LC m owner hs→hs.length+rest.length≤m+1→∃o',rest.foldl (Ei m) (some (owner,hs.length))=some (o',hs.length+rest.length)∧LC m o' (hs++rest)
 | [],hs,owner,c,_=> ⟨owner,rfl,by rw[gE];exact c⟩
 |h::rest,hs,owner,c,hl=>by
  simp only[eD] at hl
  obtain⟨o1,e1,c1⟩:=c.step hm (by omega) h
  obtain⟨o2,e2,c2⟩:=LC.steps hm rest (hs++[h]) o1 c1 (by rw[eK];simp;omega)
  refine⟨o2,?_,by rw[gk] at c2;exact c2⟩
  rw[List.foldl_cons,e1]
  have:(hs++[h]).length=hs.length+1:=by simp
  rw[this] at e2
  rw[e2]
  simp only[eD]
  congr 2
  omega
theorem LA(hm:CH m)(hs:Array Int)(hl:hs.size≤m+1):∃owner,layClean m hs=some owner∧LC m owner hs.toList:=by
 have c0:LC m (mU (m+1) none) []:=⟨by simp,fun r h e=>by simp at e,fun j r e=>by
  rw[Array.getElem?_replicate] at e;split at e<;>simp at e,fun j j' r e=>by
  rw[Array.getElem?_replicate] at e;split at e<;>simp at e⟩
 obtain⟨o,e,c⟩:=LC.steps hm hs.toList [] _ c0 (by simpa using hl)
 refine⟨o,?_,by simpa using c⟩
 rw[Kz]
 have e':hs.toList.foldl (Ei m) (some (mU (m+1) none,0))=_:=e
 rw[e']
 rfl
end
end StT
namespace StT
open PySem PySem.SetTable
section
variable{m:Nat}
theorem Ta(hm:CH m)(hs:Array Int)(hl:hs.size≤m+1)(f mv:Nat)(led plain:Bool):∃t' order,laid m f mv led plain hs=some (t',order)∧t'.mask=m∧t'.led=led∧t'.plain=plain∧t'.moves=mv∧order.size=hs.size∧
  (∀i r:Nat,order[i]?=some r→r<hs.size)∧(∀i i' r:Nat,order[i]?=some r→order[i']?=some r→i=i')∧(∀r,r<hs.size→∃i:Nat,order[i]?=some r)∧Tb t' (order.toList.map fun r=>hs.getD r 0):=by
 obtain⟨owner,e,c⟩:=LA hm hs hl
 generalize hlive:(eW (m+1)).filterMap (fun j=> (owner.getD j none).map (j,·))=live
 have mem:∀j r,(j,r)∈live↔j≤m∧owner[j]?=some (some r):=fun j r=>by
  rw[←hlive,iU]
  constructor
  ·rintro⟨x,hx,ex⟩
   have hx:=fy.mp hx
   have hxo:x<owner.size:=by rw[c.size];exact hx
   have eg:owner.getD x none=owner[x]:=by simp[lS,hxo]
   rw[eg] at ex
   cases q:owner[x] with
   |none=>rw[q] at ex;cases ex
   |some r'=>
    rw[q] at ex
    cases ex
    exact⟨by omega,by rw[←q];simp[hxo]⟩
  ·rintro⟨h1,h2⟩
   obtain⟨hxo,q⟩:=fT.mp h2
   refine⟨j,fy.mpr (by omega),?_⟩
   have eg:owner.getD j none=owner[j]:=by simp[lS,hxo]
   rw[eg,q]
   rfl
 have pw:live.Pairwise fun a b=>a.1<b.1:=by
  rw[←hlive,List.pairwise_filterMap]
  refine jS (fun{a b} h x hx y hy=>?_) (kL (n:=m+1))
  cases q1:owner.getD a none with
  |none=>rw[q1] at hx;cases hx
  |some r1=>
   cases q2:owner.getD b none with
   |none=>rw[q2] at hy;cases hy
   |some r2=>
    rw[q1] at hx;rw[q2] at hy
    cases hx;cases hy
    exact h
 have lt:∀j r,(j,r)∈live→r<hs.size:=fun j r h=>by have:=c.lt j r ((mem j r).mp h).2;simpa using this
 have pwr:live.Pairwise fun a b=>a.2≠b.2:=by
  refine gR (fun{a b} ha hb h e=>?_) pw
  obtain⟨a1,a2⟩:=a
  obtain⟨b1,b2⟩:=b
  have h1:=(mem _ _).mp ha
  have h2:=(mem _ _).mp hb
  have e:a2=b2:=e
  subst e
  have:=c.inj _ _ _ h1.2 h2.2
  have h:a1<b1:=h
  omega
 have nd:(live.map (·.2)).Nodup:=l0 _ (fun _ _ h=>h) pwr
 have all:∀r,r<hs.size→∃j,(j,r)∈live:=fun r hr=>by
  obtain⟨j,h1,h2,_⟩:=c.put r (hs[r]) (by simp[hr])
  exact⟨j,(mem j r).mpr ⟨h1,h2⟩⟩
 have len:live.length=hs.size:=by
  apply Nat.le_antisymm
  ·have:=CB hs.size (live.map (·.2)) nd fun x hx=>by
    obtain⟨⟨j,r⟩,h1,rfl⟩:=eQ.mp hx
    exact lt j r h1
   simpa using this
  ·have:=MR hs.size (live.map (·.2)) fun r hr=>by
    obtain⟨j,hj⟩:=all r hr
    exact eQ.mpr ⟨_,hj,rfl⟩
   simpa using this
 refine⟨{mask:=m,place:=(live.map (·.1)).toArray,dummies:=#[],finger:=f,led:=led,moves:=mv,plain:=plain},(live.map (·.2)).toArray,?_,rfl,rfl,rfl,rfl,by simpa using len,fun i r h=>?_,fun i i' r h h'=>?_,fun r hr=>?_,?_⟩
 ·unfold laid
  rw[e]
  show some _=some _
  rw[hlive]
 ·have h:(live.map (·.2))[i]?=some r:=by simpa using h
  rw[c9] at h
  cases q:live[i]? with
  |none=>rw[q] at h;cases h
  |some x=>rw[q] at h;cases h;exact lt x.1 x.2 (dw q)
 ·have h:(live.map (·.2))[i]?=some r:=by simpa using h
  have h':(live.map (·.2))[i']?=some r:=by simpa using h'
  obtain⟨l1,e1⟩:=eB.mp h
  obtain⟨l2,e2⟩:=eB.mp h'
  rcases iu i i' with hlt|heq|hgt
  ·exact absurd (e1.trans e2.symm) (fF.mp nd i i' l1 l2 hlt)
  ·exact heq
  ·exact absurd (e2.trans e1.symm) (fF.mp nd i' i l2 l1 hgt)
 ·obtain⟨j,hj⟩:=all r hr
  obtain⟨i,hi⟩:=fM hj
  exact⟨i,by simp[hi]⟩
 ·have at_:∀i j:Nat,(live.map (·.1)).toArray[i]?=some j→∃r,live[i]?=some (j,r):=fun i j h=>by
   have h:(live.map (·.1))[i]?=some j:=by simpa using h
   rw[c9] at h
   cases q:live[i]? with
   |none=>rw[q] at h;cases h
   |some x=>
    rw[q] at h
    cases h
    exact⟨x.2,rfl⟩
  refine⟨hm,rfl,?_,fun i j h=>?_,by simp,fun i j h e1 e2=>?_⟩
  ·show(live.map (·.1)).toArray.toList.Pairwise (· < ·)
   exact l0 _ (fun _ _ h=>h) pw
  ·obtain⟨r,hr⟩:=at_ i j h
   exact((mem j r).mp (dw hr)).1
  ·obtain⟨r,hr⟩:=at_ i j e1
   have hrlt:=lt j r (dw hr)
   have e2:((live.map (·.2)).map fun r=>hs.getD r 0)[i]?=some h:=by simpa using e2
   rw[c9,c9,hr] at e2
   have e2:hs.getD r 0=h:=gc.inj e2
   have eh:hs.toList[r]?=some h:=by
    rw[←e2]
    simp[lS,hrlt]
   obtain⟨j2,q1,q2,n,q3,q4⟩:=c.put r h eh
   have ej:=c.inj j2 j r q2 ((mem j r).mp (dw hr)).2
   subst ej
   refine⟨n,q3,fun k hk=>?_⟩
   obtain⟨r',hr'⟩:=q4 k hk
   have hk':(advN m k (start m h)).j≤m:=(Pr.start m h).advN.j
   obtain⟨i',hi'⟩:=fM ((mem _ r').mpr ⟨hk',hr'⟩)
   refine⟨i',?_⟩
   show(live.map (·.1)).toArray[i']?=_
   simp[hi']
theorem Ox{n:Nat}(h:CH m)(h1:n*5<m*3)(h2:m*3≤(n+1)*5)(h3:n<300):CH (ny (grown (n+1))-1)∧n+1≤ny (grown (n+1))-1∧(n+1)*5< (ny (grown (n+1))-1)*3∧ny (grown (n+1))≤512:=by
 rcases h with rfl|rfl|rfl|rfl
 ·have:n=4:=by omega
  subst this
  refine⟨.inr (.inl (by decide)),by decide,by decide,by decide⟩
 ·have:n=18:=by omega
  subst this
  refine⟨.inr (.inr (.inl (by decide))),by decide,by decide,by decide⟩
 ·have:n=76:=by omega
  subst this
  refine⟨.inr (.inr (.inr (by decide))),by decide,by decide,by decide⟩
 ·omega
theorem DF{α:Type}(es:Array α):∀(l:List Nat),(∀r∈l,r<es.size)→∀i:Nat,(l.filterMap fun r=>es[r]?)[i]?=(l[i]?).bind fun r=>es[r]?
 | [],_,i=>by simp
 |r::l,h,i=>by
  have hr:=h r eY
  have e:es[r]?=some es[r]:=by simp[hr]
  rw[gD,e]
  cases i with
  |zero=>simp
  |succ i=>
   simp only[iF]
   exact DF es l (fun x hx=>h x (eF _ hx)) i
theorem Ci{α:Type}(es:Array α):∀(l:List Nat),(∀r∈l,r<es.size)→(l.filterMap fun r=>es[r]?).length=l.length
 | [],_=>rfl
 |r::l,h=>by
  have hr:=h r eY
  have e:es[r]?=some es[r]:=by simp[hr]
  rw[gD,e]
  simp[Ci es l (fun x hx=>h x (eF _ hx))]
end
open PyProof.Rows
section
variable{prog:Program}{w:World}{A:eU}{E:Value→a9→Prop}{s:a9}
abbrev IK(prog:Program)(w:World)(h:Heap)(k:List Int)(a:Addr):Prop:=IsTupleKey (intKind prog w) h k a
abbrev tk(prog:Program)(w:World):HeapKind prog w (List Int):=tupleKind (intKind prog w)
theorem FQ{n:Int}{v:Value}(h:(intKind prog w).is n v=true):∃t,v=.int n t:=by
 cases v with
 |int m t=>
  have h2:(intKind prog w).is m (.int m t)=true:=intKind_is _ _ _ _
  have e:=(intKind prog w).inj _ _ _ h h2
  subst e
  exact⟨t,rfl⟩
 |_=>exact absurd h (by simp[intKind,Value.isInt])
theorem HE{ks:List Int}{vs:List Value}(h:ItemsAre (intKind prog w) ks vs):∀v∈vs,∃n t,v=.int n t:=by
 induction h with
 |nil=>intro v hv;simp at hv
 |cons h1 _ ih=>
  intro v hv
  rcases eJ.mp hv with rfl|hv
  ·obtain⟨t,e⟩:=FQ h1
   exact⟨_,t,e⟩
  ·exact ih v hv
theorem ZK{k:List Int}{a:Addr}{Q:Bool→a9→Prop}(hk:IK prog w s.heap k a)(h:Q true s):wpAny (model prog w) A (hashByValue 8 (.ref a)) Q E s:=by
 have hT:=hk.typeIs
 obtain⟨o,items,n,ho,_,hd,hi⟩:=hk
 have hints:=HE hi
 unfold hashByValue
 refine a7 (wpAny_specialOf hT PySem.F.slot_tuple_hash.lookup ?_)
 dsimp only
 refine a7 (gO ho hd ?_)
 show wpAny _ _ ((forIn items _ _)>>=_) _ _ s
 rw[←Array.forIn_toList]
 refine a7 (ml _ (fun rest r s'=>r.1=none∧s'=s∧∀v∈rest,∃n t,v=kR n t) _ ?_ ?_ _ _ ⟨rfl,rfl,hints⟩)
 ·rintro v rest r s' ⟨hr,rfl,hall⟩
  obtain⟨n,t,rfl⟩:=hall v eY
  refine a7 (b9 ?_)
  simp only[kc,e9,if_false]
  exact b9 ⟨rfl,rfl,fun u hu'=>hall u (eF _ hu')⟩
 ·rintro⟨r1,r2⟩ s' ⟨hr,rfl,_⟩
  simp only at hr
  subst hr
  exact b9 h
theorem NV{k:List Int}{a:Addr}{Q:Bool→a9→Prop}(hk:IK prog w s.heap k a)(h:Q false s):wpAny (model prog w) A (lV 8 (.ref a)) Q E s:=by
 have hT:=hk.typeIs
 obtain⟨o,items,n,ho,hc,hd,hi⟩:=hk
 have hints:=HE hi
 unfold lV
 refine a7 (ky hT ?_)
 dsimp only
 rw[if_pos (by decide)]
 refine a7 (b9 ?_)
 simp only[kc,e9,if_false]
 refine a7 (gO ho hd ?_)
 show wpAny _ _ ((forIn items _ _)>>=_) _ _ s
 rw[←Array.forIn_toList]
 refine a7 (ml _ (fun rest r s'=>r.1=none∧s'=s∧∀v∈rest,∃n t,v=kR n t) _ ?_ ?_ _ _ ⟨rfl,rfl,hints⟩)
 ·rintro v rest r s' ⟨hr,rfl,hall⟩
  obtain⟨n,t,rfl⟩:=hall v eY
  unfold lV
  refine a7 (b9 ?_)
  simp only[e9,if_false]
  exact b9 ⟨rfl,rfl,fun u hu'=>hall u (eF _ hu')⟩
 ·rintro⟨r1,r2⟩ s' ⟨hr,rfl,_⟩
  simp only at hr
  subst hr
  exact b9 h
theorem Tc{k:List Int}{a:Addr}{Q:Bool→a9→Prop}{l:List Value}(hk:IK prog w s.heap k a)(hl:∀v∈l,∃k' b,v=.ref b∧IK prog w s.heap k' b)(h:Q false s):wpAny (model prog w) A (searchCouldBeSeen (.ref a) l) Q E s:=by
 unfold searchCouldBeSeen
 refine a7 (ml _ (fun rest r s'=>r.1=none∧s'=s∧∀v∈rest,∃k' b,v=Value.ref b∧IK prog w s.heap k' b) _ ?_ ?_ _ _ ⟨rfl,rfl,hl⟩)
 ·rintro v rest r s' ⟨hr,rfl,hall⟩
  obtain⟨k',b,rfl,hb⟩:=hall v eY
  have go:∀u∈rest,∃k' b,u=Value.ref b∧IK prog w s'.heap k' b:=fun u hu'=>hall u (eF _ hu')
  dsimp only
  split
  ·exact b9 ⟨rfl,rfl,go⟩
  ·refine a7 (wpAny_eqIsQuiet_tuple hk ?_)
   simp only[kc,e9,if_false]
   refine a7 (wpAny_eqIsQuiet_tuple hb ?_)
   simp only[kc,e9,if_false]
   refine a7 (NV hk ?_)
   simp only[e9,if_false]
   refine a7 (NV hb ?_)
   simp only[e9,if_false]
   exact b9 ⟨rfl,rfl,go⟩
 ·rintro⟨r1,r2⟩ s' ⟨hr,rfl,_⟩
  simp only at hr
  subst hr
  exact b9 h
end
local macro_rules | `(tactic| omega) => `(tactic| first | lia | omega)
open PySem PySem.SetTable PyProof.Rows
section
variable{prog:Program}{w:World}{A:eU}{E:Value→a9→Prop}{s:a9}
def Oy(xs:List (List Int×Addr))(prog:Program)(w:World):List (Int×Value):=xs.map fun p=> ((tk prog w).hash p.1,Value.ref p.2)
structure SetD(prog:Program)(w:World)(h:Heap)(a:Addr)(xs:List (List Int×Addr))(o:Obj)(es:Array (Int×Value))(ep:Nat)(t:gB):Prop where
 get:h.get? a=some o
 ex:o.ExactSet
 dat:o.data=.set es ep t
 es:es.toList=Oy xs prog w
 key:∀(i:Nat) (k:List Int) (x:Addr),xs[i]?=some (k,x)→IK prog w h k x
 nd:(xs.map (·.1)).Nodup
 tb:Tb t (xs.map fun p=> (tk prog w).hash p.1)
 pl:t.plain=true
 room:xs.length*5<t.mask*3
 led:t.led=!w.params.followText "set-order"
variable{a:Addr}{xs:List (List Int×Addr)}{o:Obj}{es:Array (Int×Value)}{ep:Nat}{t:gB}
theorem SetD.size(S:SetD prog w s.heap a xs o es ep t):es.size=xs.length:=by
 rw[←eG,S.es];simp[Oy]
theorem SetD.fits(S:SetD prog w s.heap a xs o es ep t):t.fits es.size=true:=by
 have h1:=S.tb.size
 have h2:=S.room
 have h3:t.fill=t.place.size:=by unfold nK;rw[S.tb.dum];rfl
 rw[b6] at h1
 unfold gB.fits
 rw[h3,S.size,h1]
 simp only[beq_self_eq_true,jw,decide_eq_true_eq]
 omega
theorem SetD.len(S:SetD prog w s.heap a xs o es ep t):(xs.map fun p=> (tk prog w).hash p.1).length≤t.mask:=by
 have:=S.room
 rw[b6];omega
theorem SetD.at(S:SetD prog w s.heap a xs o es ep t){i:Nat}{k:List Int}{x:Addr}(h:xs[i]?=some (k,x)):es[i]?=some ((tk prog w).hash k,.ref x):=by
 have:es[i]?=es.toList[i]?:=by simp
 rw[this,S.es,Oy,c9,h]
 rfl
theorem SetD.of_at(S:SetD prog w s.heap a xs o es ep t){i:Nat}(h:i<xs.length):∃k x,xs[i]?=some (k,x):=⟨_,_,by simp[h];rfl⟩
abbrev GN:Array (Int×Value)→Nat→Int:=PySem.W.hashAt
theorem SetD.hash(S:SetD prog w s.heap a xs o es ep t){i:Nat}{k:List Int}{x:Addr}(h:xs[i]?=some (k,x)):GN es i=(tk prog w).hash k:=by
 show((es[i]?).map fK).getD 0=_
 rw[S.at h]
 rfl
theorem LB(S:SetD prog w s.heap a xs o es ep t)(hu:A.units<cLine){k:List Int}{x:Addr}(hk:IK prog w s.heap k x){Q:SetFound→a9→Prop}
  (hT:∀(i:Nat) (y:Addr),xs[i]?=some (k,y)→Q (.there none) s)
  (hF:(∀(i:Nat) (y:Addr),xs[i]?≠some (k,y))→∀n,¬Kw t (advN t.mask n (start t.mask ((tk prog w).hash k))).j→(∀c,c<n→Kw t (advN t.mask c (start t.mask ((tk prog w).hash k))).j)→Q (.free (advN t.mask n (start t.mask ((tk prog w).hash k))).j false) s):
  ∀(fuel c:Nat) (stand:Option Probe),stand.getD (t.probeStart ((tk prog w).hash k))=advN t.mask c (start t.mask ((tk prog w).hash k))→
   (∀c',c'<c→Kw t (advN t.mask c' (start t.mask ((tk prog w).hash k))).j∧∀(i:Nat) (y:Addr),t.place[i]?=some (advN t.mask c' (start t.mask ((tk prog w).hash k))).j→xs[i]?≠some (k,y))→
   (∃N,c≤N∧¬Kw t (advN t.mask N (start t.mask ((tk prog w).hash k))).j∧N-c<fuel)→
   wpAny (model prog w) A (setSearchFrom a (.ref x) ((tk prog w).hash k) true fuel stand) Q E s:=by
 intro fuel
 induction fuel with
 |zero=>rintro c stand _ _ ⟨N,_,_,h⟩;exact absurd h (jM _)
 |succ fuel ih=>
  rintro c stand hst hpre ⟨N,hcN,hN,hfu⟩
  have hsz:t.place.size=xs.length:=by have:=S.tb.size;rwa[b6] at this
  unfold setSearchFrom
  refine a7 (gX S.get S.dat S.fits ?_)
  dsimp only
  have hgw:t.gaveWay=false:=by unfold gB.gaveWay;rw[S.tb.odd];rfl
  rw[hgw]
  simp only[e9,if_false]
  obtain⟨n,hn,hstop⟩:=Ky S.tb S.len (p:=advN t.mask c (start t.mask ((tk prog w).hash k))) (Pr.start _ _).advN (GN es) ((tk prog w).hash k)
  rw[hst]
  have hadd:∀m,advN t.mask m (advN t.mask c (start t.mask ((tk prog w).hash k)))=advN t.mask (c+m) (start t.mask ((tk prog w).hash k)):=fun m=> (CG _ _ _ _).symm
  have pre2:∀c',c'<c+n→Kw t (advN t.mask c' (start t.mask ((tk prog w).hash k))).j∧∀(i:Nat) (y:Addr),t.place[i]?=some (advN t.mask c' (start t.mask ((tk prog w).hash k))).j→xs[i]?≠some (k,y):=fun c' hc'=>by
   by_cases hlt:c'<c
   ·exact hpre c' hlt
   ·obtain⟨i,h1,h2⟩:=hn (c'-c) (by omega)
    rw[hadd,show c+(c'-c)=c' by omega] at h1
    refine⟨⟨i,h1⟩,fun i' y h1' e=>?_⟩
    have:i'=i:=by
     rw[←CF S.tb.ris h1',←CF S.tb.ris h1]
    subst this
    exact h2 (S.hash e)
  obtain⟨met,hmet⟩:∃met,t.probe (GN es) ((tk prog w).hash k) (advN t.mask c (start t.mask ((tk prog w).hash k)))=some met:=by
   rcases hstop with⟨_,hp⟩| ⟨_,_,_,hp⟩<;>exact⟨_,hp⟩
  split
  case h_2 heq=>exact absurd hmet (heq met)
  rename_i met' heq
  have heq:t.probe (GN es) ((tk prog w).hash k) (advN t.mask c (start t.mask ((tk prog w).hash k)))=some met':=heq
  rcases hstop with⟨hf,hp⟩| ⟨i,h1,h2,hp⟩
  ·rw[hp] at heq
   cases heq
   dsimp only
   rw[EE]
   show wpAny _ _ (pure _) _ _ s
   rw[hadd] at hf ⊢
   refine b9 (hF (fun i y e=>?_) (c+n) hf fun c' hc'=> (pre2 c' hc').1)
   have hi:i<xs.length:=(eB.mp e).1
   have hpl:t.place[i]?=some (t.place[i]'(by omega)):=by simp[show i<t.place.size by omega]
   obtain⟨n',e1,w1⟩:=S.tb.fnd i _ ((tk prog w).hash k) hpl (by rw[c9,e];rfl)
   by_cases hlt:n'<c+n
   ·exact(pre2 n' hlt).2 i y (by rw[e1];exact hpl) e
   ·by_cases heq:n'=c+n
    ·subst heq
     exact hf ⟨i,by rw[e1];exact hpl⟩
    ·exact hf (w1 (c+n) (by omega))
  ·rw[hp] at heq
   cases heq
   dsimp only
   rw[hadd] at h1
   have hi:i<xs.length:=by rw[←hsz];exact(fT.mp h1).1
   obtain⟨k',y,ek⟩:=S.of_at hi
   have hky:=S.key i k' y ek
   have seen:∀v,v∈(es.filter fun e=>e.1==(tk prog w).hash k).toList.map (·.2)→∃k' b,v=Value.ref b∧IK prog w s.heap k' b:=fun v hv=>by
    obtain⟨⟨h',v'⟩,hm,rfl⟩:=eQ.mp hv
    have hm:(h',v')∈es.toList:=by
     have:=hm
     simp only[Array.toList_filter] at this
     exact(fD.mp this).1
    rw[S.es,Oy] at hm
    obtain⟨⟨k2,b⟩,hb,eb⟩:=eQ.mp hm
    cases eb
    obtain⟨j,hj⟩:=fM hb
    exact⟨k2,b,rfl,S.key j k2 b hj⟩
   cases hled:t.led with
   |true=>
    simp only[kc,e9,if_false]
    rw[S.at ek]
    dsimp only
    refine a7 (fI (wpAny_eqBool_tuple hu hky hk ?_))
    refine a7 (gX S.get S.dat S.fits ?_)
    dsimp only
    by_cases hkk:k'=k
    ·subst hkk
     rw[decide_eq_true rfl]
     exact b9 (hT i y ek)
    ·rw[decide_eq_false hkk]
     have hsm:t.sameMemory t.moves t.mask=some true:=by unfold gB.sameMemory;rw[if_pos (by simp)]
     rw[hsm]
     simp only[nv,e9,if_false,if_true]
     rw[hadd,S.tb.live h1]
     dsimp only
     rw[S.at ek]
     dsimp only
     have hss:isSame (Value.ref y) (Value.ref y)=pure true:=by
      show(if(y==y)=true then _ else _)=_
      rw[if_pos (beq_self_eq_true y)]
     rw[hss]
     refine a7 (b9 ?_)
     simp only[if_true]
     refine a7 (b9 ?_)
     dsimp only
     rw[hadd]
     refine ih (c+n+1) _ rfl (fun c' hc'=>?_) ?_
     ·by_cases hlt:c'<c+n
      ·exact pre2 c' hlt
      ·have:c'=c+n:=by omega
       subst this
       refine⟨⟨i,h1⟩,fun i' y' h1' e=>?_⟩
       have:i'=i:=by
        rw[←CF S.tb.ris h1',←CF S.tb.ris h1]
       subst this
       rw[ek] at e
       exact hkk (congrArg fK (gc.inj e))
     ·have hle:c+n<N:=by
       rcases iu (c+n) N with hlt|heq|hgt
       ·exact hlt
       ·exact absurd ⟨i,by rw[←heq];exact h1⟩ hN
       ·exact absurd (pre2 N hgt).1 hN
      exact⟨N,by omega,hN,by omega⟩
   |false=>
    simp only[nu,if_true]
    refine a7 (Tc hk seen ?_)
    simp only[e9,if_false]
    rw[S.at ek]
    dsimp only
    refine a7 (fI (wpAny_eqBool_tuple hu hky hk ?_))
    refine a7 (gX S.get S.dat S.fits ?_)
    dsimp only
    by_cases hkk:k'=k
    ·subst hkk
     rw[decide_eq_true rfl]
     exact b9 (hT i y ek)
    ·rw[decide_eq_false hkk]
     have hsm:t.sameMemory t.moves t.mask=some true:=by unfold gB.sameMemory;rw[if_pos (by simp)]
     rw[hsm]
     simp only[nv,e9,if_false,if_true]
     rw[hadd,S.tb.live h1]
     dsimp only
     rw[S.at ek]
     dsimp only
     have hss:isSame (Value.ref y) (Value.ref y)=pure true:=by
      show(if(y==y)=true then _ else _)=_
      rw[if_pos (beq_self_eq_true y)]
     rw[hss]
     refine a7 (b9 ?_)
     simp only[if_true]
     refine a7 (b9 ?_)
     dsimp only
     rw[hadd]
     refine ih (c+n+1) _ rfl (fun c' hc'=>?_) ?_
     ·by_cases hlt:c'<c+n
      ·exact pre2 c' hlt
      ·have:c'=c+n:=by omega
       subst this
       refine⟨⟨i,h1⟩,fun i' y' h1' e=>?_⟩
       have:i'=i:=by
        rw[←CF S.tb.ris h1',←CF S.tb.ris h1]
       subst this
       rw[ek] at e
       exact hkk (congrArg fK (gc.inj e))
     ·have hle:c+n<N:=by
       rcases iu (c+n) N with hlt|heq|hgt
       ·exact hlt
       ·exact absurd ⟨i,by rw[←heq];exact h1⟩ hN
       ·exact absurd (pre2 N hgt).1 hN
      exact⟨N,by omega,hN,by omega⟩
end
end StT
namespace StT
local macro_rules | `(tactic| omega) => `(tactic| first | lia | omega)
open PySem PySem.SetTable PyProof.Rows
section
variable{prog:Program}{w:World}{A:eU}{E:Value→a9→Prop}{s:a9}
variable{a:Addr}{xs:List (List Int×Addr)}{o:Obj}{es:Array (Int×Value)}{ep:Nat}{t:gB}
def SetX(prog:Program)(w:World)(h:Heap)(a:Addr)(xs:List (List Int×Addr)):Prop:=∃o es ep t,SetD prog w h a xs o es ep t
theorem QV{h:Heap}{k:List Int}{x:Addr}(hk:IK prog w h k x)(hg:h.get? a=some o)(he:o.ExactSet):x≠a:=by
 rintro rfl
 obtain⟨o',items,n,ho,hc,_⟩:=hk
 rw[hg] at ho
 cases ho
 rw[he.1] at hc
 exact absurd hc (by decide)
theorem DG{h h':Heap}{k:List Int}{x:Addr}(hk:IK prog w h k x)(hs:∀u,h.get? x=some u→h'.get? x=some u):IK prog w h' k x:=by
 obtain⟨o',items,n,ho,hc,hd,hi⟩:=hk
 exact⟨o',items,n,hs _ ho,hc,hd,hi⟩
theorem Ij(hg:s.heap.get? a=some o)(hd:o.data=.set es ep t)(es':Array (Int×Value))(t':gB):(s.heap.update a (lQ es' t')).get? a=some {o with data:=.set es' (ep+1) t'}:=by
 have:=jh (lQ es' t') hg (by rw[putSet_of es' t' hd];rfl)
 rw[putSet_of es' t' hd] at this;exact this
theorem MW:(Oy xs prog w).length=xs.length:=by simp[Oy]
theorem QW{n:Nat}(hg:s.heap.get? a=some o)(he:o.ExactSet)(hd:o.data=.set es ep t)(hes:es.toList=Oy xs prog w)(hkey:∀(i:Nat) (k:List Int) (x:Addr),xs[i]?=some (k,x)→IK prog w s.heap k x)
  (hnd:(xs.map (·.1)).Nodup) (htb:Tb t (xs.map fun p=> (tk prog w).hash p.1)) (hpl:t.plain=true) (hled:t.led=!w.params.followText "set-order") (hn:xs.length=n+1) (h1:n*5<t.mask*3) (h2:t.mask*3≤(n+1)*5) (h3:n<300) {Q:Unit→a9→Prop}
  (h:∀h' xs',iI a s.heap h'→SetX prog w h' a xs'→(∀p,p∈xs'↔p∈xs)→xs'.length=xs.length→Q () {s with heap:=h'}):wpAny (model prog w) A (setRelay a (grown (n+1))) Q E s:=by
 obtain⟨m1,m2,m3,m4⟩:=Ox htb.mask h1 h2 h3
 have hsz:es.size=n+1:=by rw[←eG,hes,MW,hn]
 have hfill:t.fill=t.place.size:=by unfold nK;rw[htb.dum];rfl
 have hps:t.place.size=n+1:=by have:=htb.size;rw[b6,hn] at this;exact this
 have hlow:=htb.low
 have hfit:t.fits es.size=true:=by
  unfold gB.fits
  rw[hfill,hsz,hps]
  simp only[beq_self_eq_true,jw,decide_eq_true_eq]
  omega
 unfold setRelay
 refine a7 (gX hg hd hfit ?_)
 dsimp only
 rw[if_neg (by rw[gC];omega)]
 refine a7 ?_
 obtain⟨t',order,el,q1,q2,q3,q4,q5,q6,q7,q8,q9⟩:=Ta m1 (es.map (·.1)) (by rw[Array.size_map,hsz];omega) t.finger (t.movedTo (ny (grown (n+1))-1)) t.led t.plain
 rw[Array.size_map] at q5 q6 q8
 have el':t.relaid (es.map (·.1)) (grown (n+1))=some (t',order):=el
 rw[el']
 have hfm:(order.filterMap (es[·]?)).toList=order.toList.filterMap fun r=>es[r]?:=by simp
 have hmem:∀r∈order.toList,r<es.size:=fun r hr=>by
  obtain⟨i,hi⟩:=fM hr
  exact q6 i r (by simpa using hi)
 have hes':(order.filterMap (es[·]?)).size=es.size:=by
  rw[←eG,hfm,Ci es _ hmem,eG,q5]
 show wpAny _ _ (if((order.filterMap fun r=>es[r]?).size !=es.size)=true then _ else pure (order.filterMap fun r=>es[r]?,t')) _ _ s
 rw[if_neg (by rw[hes'];simp)]
 refine b9 ?_
 dsimp only
 refine wpAny_storeSet_of hg hd ?_ (by rw[hes',hsz,gC];omega)
 generalize hE:order.filterMap (es[·]?)=es' at*
 have hxs:∀r,r<es.size→∃p,xs[r]?=some p:=fun r hr=> ⟨_,by simp[show r<xs.length by rw[hn];omega];rfl⟩
 have hfx:(order.toList.filterMap fun r=>xs[r]?).length=es.size:=by
  have:=Ci xs.toArray order.toList (fun r hr=>by rw[eP,hn];have:=hmem r hr;omega)
  simp only[List.getElem?_toArray] at this
  rw[this,eG,q5]
 have at_:∀i:Nat,(order.toList.filterMap fun r=>xs[r]?)[i]?=(order.toList[i]?).bind fun r=>xs[r]?:=fun i=>by
  have:=DF xs.toArray order.toList (fun r hr=>by rw[eP,hn];have:=hmem r hr;omega) i
  simpa only[List.getElem?_toArray] using this
 have mem:∀p,p∈(order.toList.filterMap fun r=>xs[r]?)↔p∈xs:=fun p=>by
  rw[iU]
  constructor
  ·rintro⟨r,_,e⟩;exact dw e
  ·intro hp
   obtain⟨r,hr⟩:=fM hp
   have hrl:r<es.size:=by rw[hsz,←hn];exact(eB.mp hr).1
   obtain⟨i,hi⟩:=q8 r hrl
   exact⟨r,dw (i:=i) (by simpa using hi),hr⟩
 have hesx:∀i:Nat,es[i]?=(xs[i]?).map fun p=> ((tk prog w).hash p.1,Value.ref p.2):=fun i=>by
  have:es[i]?=es.toList[i]?:=by simp
  rw[this,hes,Oy,c9]
 refine h _ (order.toList.filterMap fun r=>xs[r]?) (jz ..) ⟨_,es',ep+1,t',⟨Ij hg hd es' t',he,rfl,?_,fun i k x e=>?_,?_,?_,?_,?_,?_⟩⟩ mem (by rw[hfx,hsz,hn])
 ·apply gI
  intro i
  rw[hfm,DF es _ hmem,Oy,c9,at_]
  cases order.toList[i]? with
  |none=>rfl
  |some r=>exact hesx r
 ·have hp:(k,x)∈xs:=(mem _).mp (dw e)
  obtain⟨r,hr⟩:=fM hp
  have ik:=hkey r k x hr
  exact DG ik fun u hu=> ((jz s.heap a (lQ es' t')).2 x (QV ik hg he)).trans hu
 ·rw[jV]
  refine fF.mpr fun i j hi hj hij e=>?_
  rw[b6] at hi hj
  have e1:=at_ i
  have e2:=at_ j
  rw[dt hi] at e1
  rw[dt hj] at e2
  rw[kU,kU] at e
  cases r1:order.toList[i]? with
  |none=>rw[r1] at e1;cases e1
  |some r=>
   cases r2:order.toList[j]? with
   |none=>rw[r2] at e2;cases e2
   |some r'=>
    rw[r1] at e1
    rw[r2] at e2
    have e1:xs[r]?=some _:=e1.symm
    have e2:xs[r']?=some _:=e2.symm
    obtain⟨l1,g1⟩:=eB.mp e1
    obtain⟨l2,g2⟩:=eB.mp e2
    have ee:(xs.map (·.1))[r]'(by simpa using l1)=(xs.map (·.1))[r']'(by simpa using l2):=by rw[kU,kU,g1,g2];exact e
    have nd:=jV.mp hnd
    have:r=r':=by
     rcases iu r r' with hlt|heq|hgt
     ·exact absurd ee (fF.mp nd r r' _ _ hlt)
     ·exact heq
     ·exact absurd ee.symm (fF.mp nd r' r _ _ hgt)
    subst this
    have:=q7 i j r (by simpa using r1) (by simpa using r2)
    omega
 ·have:(order.toList.filterMap fun r=>xs[r]?).map (fun p=> (tk prog w).hash p.1)=order.toList.map fun r=> (es.map (·.1)).getD r 0:=by
   apply gI
   intro i
   rw[c9,at_,c9]
   cases hr:order.toList[i]? with
   |none=>rfl
   |some r=>
    have hrl:=hmem r (dw hr)
    obtain⟨p,hp⟩:=hxs r hrl
    show(xs[r]?).map _=some ((es.map (·.1)).getD r 0)
    rw[hp]
    have e3:=hesx r
    rw[hp] at e3
    obtain⟨l,g⟩:=fT.mp e3
    simp[lS,hrl,g]
  rw[this]
  exact q9
 ·rw[q3];exact hpl
 ·rw[hfx,hsz,q1];exact m3
 ·rw[q2];exact hled
end
end StT
namespace StT
local macro_rules | `(tactic| omega) => `(tactic| first | lia | omega)
open PySem PySem.SetTable PyProof.Rows
section
variable{prog:Program}{w:World}{A:eU}{E:Value→a9→Prop}{s:a9}
variable{a:Addr}{xs:List (List Int×Addr)}{o:Obj}{es:Array (Int×Value)}{ep:Nat}{t:gB}
theorem Wm(S:SetX prog w s.heap a xs)(hu:A.units<cLine){k:List Int}{x:Addr}(hk:IK prog w s.heap k x)(hl:xs.length<300){Q:Bool→a9→Prop}
  (hT:∀y,(k,y)∈xs→Q false s)
  (hF:(∀y,(k,y)∉xs)→∀h' xs',iI a s.heap h'→SetX prog w h' a xs'→(∀p,p∈xs'↔p∈xs∨p=(k,x))→xs'.length=xs.length+1→Q true {s with heap:=h'}):
  wpAny (model prog w) A (setAddHashed a (.ref x) ((tk prog w).hash k)) Q E s:=by
 obtain⟨o,es,ep,t,S⟩:=S
 unfold setAddHashed setAddHashedIn
 refine fI (a7 (gX S.get S.dat S.fits ?_))
 dsimp only
 have hbs:byScan (.ref x) es=false:=rfl
 rw[hbs]
 simp only[e9,if_false]
 obtain⟨e,he,hne⟩:=S.tb.room S.len
 obtain⟨N,hN,eN⟩:=VH S.tb.mask (Pr.start t.mask ((tk prog w).hash k)) he
 have hm511:t.mask≤511:=by rcases S.tb.mask with h|h|h|h<;>omega
 refine a7 (LB S hu hk (fun i y e=>?_) (fun hno n hf hw=>?_) 100000 0 none (QS t _) (fun c hc=>absurd hc (jM _)) ⟨N,fB _,by rw[eN];exact hne,by omega⟩)
 ·dsimp only
  exact b9 (hT y (dw e))
 ·dsimp only
  refine a7 (gX S.get S.dat S.fits ?_)
  dsimp only
  obtain⟨p1,p2,p3,p4,p5,p6⟩:=S.tb.put hf hw
  generalize hJ:(advN t.mask n (start t.mask ((tk prog w).hash k))).j=J at*
  generalize hput:t.put J=tp at*
  obtain⟨t1,q⟩:=tp
  dsimp only at p1 p2 p3 p4 p5 p6 ⊢
  rw[b6] at p2
  rw[p4,S.pl]
  simp only[if_true]
  refine a7 (ZK hk ?_)
  simp only[if_true]
  refine a7 (wpAny_storeSet_of S.get S.dat ?_ (by
   rw[Dy _ _ _ (by rw[S.size];exact p2),S.size,gC];omega))
  have hes1:(iP es q ((tk prog w).hash k,.ref x)).toList=Oy (xs.take q++(k,x)::xs.drop q) prog w:=by
   rw[BR,S.es]
   simp[Oy]
  have hmem:∀p,p∈xs.take q++(k,x)::xs.drop q↔p∈xs∨p=(k,x):=fun p=>by
   rw[eO,eJ]
   constructor
   ·rintro(h|h|h)
    ·exact .inl (jW h)
    ·exact .inr h
    ·exact .inl (k8 h)
   ·rintro(h|h)
    ·rw[←gW q xs] at h
     rcases eO.mp h with h|h
     ·exact .inl h
     ·exact .inr (.inr h)
    ·exact .inr (.inl h)
  have hlen:(xs.take q++(k,x)::xs.drop q).length=xs.length+1:=by
   rw[eK,eD,fk,gi];omega
  have hnod:((xs.take q++(k,x)::xs.drop q).map (·.1)).Nodup:=by
   have hxs:(xs.take q).map (·.1)++(xs.drop q).map (·.1)=xs.map (·.1):=by rw[←fj,gW]
   have nd:=S.nd
   rw[←hxs] at nd
   rw[fj,eT]
   have hkn:k∉(xs.take q).map (·.1)++(xs.drop q).map (·.1):=by
    rw[hxs]
    intro hm
    obtain⟨⟨k',y⟩,hp,rfl⟩:=eQ.mp hm
    obtain⟨i,hi⟩:=fM hp
    exact hno i y hi
   rw[eO,not_or] at hkn
   obtain⟨n1,n2,n3⟩:=fX.mp nd
   refine fX.mpr ⟨n1,fu.mpr ⟨hkn.2,n2⟩,fun b hb c hc=>?_⟩
   rcases eJ.mp hc with rfl|hc
   ·rintro rfl;exact hkn.1 hb
   ·exact n3 b hb c hc
  have hsb:=jz s.heap a (lQ (iP es q ((tk prog w).hash k,.ref x)) t1)
  have hg1:=Ij (s:=s) S.get S.dat (iP es q ((tk prog w).hash k,.ref x)) t1
  have hkey1:∀(i:Nat) (k':List Int) (x':Addr),(xs.take q++(k,x)::xs.drop q)[i]?=some (k',x')→IK prog w (s.heap.update a (lQ (iP es q ((tk prog w).hash k,.ref x)) t1)) k' x':=fun i k' x' e=>by
   have ik:IK prog w s.heap k' x':=by
    rcases(hmem _).mp (dw e) with h|h
    ·obtain⟨j,hj⟩:=fM h
     exact S.key j k' x' hj
    ·cases h;exact hk
   exact DG ik fun u hu=> (hsb.2 x' (QV ik S.get S.ex)).trans hu
  have htb1:Tb t1 ((xs.take q++(k,x)::xs.drop q).map fun p=> (tk prog w).hash p.1):=by
   simpa using p1
  have hno':∀y,(k,y)∉xs:=fun y hy=>by
   obtain⟨i,hi⟩:=fM hy
   exact hno i y hi
  have hfill:t1.fill=xs.length+1:=by
   unfold nK
   rw[htb1.dum]
   have:=htb1.size
   rw[b6,hlen] at this
   rw[this];rfl
  have hroom:=S.room
  simp only[nu,jw]
  cases htf:t1.tooFull with
  |true=>
   simp only[if_true]
   have htf':t1.mask*3≤(xs.length+1)*5:=by
    unfold gB.tooFull at htf
    rw[hfill] at htf
    simpa using htf
   rw[S.size]
   refine a7 (QW (s:={s with heap:=s.heap.update a (lQ (iP es q ((tk prog w).hash k,.ref x)) t1)}) hg1 S.ex rfl hes1 hkey1 hnod htb1 (by rw[p4];exact S.pl) (by rw[p5];exact S.led) hlen (by rw[p3];exact hroom) htf' hl fun h' xs' sb sx mm ll=>?_)
   refine b9 (hF hno' h' xs' (hsb.trans sb) sx (fun p=> (mm p).trans (hmem p)) (ll.trans hlen))
  |false=>
   simp only[e9,if_false]
   refine b9 (hF hno' _ _ hsb ⟨_,_,_,t1,hg1,S.ex,rfl,hes1,hkey1,hnod,htb1,by rw[p4];exact S.pl,?_,by rw[p5];exact S.led⟩ hmem hlen)
   unfold gB.tooFull at htf
   rw[hfill] at htf
   rw[hlen]
   simpa using htf
def Jf(ks:List (List Int×Addr))(xs:List (List Int×Addr)):Prop:=(∀p,p∈xs→p∈ks)∧(∀k y,(k,y)∈ks→∃y',(k,y')∈xs)∧xs.length≤ks.length
theorem SetX.keep'{h h':Heap}(S:SetX prog w h a xs)(ha:∀u,h.get? a=some u→h'.get? a=some u)(hk:∀k x,(k,x)∈xs→∀u,h.get? x=some u→h'.get? x=some u):SetX prog w h' a xs:=by
 obtain⟨o,es,ep,t,S⟩:=S
 exact⟨o,es,ep,t,ha _ S.get,S.ex,S.dat,S.es,fun i k x e=>DG (S.key i k x e) (hk k x (dw e)),S.nd,S.tb,S.pl,S.room,S.led⟩
theorem Td{I l:Addr}{items:Array Value}{ps:List (List Int×Addr)}(hh:A.in1.handled=none)(hne:l≠I)(hI:a≠I)(hla:a≠l)(hps:items.toList=ps.map fun p=>Value.ref p.2)(hz:ps.length≤300)(hu:A.units+1<cLine)
  {R:ow→a9→Prop}:∀(n i:Nat) (s:a9) (xs:List (List Int×Addr)),n=ps.length-i→i≤ps.length→s.heap.IsListIter I l i→s.heap.IsList l items→(∀k x,(k,x)∈ps→IK prog w s.heap k x∧x≠I)→SetX prog w s.heap a xs→Jf (ps.take i) xs→
   (∀h' tk' xs',(∀b u,b≠a→b≠I→s.heap.get? b=some u→h'.get? b=some u)→SetX prog w h' a xs'→Jf ps xs'→R (.ok (.ret .none)) {s with heap:=h',toks:=tk'})→
   j1 (model prog w) A (.builtin "set.update.loop" ⟨[.ref a,.ref I],[]⟩) R s:=by
 have W:=Walks.list (A:=A.in1) (prog:=prog) (w:=w) hh I l hne items
 have hsz:items.size=ps.length:=by rw[←eG,hps,b6]
 intro n
 induction n with
 |zero=>
  intro i s xs hn hi hit hl hp hX hS hR
  have:i=ps.length:=by omega
  subst this
  rw[fR] at hS
  refine i6 PyProof.Rows.F.entry_set_update_loop ?_
  rw[iY ip _]
  show wpAny _ A.in1 (ki (.ref I)>>=_) _ _ s
  refine a7 (wpAny_pyNext_list_end hh hit hl (by simp[hsz]) fun h' hk=>?_)
  show wpAny _ A.in1 (ret iS) _ _ _
  refine b9 (hR h' s.toks xs (fun b u _ hb e=>hk b u hb e) (hX.keep' (fun u e=>hk a u hI e) fun k x hx u e=>hk x u (hp k x (hS.1 _ hx)).2 e) hS)
 |succ n ih=>
  intro i s xs hn hi hit hl hp hX hS hR
  have hlt:i<ps.length:=by omega
  obtain⟨⟨k,x⟩,hkx⟩:∃p,ps[i]?=some p:=⟨_,by simp[hlt];rfl⟩
  have hitem:items[i]?=some (.ref x):=by
   have:items[i]?=items.toList[i]?:=by simp
   rw[this,hps,c9,hkx];rfl
  refine i6 PyProof.Rows.F.entry_set_update_loop ?_
  rw[iY ip _]
  show wpAny _ A.in1 (ki (.ref I)>>=_) _ _ s
  refine a7 (wpAny_pyNext_list_item hit hl hitem fun h1 hit1 sb1=>?_)
  have hk1:∀b u,b≠I→s.heap.get? b=some u→h1.get? b=some u:=fun b u hb e=> (sb1.2 b hb).trans e
  have kx:=hp k x (dw hkx)
  have hX1:SetX prog w h1 a xs:=hX.keep' (fun u e=>hk1 a u hI e) fun k x hx u e=>hk1 x u (hp k x (jW (hS.1 _ hx))).2 e
  have ik1:∀k x,(k,x)∈ps→IK prog w h1 k x∧x≠I:=fun k x hx=> ⟨DG (hp k x hx).1 fun u e=>hk1 x u (hp k x hx).2 e,(hp k x hx).2⟩
  have hl1:h1.IsList l items:=hl.at fun o e=>hk1 l o hne e
  show wpAny _ A.in1 (holding [Value.ref x] (setAdd a (.ref x))>>=_) _ _ _
  refine a7 (fI ?_)
  unfold setAdd
  refine fI ?_
  refine a7 ((tk prog w).pyHash (s:={s with heap:=h1}) hu (ik1 k x (dw hkx)).1 ?_)
  have htake:ps.take (i+1)=ps.take i++[(k,x)]:=by rw[fQ,hkx];rfl
  have hlen:xs.length≤i:=by have:=hS.2.2;rw[fk] at this;omega
  refine Wm (s:={s with heap:=h1,toks:=s.toks+(tk prog w).draws k}) hX1 hu (ik1 k x (dw hkx)).1 (by omega) (fun y hy=>?_) (fun hno h2 xs' sb sx mm ll=>?_)
  ·refine b9 ⟨jN ip _,ih (i+1) _ xs (by omega) (by omega) hit1 hl1 ik1 hX1 ⟨fun p hp'=>by rw[htake];exact gK _ (hS.1 p hp'),fun k' y' hm=>?_,by rw[htake,eK];have:=hS.2.2;omega⟩ fun h' tk' xs' kp sx so=>hR h' tk' xs' (fun b u h1' h2' e=>kp b u h1' h2' (hk1 b u h2' e)) sx so⟩
   rw[htake] at hm
   rcases eO.mp hm with hm|hm
   ·exact hS.2.1 k' y' hm
   ·cases dr.mp hm
    exact⟨y,hy⟩
  ·have keep2:∀b u,b≠a→h1.get? b=some u→h2.get? b=some u:=fun b u hb e=> (sb.2 b hb).trans e
   have nea:∀k x,(k,x)∈ps→x≠a:=fun k x hx=>by
    obtain⟨o,es,ep,t,S⟩:=hX1
    exact QV (ik1 k x hx).1 S.get S.ex
   refine b9 ⟨jN ip _,ih (i+1) {s with heap:=h2,toks:=s.toks+(tk prog w).draws k} xs' (by omega) (by omega) (hit1.at fun o e=>keep2 I o (Ne.symm hI) e) (hl1.at fun o e=>keep2 l o (Ne.symm hla) e)
    (fun k x hx=> ⟨DG (ik1 k x hx).1 fun u e=>keep2 x u (nea k x hx) e,(hp k x hx).2⟩) sx ⟨fun p hp'=>?_,fun k' y' hm=>?_,by rw[htake,eK,ll];have:=hS.2.2;simp;omega⟩ fun h' tk' xs2 kp sx so=>hR h' tk' xs2 (fun b u h1' h2' e=>kp b u h1' h2' (keep2 b u h1' (hk1 b u h2' e))) sx so⟩
   ·rw[htake]
    rcases(mm p).mp hp' with h|h
    ·exact gK _ (hS.1 p h)
    ·exact fP _ (dr.mpr h)
   ·rw[htake] at hm
    rcases eO.mp hm with hm|hm
    ·obtain⟨y2,hy2⟩:=hS.2.1 k' y' hm
     exact⟨y2,(mm _).mpr (.inl hy2)⟩
    ·cases dr.mp hm
     exact⟨x,(mm _).mpr (.inr rfl)⟩
end
end StT
namespace StT
open PySem PySem.SetTable PyProof.Rows
theorem Ao:Slot "set_iterator" "__next__" "set_iterator.__next__" :=
 .of (owner:="set_iterator") (n:="__next__") (by rw[typeLookup_type,builtinLookup_eq_fast];kernel_rfl) (by decide+kernel) (by decide+kernel) (by decide+kernel)
  (by first|exact .inl (by decide+kernel)|exact .inr (by decide+kernel)) (by rw[kB];kernel_rfl)
theorem DQ:Slot "set_iterator" "__iter__" "set_iterator.__iter__" :=
 .of (owner:="set_iterator") (n:="__iter__") (by rw[typeLookup_type,builtinLookup_eq_fast];kernel_rfl) (by decide+kernel) (by decide+kernel) (by decide+kernel)
  (by first|exact .inl (by decide+kernel)|exact .inr (by decide+kernel)) (by rw[kB];kernel_rfl)
theorem Cu:entryFor table "set_iterator.__next__" =some Builtin.«set_iterator.__next__»:=entryFor_of_tree (by kernel_rfl)
theorem FR:entryFor table "set_iterator.__iter__" =some Builtin.«dict_keyiterator.__iter__»:=
 entryFor_alias (id':="dict_keyiterator.__iter__") (by kernel_rfl) (by first|rfl|decide+kernel| (unfold String.splitOn;simp+decide [String.splitOnAux])) (by decide+kernel) (by kernel_rfl)
theorem HF:entryFor table "set.__iter__" =some Builtin.«frozenset.__iter__»:=
 entryFor_alias (id':="frozenset.__iter__") (by kernel_rfl) (by first|rfl|decide+kernel| (unfold String.splitOn;simp+decide [String.splitOnAux])) (by decide+kernel) (by kernel_rfl)
theorem Fu:Manifest.owners.lookup (String.ofList ['r','o','t','a','r','e','t','i','_','t','e','s'].reverse)=some Manifest.sig_set_iterator:=by kernel_rfl
theorem DR(a:Value):argsOk "set_iterator.__next__" ⟨[a],[]⟩:=by
 unfold argsOk;rw[signature?_of (id:="set_iterator.__next__") (n:=['_','_','t','x','e','n','_','_']) (o:=['r','o','t','a','r','e','t','i','_','t','e','s']) (by kernel_rfl) Fu];kernel_rfl
theorem GI(a:Value):argsOk "set_iterator.__iter__" ⟨[a],[]⟩:=by
 unfold argsOk;rw[signature?_of (id:="set_iterator.__iter__") (n:=['_','_','r','e','t','i','_','_']) (o:=['r','o','t','a','r','e','t','i','_','t','e','s']) (by kernel_rfl) Fu];kernel_rfl
theorem NW{α:Type}:∀(l:List α) (i:Nat) (h:i<l.length),(l[i]::l.eraseIdx i).Perm l
 |x::l,0,_=>jc.refl _
 |x::l,i+1,h=>by
  have ih:=NW l i (by simpa using h)
  simp only[List.getElem_cons_succ,List.eraseIdx_cons_succ]
  exact(jc.swap _ _ _).trans (ih.cons x)
theorem NX{α:Type}(next:Nat→Nat):∀(n k:Nat) (left:List α) (out:Array α),left.length=n→(nV next n k left out).toList.Perm (out.toList++left)
 |0,k,left,out,h=>by
  have:left=[]:=jC.mp h
  subst this
  simp[nV]
 |n+1,k,left,out,h=>by
  have hlt:next k%left.length<left.length:=nU _ (by omega)
  have e:left[next k%left.length]?=some left[next k%left.length]:=by simp[hlt]
  rw[nV,e]
  have ih:=NX next n (k+1) (left.eraseIdx (next k%left.length)) (out.push left[next k%left.length]) (by rw[List.length_eraseIdx_of_lt hlt];omega)
  refine ih.trans ?_
  rw[jo,gk]
  exact jc.append_left _ (NW left _ hlt)
theorem Oz{α:Type}(next:Nat→Nat)(xs:Array α):(lH next xs).toList.Perm xs.toList:=by
 have:=NX next xs.size 0 xs.toList #[] (by simp)
 simp only[mT] at this
 exact this
def EF(w:World)(a:Addr)(ep:Nat)(es:Array (Int×Value)):Array (Int×Value):=if w.params.followText "set-order" =true then lH (w.params.setOrder a ep) es else es
theorem Ik(w:World)(a:Addr)(ep:Nat)(es:Array (Int×Value)):(EF w a ep es).toList.Perm es.toList:=by
 unfold EF
 split
 ·exact Oz _ _
 ·exact jc.refl _
theorem FS(w:World)(a:Addr)(ep:Nat)(es:Array (Int×Value)):(EF w a ep es).size=es.size:=by
 rw[←eG,←eG];exact(Ik w a ep es).length_eq
theorem MX{xs:Array Nat}(r:QR xs){i:Nat}(hi:i≤xs.size){slot:Nat}(hs:(i=0∧slot=0)∨(0<i∧∃j,xs[i-1]?=some j∧slot=j+1)):below xs slot=i:=by
 obtain⟨b1,b2,b3⟩:=DE (j:=slot) r
 rcases hs with⟨rfl,rfl⟩| ⟨h0,j,hj,rfl⟩
 ·apply il
  intro hne
  have h0:0<xs.size:=by omega
  have:=b2 0 xs[0] (by omega) (by simp[h0])
  omega
 ·have hlt:i-1<xs.size:=(fT.mp hj).1
  rcases iu (below xs (j+1)) i with hl|he|hg
  ·have hx:xs[below xs (j+1)]?=some xs[below xs (j+1)]:=by simp[show below xs (j+1)<xs.size by omega]
   have h1:=b3 _ _ (dv _) hx
   by_cases hq:below xs (j+1)=i-1
   ·have hx2:xs[below xs (j+1)]?=some j:=by rw[hq];exact hj
    have:=gc.inj (hx.symm.trans hx2)
    omega
   ·have:=Gy r hx hj (by omega)
    omega
  ·exact he
  ·have hx:xs[i]?=some xs[i]:=by simp[show i<xs.size by omega]
   have h1:=b2 i _ hg hx
   have:=Gy r hj hx (by omega)
   omega
section
variable{prog:Program}{w:World}{A:eU}{E:Value→a9→Prop}{s:a9}
variable{a:Addr}{xs:List (List Int×Addr)}{o:Obj}{es:Array (Int×Value)}{ep:Nat}{t:gB}
def Cv(w:World)(h:Heap)(I a:Addr)(t:gB)(ep n i:Nat):Prop:=∃slot:Nat,h.get? I=some {cls:=.type "set_iterator",dict:=none,data:=.fields #[kA slot,kA i,.ref a,kA n,kA ep],slots:=#[]}∧
 (w.params.followText "set-order" =false→(i=0∧slot=0)∨(0<i∧∃j,t.place[i-1]?=some j∧slot=j+1))
theorem HG(hg:s.heap.get? a=some o)(hd:o.data=.set es ep t)(hf:t.fits es.size=true)(hr:QR t.place)(hpl:t.plain=true)(hled:t.led=!w.params.followText "set-order"){i slot:Nat}(hi:i≤es.size)
  (hs:w.params.followText "set-order" =false→(i=0∧slot=0)∨(0<i∧∃j,t.place[i-1]?=some j∧slot=j+1)) {Q:Option (Value×Nat)→a9→Prop}
  (hsome:∀e slot',(EF w a ep es)[i]?=some e→(w.params.followText "set-order" =false→∃j,t.place[i]?=some j∧slot'=j+1)→Q (some (e.2,slot')) s) (hnone:i=es.size→Q none s):wpAny (model prog w) A (setNext a slot i ep) Q E s:=by
 have hps:t.place.size=es.size:=by
  simp only[gB.fits,fx,beq_iff_eq] at hf
  exact hf.1
 have ask:∀{R:Bool→a9→Prop},R (w.params.followText "set-order") s→wpAny (model prog w) A setsByText R E s:=fun h=>a7 (kP (b9 h))
 unfold setNext
 refine a7 (gX hg hd hf ?_)
 dsimp only
 refine a7 (ask ?_)
 cases hb:w.params.followText "set-order" with
 |true=>
  simp only[if_true]
  rw[if_neg (by simp)]
  refine a7 ?_
  unfold setWalk
  refine a7 (gX hg hd hf ?_)
  dsimp only
  refine a7 (ask ?_)
  rw[hb]
  simp only[if_true]
  refine a7 (kP (b9 ?_))
  refine b9 ?_
  have ho:EF w a ep es=lH (w.params.setOrder a ep) es:=by unfold EF;rw[if_pos hb]
  show Q (((lH (w.params.setOrder a ep) es)[i]?).map fun e=> (e.2,slot)) s
  rw[←ho]
  cases he:(EF w a ep es)[i]? with
  |some e=>exact hsome e slot he fun z=>by rw[hb] at z;cases z
  |none=>
   refine hnone ?_
   have:=Array.getElem?_eq_none_iff.mp he
   rw[FS] at this
   omega
 |false=>
  rw[hb] at hled
  simp only[e9,if_false]
  have hdr:(!t.plain&&decide (es.size>1))=false:=by rw[hpl];rfl
  show wpAny _ _ (if(!t.plain&&decide (es.size>1))=true then _ else _) _ _ s
  rw[hdr]
  simp only[e9,if_false]
  refine a7 ?_
  show wpAny _ _ (if(!t.led&&!es.isEmpty)=true then _ else pure ()) _ _ s
  rw[hled]
  simp only[nu,kc,Bool.false_and,e9,if_false]
  refine b9 ?_
  rw[MX hr (by omega) (hs hb)]
  have ho:EF w a ep es=es:=by unfold EF;rw[if_neg (by rw[hb];decide)]
  by_cases hlt:i<es.size
  ·have e1:es[i]?=some es[i]:=by simp[hlt]
   have e2:t.place[i]?=some (t.place[i]'(by omega)):=by simp[show i<t.place.size by omega]
   rw[e1,e2]
   exact b9 (hsome es[i] _ (by rw[ho];exact e1) fun _=> ⟨_,e2,rfl⟩)
  ·have e1:es[i]?=none:=by simp;omega
   rw[e1]
   exact b9 (hnone (by omega))
end
section
variable{prog:Program}{w:World}{A:eU}{E:Value→a9→Prop}{s:a9}
variable{a I:Addr}{xs:List (List Int×Addr)}{o:Obj}{es:Array (Int×Value)}{ep:Nat}{t:gB}
structure Wk(w:World)(o:Obj)(es:Array (Int×Value))(ep:Nat)(t:gB):Prop where
 cls:o.cls=.type "set"
 dat:o.data=.set es ep t
 fits:t.fits es.size=true
 ris:QR t.place
 pl:t.plain=true
 led:t.led=!w.params.followText "set-order"
theorem SetD.wk(S:SetD prog w s.heap a xs o es ep t):Wk w o es ep t:=⟨S.ex.1,S.dat,S.fits,S.tb.ris,S.pl,S.led⟩
theorem Cj(K:Wk w o es ep t)(hg:s.heap.get? a=some o){Q:Array (Int×Value)→a9→Prop}(h:Q es s):wpAny (model prog w) A (nR a) Q E s:=by
 unfold nR
 exact a7 (gX hg K.dat K.fits (b9 h))
theorem FT(K:Wk w o es ep t)(hg:s.heap.get? a=some o)(hne:a≠I){i:Nat}(hi:i<es.size)(it:Cv w s.heap I a t ep es.size i){Q:Option Value→a9→Prop}
  (hQ:∀e h',(EF w a ep es)[i]?=some e→Cv w h' I a t ep es.size (i+1)→iI I s.heap h'→Q (some e.2) {s with heap:=h'}):wpAny (model prog w) A (ki (.ref I)) Q E s:=by
 obtain⟨slot,ho,hsl⟩:=it
 have hT:s.TypeIs (.ref I) "set_iterator":=⟨_,ho,rfl⟩
 unfold ki
 refine a7 (jq (gu (name:=jm "__next__") hT Ao (gz Ao hT Cu ?_ (DR _))))
 refine a7 (b9 ?_)
 refine a7 (wpAny_fieldsOf ho rfl ?_)
 show wpAny _ _ (nR a>>=_) _ _ s
 refine a7 (Cj K hg ?_)
 rw[if_neg (by simp)]
 show wpAny _ _ (setNext a ((slot:Int).toNat) ((i:Int).toNat) ((ep:Int).toNat)>>=_) _ _ s
 simp only[fg]
 refine a7 (HG hg K.dat K.fits K.ris K.pl K.led (iC hi) hsl (fun e slot' he hs'=>?_) fun z=>by omega)
 dsimp only
 refine a7 (hV ho (by simp) fun h1 ho1 hs1=>?_)
 refine a7 (hV (s:={s with heap:=h1}) ho1 (by simp) fun h2 ho2 hs2=>?_)
 refine b9 ⟨_,rfl,b9 (hQ e h2 he ⟨slot',?_,fun hb=> .inr ⟨lD _,?_⟩⟩ (hs1.trans hs2))⟩
 ·simpa using ho2
 ·simpa using hs' hb
theorem HH(K:Wk w o es ep t)(hh:A.handled=none)(hg:s.heap.get? a=some o)(hne:a≠I)(it:Cv w s.heap I a t ep es.size es.size){Q:Option Value→a9→Prop}
  (hQ:∀h',nr I s.heap h'→Q none {s with heap:=h'}):wpAny (model prog w) A (ki (.ref I)) Q E s:=by
 obtain⟨slot,ho,hsl⟩:=it
 have hT:s.TypeIs (.ref I) "set_iterator":=⟨_,ho,rfl⟩
 unfold ki
 refine a7 (jq (gu (name:=jm "__next__") hT Ao (gz Ao hT Cu ?_ (DR _))))
 refine a7 (b9 ?_)
 refine a7 (wpAny_fieldsOf ho rfl ?_)
 show wpAny _ _ (nR a>>=_) _ _ s
 refine a7 (Cj K hg ?_)
 rw[if_neg (by simp)]
 show wpAny _ _ (setNext a ((slot:Int).toNat) ((es.size:Int).toNat) ((ep:Int).toNat)>>=_) _ _ s
 simp only[fg]
 refine a7 (HG hg K.dat K.fits K.ris K.pl K.led (dv _) hsl (fun e slot' he hs'=>?_) fun z=>?_)
 ·have:=(fT.mp he).1
  rw[FS] at this
  omega
 dsimp only
 refine a7 (hV ho (by simp) fun h1 ho1 hs1=>?_)
 show wpAny _ _ (newExc (.type "StopIteration") []>>=_) _ _ _
 refine a7 ?_
 simp only[newExc,newTuple]
 refine a7 (fV ?_ (by size_fits))
 refine a7 (m:=lL _ _) (kZ (a:=iS) (by first|rfl| (simp only[lL];rfl)) ?_)
 refine fV ?_ (by size_fits)
 simp only[raiseNew]
 refine a7 (wpAny_handled ?_)
 rw[show A.in1.handled=none from hh]
 refine a7 (b9 (wpAny_throw ?_))
 refine a7 (mj (T:="StopIteration") (b:=true) ⟨_,eS _ rfl,rfl⟩ isSubtype_stop ?_)
 exact b9 (hQ _ ((hs1.extBut.push _).push _))
theorem PB{n i:Nat}(it:Cv w s.heap I a t ep n i){Q:Value→a9→Prop}(h:Q (.ref I) s):wpAny (model prog w) A (mX (.ref I)) Q E s:=by
 obtain⟨slot,ho,_⟩:=it
 have hT:s.TypeIs (.ref I) "set_iterator":=⟨_,ho,rfl⟩
 refine wpAny_pyIter_slot hT DQ (gz DQ hT FR ?_ (GI _))
 show wpAny _ _ (ret (.ref I)) _ _ s
 exact b9 ⟨_,rfl,"set_iterator",_,hT,Ao.lookup,h⟩
theorem QX(K:Wk w o es ep t)(hg:s.heap.get? a=some o){Q:Value→a9→Prop}
  (h:Q (.ref s.heap.objs.size) {s with heap:=s.heap.push {cls:=.type "set_iterator",data:=.fields #[kA 0,kA 0,.ref a,kA es.size,kA ep]}}):wpAny (model prog w) A (mX (.ref a)) Q E s:=by
 have hT:s.TypeIs (.ref a) "set":=⟨_,hg,K.cls⟩
 have ask:∀{A:eU} {E:Value→a9→Prop} {R:Bool→a9→Prop},R (w.params.followText "set-order") s→wpAny (model prog w) A setsByText R E s:=fun h=>a7 (kP (b9 h))
 refine wpAny_pyIter_slot hT PySem.F.slot_set_iter (gz PySem.F.slot_set_iter hT HF ?_ (PySem.F.args_set_iter_1 _))
 unfold Builtin.«frozenset.__iter__»
 refine a7 (a7 (b9 (b9 ?_)))
 refine a7 (a7 (Cj K hg (b9 ?_)))
 refine a7 ?_
 unfold setDrawn
 refine a7 (gX hg K.dat K.fits ?_)
 dsimp only
 refine a7 (ask (b9 ?_))
 have hdr:(!w.params.followText "set-order" &&(!t.plain&&decide (es.size>1)))=false:=by rw[K.pl];simp
 show wpAny _ _ (if(!w.params.followText "set-order" &&(!t.plain&&decide (es.size>1)))=true then _ else _) _ _ s
 rw[hdr]
 simp only[e9,if_false]
 refine a7 (b9 ?_)
 refine a7 (wpAny_setEpoch_of hg K.dat K.fits ?_)
 refine a7 ?_
 unfold newFields
 refine fV ?_
 refine b9 ⟨_,rfl,"set_iterator",_,⟨_,eS _ rfl,rfl⟩,Ao.lookup,h⟩
theorem PC(K:Wk w o es ep t)(hh:A.handled=none)(hne:a≠I):Walks prog w A I [I,a] [I] es.size (fun i v=>∃h,(EF w a ep es)[i]?=some (h,v)) (fun i h=>Cv w h I a t ep es.size i∧h.get? a=some o) where
 sub:=fun b hb=>by simp at hb;simp[hb]
 frame:=fun i h h' st hk=>by
  obtain⟨⟨slot,h1,h2⟩,h3⟩:=st
  exact⟨⟨slot,hk I (by simp) _ h1,h2⟩,hk a (by simp) _ h3⟩
 item:=fun i s Q E hi st hQ=>FT K st.2 hne hi st.1 fun e h' he it' sb=>hQ e.2 h' s.toks ⟨e.1,he⟩ ⟨it',(sb.2 a hne).trans st.2⟩ fun b o hb e=> (sb.2 b (fun z=>hb (by simp[z]))).trans e
 done:=fun s Q E st hQ=>HH K hh st.2 hne st.1 fun h' he=>hQ h' s.toks fun b o hb e=>he b o (fun z=>hb (by simp[z])) e
 self:=fun i s Q E st hQ=>PB st.1 hQ
theorem QY{r:Addr}{Q:Bool→a9→Prop}(hT:s.TypeIs (.ref r) "set")(h:Q false s):wpAny (model prog w) A (Builtin.List.listLengthHint (.ref r)) Q E s:=by
 unfold Builtin.List.listLengthHint
 refine a7 (wpAny_specialOf hT PySem.F.slot_set_len.lookup ?_)
 generalize hid:("set.__len__" :String)=id0
 wp_delta
 rw[show splitId id0=some ("set","__len__") from by subst hid;decide+kernel]
 subst hid
 refine a7 (mj (T:="set") (b:=true) hT (by rw[kB];kernel_rfl) ?_)
 refine wpAny_ite_split (fun hab=>absurd hab (by decide)) (fun _=>?_)
 refine wpAny_ite_split (fun _=>?_) (fun hab=>absurd (by decide+kernel) hab)
 refine a7 (ky hT ?_)
 exact b9 h
theorem Te(K:Wk w o es ep t):PySem.W.KdlSrc prog w "set" a a es.size (fun i v=>∃h,(EF w a ep es)[i]?=some (h,v)) (fun h=>h.get? a=some o) where
 type:=fun _ hm=> ⟨_,hm,K.cls⟩
 there:=fun _ hm=> ⟨eM hm,eM hm⟩
 keep:=fun _ _ hm hk=>hk a (.inl rfl) _ hm
 notList:=by decide
 notTuple:=by decide
 hint:=fun _ _ _ _ hm hq=>QY ⟨_,hm,K.cls⟩ hq
 iter:=fun A s hh hm=> ⟨_,_,(fun _ _ hq=>QX K hm hq),PC K hh (fb (eM hm)),⟨⟨0,eS _ rfl,fun _=> .inl ⟨rfl,rfl⟩⟩,dm _ hm⟩⟩
end
end StT
namespace SrtG
open PySem PyProof.Rows
def NY:Bool→Keyed→Array Keyed→Nat→Nat→Nat→StateT SortSt Sem (Option Nat):=sortPriv%PySem.Builtin.gallop
def Aj(left:Bool)(key:Keyed)(arr:Array Keyed)(base i:Nat):StateT fH Sem (Option Bool):=do
 let x←elem' arr (base+i)
 if left then lt' x key else return(←lt' key x).map (!·)
section
variable{prog:Program}{w:World}{A:eU}{E:Value→a9→Prop}{s:a9}
def Pp(prog:Program)(w:World)(A:eU)(E:Value→a9→Prop)(s:a9)(kd:jU)(U:Keyed→Prop)(rk:Keyed→Int):Prop:=
 ∀(st:fH) (x y:Keyed) (Q:Option Bool→fH→Prop),kindOf st=kd→U x→U y→Q (some (decide (rk x<rk y))) st→wpS (model prog w) A E s (lt' x y) Q st
variable{kd:jU}{U:Keyed→Prop}{rk:Keyed→Int}
def RK(rk:Keyed→Int)(xs:Array Keyed)(i:Nat):Int:=match xs[i]? with
 |some p=>rk p
 |none=>0
def AllU(U:Keyed→Prop)(xs:Array Keyed):Prop:=∀(i:Nat) (p:Keyed),xs[i]?=some p→U p
def bt(left:Bool)(rk:Keyed→Int)(key:Keyed)(arr:Array Keyed)(base i:Nat):Bool:=if left then decide (RK rk arr (base+i)<rk key) else !decide (rk key<RK rk arr (base+i))
theorem Tf{left:Bool}{key:Keyed}{arr:Array Keyed}{base i:Nat}{st:fH}{Q:Option Bool→fH→Prop}(C:Pp prog w A E s kd U rk)(hk:kindOf st=kd)(hK:U key)(hU:AllU U arr)(hi:base+i<arr.size)
  (h:Q (some (bt left rk key arr base i)) st):wpS (model prog w) A E s (Aj left key arr base i) Q st:=by
 unfold Aj
 have e:arr[base+i]?=some arr[base+i]:=getElem?_pos arr (base+i) hi
 rw[elem'_eq,e]
 refine dy (dz ?_)
 have eR:RK rk arr (base+i)=rk arr[base+i]:=by unfold RK;rw[e]
 unfold bt at h
 rw[eR] at h
 cases left with
 |true=>
  rw[if_pos rfl] at h ⊢
  exact C st _ _ _ hk (hU _ _ e) hK h
 |false=>
  rw[if_neg eC] at h ⊢
  exact dy (C st _ _ _ hk hK (hU _ _ e) (dz h))
def VJ(P:Nat→Bool)(n r:Nat):Prop:=r≤n∧(∀i,i<r→P i=true)∧∀i,r≤i→i<n→P i=false
theorem QZ{α:Type}{P:Nat→Bool}{b:Nat→StateT fH Sem (Option Bool)}{n l h:Nat}{st:fH}(hb:∀i (Q:Option Bool→fH→Prop),i<n→Q (some (P i)) st→wpS (model prog w) A E s (b i) Q st)
  (mono:∀i j,i≤j→j<n→P j=true→P i=true) (hl:l≤h) (hn:h≤n) (h1:∀i,i<l→P i=true) (h2:∀i,h≤i→i<n→P i=false):
  wpS (model prog w) A E s (forIn [:n] ((none:Option (Option Nat)),l,h) fun x __s=>
   if __s.snd.fst≥__s.snd.snd then pure (ForInStep.done (none,__s.snd.fst,__s.snd.snd))
   else do
    let __x←b (__s.snd.fst+(__s.snd.snd-__s.snd.fst)/2)
    match __x with
     |some mr=>
      if mr=true then pure (iM (none,__s.snd.fst+(__s.snd.snd-__s.snd.fst)/2+1,__s.snd.snd))
      else pure (iM (none,__s.snd.fst,__s.snd.fst+(__s.snd.snd-__s.snd.fst)/2))
     |x=>pure (ForInStep.done (some none,__s.snd.fst,__s.snd.snd))) (fun c st'=>st'=st∧c.1=none∧VJ P n c.2.2) st:=by
 refine fS (I:=fun x c st'=>st'=st∧∃l h,c=(none,l,h)∧l≤h∧h≤n∧(∀i,i<l→P i=true)∧(∀i,h≤i→i<n→P i=false)∧h-l≤n-x) ?_ ?_ ⟨rfl,l,h,rfl,hl,hn,h1,h2,by omega⟩
 ·rintro x c st' _ hx ⟨rfl,l,h,rfl,hl,hn,h1,h2,hm⟩
  dsimp only
  by_cases hlh:l≥h
  ·rw[if_pos hlh]
   have e:l=h:=by omega
   subst e
   exact dz ⟨rfl,rfl,hn,h1,h2⟩
  ·rw[if_neg hlh]
   refine dy (hb _ _ (by omega) ?_)
   dsimp only
   cases hP:P (l+(h-l)/2) with
   |true=>
    rw[if_pos rfl]
    exact dz ⟨rfl,_,_,rfl,by omega,hn,fun i hi=>mono i _ (by omega) (by omega) hP,h2,by omega⟩
   |false=>
    rw[if_neg eC]
    refine dz ⟨rfl,_,_,rfl,by omega,by omega,h1,fun i hi hin=>?_,by omega⟩
    cases q:P i with
    |false=>rfl
    |true=>rw[mono _ i hi hin q] at hP;cases hP
 ·rintro c st' ⟨rfl,l,h,rfl,hl,hn,h1,h2,hm⟩
  have e:l=h:=by
   have:max 0 n=n:=by omega
   rw[this] at hm
   omega
  subst e
  exact⟨rfl,rfl,hn,h1,h2⟩
theorem BJ {left : Bool} {key : Keyed} {arr : Array Keyed} {base n hint : Nat} {st : fH} {Q : Option Nat → fH → Prop} (C : Pp prog w A E s kd U rk) (hk : kindOf st = kd) (hK : U key) (hU : AllU U arr) (hb : base + n ≤ arr.size) (hh : hint < n)
    (mono : ∀ i j, i ≤ j → j < n → bt left rk key arr base j = true → bt left rk key arr base i = true)
    (h : ∀ r, VJ (bt left rk key arr base) n r → Q (some r) st) : wpS (model prog w) A E s (NY left key arr base n hint) Q st := by
  delta NY
  have hbey : ∀ i (Q : Option Bool → fH → Prop), i < n → Q (some (bt left rk key arr base i)) st → wpS (model prog w) A E s (Aj left key arr base i) Q st := fun i Q hi q => Tf C hk hK hU (by omega) q
  have fals : ∀ i j, i ≤ j → j < n → bt left rk key arr base i = false → bt left rk key arr base j = false := fun i j hij hj e => by
    cases q : bt left rk key arr base j with
    | false => rfl
    | true => rw [mono i j hij hj q] at e; cases e
  refine dy (hbey _ _ hh ?_)
  dsimp only
  cases hP : bt left rk key arr base hint with
  | true =>
    rw [if_pos rfl]
    refine dy (ig (fS (I := fun x c st' => st' = st ∧ ∃ la o, c = (none, la, o) ∧ la < o ∧ x + 1 ≤ o ∧ hint + la < n ∧ bt left rk key arr base (hint + la) = true)
      (Q := fun c st' => st' = st ∧ ∃ la o, c = (none, la, o) ∧ la < o ∧ hint + la < n ∧ bt left rk key arr base (hint + la) = true ∧ (n - hint ≤ o ∨ bt left rk key arr base (hint + o) = false)) ?_ ?_ ⟨rfl, 0, 1, rfl, by omega, by omega, hh, hP⟩) ?_)
    · rintro x c st' _ hx ⟨rfl, la, o, rfl, h1, h2, h3, h4⟩
      dsimp only
      by_cases ho : o ≥ n - hint
      · rw [if_pos ho]
        exact dz ⟨rfl, la, o, rfl, h1, h3, h4, .inl ho⟩
      · rw [if_neg ho]
        refine dy (hbey _ _ (by omega) ?_)
        dsimp only
        cases hq : bt left rk key arr base (hint + o) with
        | false =>
          rw [if_pos (by decide)]
          exact dz ⟨rfl, la, o, rfl, h1, h3, h4, .inr hq⟩
        | true =>
          rw [if_neg (by decide)]
          exact dz ⟨rfl, o, _, rfl, by omega, by omega, by omega, hq⟩
    · rintro c st' ⟨rfl, la, o, rfl, h1, h2, h3, h4⟩
      exact ⟨rfl, la, o, rfl, h1, h3, h4, .inl (by have : max 0 n = n := by omega
                                                   omega)⟩
    · rintro c st' ⟨rfl, la, o, rfl, h1, h3, h4, h5⟩
      dsimp only
      refine dy (ig (QZ (α := Unit) hbey mono (by omega) (by omega) (fun i hi => mono i (hint + la) (by omega) h3 h4) (fun i hi hin => ?_)) ?_)
      · rcases h5 with h5 | h5
        · omega
        · exact fals (hint + o) i (by omega) hin h5
      · rintro ⟨c1, c2, c3⟩ st'' ⟨rfl, e, pt⟩
        cases e
        exact dz (h _ pt)
  | false =>
    rw [if_neg eC]
    refine dy (ig (fS (I := fun x c st' => st' = st ∧ ∃ la o, c = (none, la, o) ∧ la < o ∧ x + 1 ≤ o ∧ la ≤ hint ∧ bt left rk key arr base (hint - la) = false)
      (Q := fun c st' => st' = st ∧ ∃ la o, c = (none, la, o) ∧ la < o ∧ la ≤ hint ∧ bt left rk key arr base (hint - la) = false ∧ (hint + 1 ≤ o ∨ bt left rk key arr base (hint - o) = true)) ?_ ?_ ⟨rfl, 0, 1, rfl, by omega, by omega, by omega, hP⟩) ?_)
    · rintro x c st' _ hx ⟨rfl, la, o, rfl, h1, h2, h3, h4⟩
      dsimp only
      by_cases ho : o ≥ hint + 1
      · rw [if_pos ho]
        exact dz ⟨rfl, la, o, rfl, h1, h3, h4, .inl ho⟩
      · rw [if_neg ho]
        refine dy (hbey _ _ (by omega) ?_)
        dsimp only
        cases hq : bt left rk key arr base (hint - o) with
        | true =>
          rw [if_pos rfl]
          exact dz ⟨rfl, la, o, rfl, h1, h3, h4, .inr hq⟩
        | false =>
          rw [if_neg eC]
          exact dz ⟨rfl, o, _, rfl, by omega, by omega, by omega, hq⟩
    · rintro c st' ⟨rfl, la, o, rfl, h1, h2, h3, h4⟩
      exact ⟨rfl, la, o, rfl, h1, h3, h4, .inl (by have : max 0 n = n := by omega
                                                   omega)⟩
    · rintro c st' ⟨rfl, la, o, rfl, h1, h3, h4, h5⟩
      dsimp only
      refine dy (ig (QZ (α := Unit) hbey mono (by omega) (by omega) (fun i hi => ?_) (fun i hi hin => fals (hint - la) i hi hin h4)) ?_)
      · rcases h5 with h5 | h5
        · omega
        · exact mono i (hint - o) (by omega) (by omega) h5
      · rintro ⟨c1, c2, c3⟩ st'' ⟨rfl, e, pt⟩
        cases e
        exact dz (h _ pt)
end
local macro_rules | `(tactic| omega) => `(tactic| first | lia | omega)
open PySem PyProof.Rows
variable{rk:Keyed→Int}
def FU(rk:Keyed→Int)(a:Array Keyed):Prop:=∀i j,i≤j→j<a.size→RK rk a i≤RK rk a j
structure Mrg(rk:Keyed→Int)(a b out:Array Keyed)(i j:Nat):Prop where
 hi:i≤a.size
 hj:j≤b.size
 perm:out.toList.Perm (a.toList.take i++b.toList.take j)
 srt:out.toList.Pairwise fun x y=>rk x≤rk y
 ha:∀x,x∈out.toList→∀y,i≤y→y<a.size→rk x≤RK rk a y
 hb:∀x,x∈out.toList→∀y,j≤y→y<b.size→rk x≤RK rk b y
structure Fin2(rk:Keyed→Int)(a b r:Array Keyed):Prop where
 perm:r.toList.Perm (a.toList++b.toList)
 srt:r.toList.Pairwise fun x y=>rk x≤rk y
theorem BC{a:Array Keyed}{i:Nat}(h:i<a.size):RK rk a i=rk a[i]:=by
 unfold RK
 rw[getElem?_pos a i h]
theorem Mrg.sym{a b out:Array Keyed}{i j:Nat}(m:Mrg rk a b out i j):Mrg rk b a out j i:=
 ⟨m.hj,m.hi,m.perm.trans iQ,m.srt,m.hb,m.ha⟩
theorem Mrg.pushA{a b out:Array Keyed}{i j:Nat}(m:Mrg rk a b out i j)(sa:FU rk a)(h:i<a.size)(hb:∀y,j≤y→y<b.size→rk a[i]≤RK rk b y):Mrg rk a b (out.push a[i]) (i+1) j:=by
 have e:(out.push a[i]).toList=out.toList++[a[i]]:=jo ..
 have t:a.toList.take (i+1)=a.toList.take i++[a[i]]:=by
  rw[List.take_succ]
  have:a.toList[i]?=some a[i]:=by rw[fh];exact getElem?_pos a i h
  rw[this];rfl
 refine⟨h,m.hj,?_,?_,?_,?_⟩
 ·rw[e,t]
  have p1:=m.perm.append_right [a[i]]
  refine p1.trans ?_
  rw[gk,gk]
  exact jc.append_left _ iQ
 ·rw[e,k7]
  refine⟨m.srt,i5 _ _,fun x hx y hy=>?_⟩
  cases dr.mp hy
  have:=m.ha x hx i (dv _) h
  rwa[BC h] at this
 ·intro x hx y hy hys
  rw[e] at hx
  rcases eO.mp hx with hx|hx
  ·exact m.ha x hx y (by omega) hys
  ·cases dr.mp hx
   have:=sa i y (by omega) hys
   rwa[BC h] at this
 ·intro x hx y hy hys
  rw[e] at hx
  rcases eO.mp hx with hx|hx
  ·exact m.hb x hx y hy hys
  ·cases dr.mp hx
   exact hb y hy hys
theorem Mrg.pushB{a b out:Array Keyed}{i j:Nat}(m:Mrg rk a b out i j)(sb:FU rk b)(h:j<b.size)(ha:∀y,i≤y→y<a.size→rk b[j]≤RK rk a y):Mrg rk a b (out.push b[j]) i (j+1):=(m.sym.pushA sb h ha).sym
theorem Jg(a:Array Keyed)(i k:Nat)(h:i+k<a.size):a.extract i (i+(k+1))=(a.extract i (i+k)).push a[i+k]:=by
 apply jZ
 rw[jo,gh,gh,fG,fG]
 have e1:i+(k+1)-i=k+1:=by omega
 have e2:i+k-i=k:=by omega
 rw[e1,e2,List.take_succ,iE,fh,getElem?_pos a (i+k) h]
 rfl
theorem Mrg.appA{a b:Array Keyed}{i j:Nat}:∀(k:Nat) {out:Array Keyed},Mrg rk a b out i j→FU rk a→i+k≤a.size→(∀x,x<k→∀y,j≤y→y<b.size→RK rk a (i+x)≤RK rk b y)→Mrg rk a b (out++a.extract i (i+k)) (i+k) j
 |0,out,m,_,_,_=>by
  have:out++a.extract i (i+0)=out:=by
   apply jZ
   rw[i8,gh,fG]
   have:i+0-i=0:=by omega
   rw[this,kJ,gE]
  rw[this];exact m
 |k+1,out,m,sa,h,hb=>by
  have m':=Mrg.appA k m sa (by omega) fun x hx=>hb x (by omega)
  have hk:i+k<a.size:=by omega
  rw[Jg a i k hk,Array.append_push]
  exact m'.pushA sa hk fun y h1 h2=>by
   have:=hb k (by omega) y h1 h2
   rwa[BC hk] at this
theorem Mrg.appB{a b:Array Keyed}{i j:Nat}(k:Nat){out:Array Keyed}(m:Mrg rk a b out i j)(sb:FU rk b)(h:j+k≤b.size)(ha:∀x,x<k→∀y,i≤y→y<a.size→RK rk b (j+x)≤RK rk a y):Mrg rk a b (out++b.extract j (j+k)) i (j+k):=(Mrg.appA k m.sym sb h ha).sym
theorem Mrg.fin{a b out:Array Keyed}(m:Mrg rk a b out a.size b.size):Fin2 rk a b out:=by
 have p:=m.perm
 rw[←eG,←eG,fR,fR] at p
 exact⟨p,m.srt⟩
theorem Mrg.restAB{a b out:Array Keyed}{i j:Nat}(m:Mrg rk a b out i j)(sa:FU rk a)(sb:FU rk b)(h:∀x y,i≤x→x<a.size→j≤y→y<b.size→RK rk a x≤RK rk b y):Fin2 rk a b (out++a.extract i a.size++b.extract j b.size):=by
 have hi:=m.hi
 have hj:=m.hj
 have m1:=m.appA (a.size-i) sa (by omega) fun x hx y h1 h2=>h _ _ (by omega) (by omega) h1 h2
 have e1:i+(a.size-i)=a.size:=by omega
 rw[e1] at m1
 have m2:=m1.appB (b.size-j) sb (by omega) fun x hx y h1 h2=>by omega
 have e2:j+(b.size-j)=b.size:=by omega
 rw[e2] at m2
 exact m2.fin
theorem Mrg.restBA{a b out:Array Keyed}{i j:Nat}(m:Mrg rk a b out i j)(sa:FU rk a)(sb:FU rk b)(h:∀x y,i≤x→x<a.size→j≤y→y<b.size→RK rk b y≤RK rk a x):Fin2 rk a b (out++b.extract j b.size++a.extract i a.size):=by
 have f:=m.sym.restAB sb sa fun x y h1 h2 h3 h4=>h y x h3 h4 h1 h2
 exact⟨f.perm.trans iQ,f.srt⟩
end SrtG
namespace SrtG
local macro_rules | `(tactic| omega) => `(tactic| first | lia | omega)
open PySem PyProof.Rows
def LD:Array Keyed→Array Keyed→StateT SortSt Sem (Array Keyed):=sortPriv%PySem.Builtin.mergeLo
def NZ:Nat→StateT SortSt Sem Unit:=sortPriv%PySem.Builtin.setMinGallop
theorem MY(g:Nat):NZ g=modify fun s=>lO (kindOf s) (arrOf s) (pendingOf s) g (jA s):=rfl
abbrev dn(a b out:Array Keyed)(ia ib:Nat):Array Keyed:=out++a.extract ia a.size++b.extract ib b.size
abbrev la(a b out:Array Keyed)(ia ib:Nat):Array Keyed:=out++b.extract ib b.size++a.extract ia a.size
section
variable{prog:Program}{w:World}{A:eU}{E:Value→a9→Prop}{s:a9}{kd:jU}{U:Keyed→Prop}{rk:Keyed→Int}
structure Like(st st':fH):Prop where
 kd:kindOf st'=kindOf st
 arr:arrOf st'=arrOf st
 pd:pendingOf st'=pendingOf st
 fl:jA st'=jA st
theorem Like.refl(st:fH):Like st st:=⟨rfl,rfl,rfl,rfl⟩
theorem DH{g:Nat}{st0 st:fH}{Q:Unit→fH→Prop}(l:Like st0 st)(h:∀st',Like st0 st'→Q () st'):wpS (model prog w) A E s (NZ g) Q st:=by
 rw[MY]
 exact jE (h _ ⟨l.kd,l.arr,l.pd,l.fl⟩)
theorem AN{arr:Array Keyed}{i:Nat}{st:fH}{Q:Keyed→fH→Prop}(hi:i<arr.size)(h:Q arr[i] st):wpS (model prog w) A E s (elem' arr i) Q st:=by
 rw[elem'_eq,getElem?_pos arr i hi]
 exact dz h
structure Hd(rk:Keyed→Int)(a b out:Array Keyed)(i j n:Nat):Prop where
 m:Mrg rk a b out i j
 hi:i+1<a.size
 hj:j<b.size
 hn:n≤i+j
theorem LF{a b:Array Keyed}{st:fH}{Q:Array Keyed→fH→Prop}(C:Pp prog w A E s kd U rk)(hk:kindOf st=kd)(uA:AllU U a)(uB:AllU U b)(sa:FU rk a)(sb:FU rk b)(ha0:0<a.size)(hb0:0<b.size)
  (hfst:RK rk b 0≤RK rk a 0) (hlst:RK rk b (b.size-1)≤RK rk a (a.size-1))
  (h:∀r st',Like st st'→Fin2 rk a b r→Q r st'):wpS (model prog w) A E s (LD a b) Q st:=by
 have Udn:∀{out i j},Mrg rk a b out i j→i=a.size∨j=b.size→Fin2 rk a b (dn a b out i j):=fun m hh=>m.restAB sa sb fun x y _ _ _ _=>by omega
 have Ula:∀{out i j},Mrg rk a b out i j→i+1=a.size→Fin2 rk a b (la a b out i j):=fun{out i j} m hh=>m.restBA sa sb fun x y h1 h2 h3 h4=>by
  have e1:=sb y (b.size-1) (by omega) (by omega)
  have e:x=a.size-1:=by omega
  subst e
  omega
 have uAt:∀{i} (hi:i<a.size),U a[i]:=fun hi=>uA _ _ (getElem?_pos a _ hi)
 have uBt:∀{i} (hi:i<b.size),U b[i]:=fun hi=>uB _ _ (getElem?_pos b _ hi)
 delta LD
 refine dy (kX (je ⟨rfl,?_⟩))
 refine dy (AN hb0 ?_)
 have m0:Mrg rk a b #[] 0 0:=⟨by omega,by omega,jc.nil,fv.nil,(fun x hx=>by cases hx),(fun x hx=>by cases hx)⟩
 have m1:Mrg rk a b #[b[0]] 0 1:=m0.pushB sb hb0 fun y _ hy=>by
  have e1:=sa 0 y (by omega) hy
  rw[←BC (rk:=rk) hb0]
  omega
 dsimp only
 by_cases c1:1=b.size
 ·rw[if_pos (beq_iff_eq.mpr c1)]
  exact dz (h _ _ (Like.refl _) (Udn m1 (.inr c1)))
 rw[if_neg (fun q=>c1 (beq_iff_eq.mp q))]
 by_cases c2:0+1=a.size
 ·rw[if_pos (beq_iff_eq.mpr c2)]
  exact dz (h _ _ (Like.refl _) (Ula m1 c2))
 rw[if_neg (fun q=>c2 (beq_iff_eq.mp q))]
 refine dy (ke ?_)
 refine dy (ig (fS (I:=fun x c st'=>Like st st'∧∃out i j mg,c=(none,out,i,j,mg)∧Hd rk a b out i j (x+1))
  (Q:=fun c st'=>Like st st'∧∃r,c.1=some r∧Fin2 rk a b r) ?_ ?_ ⟨Like.refl _,_,_,_,_,rfl,m1,by omega,by omega,by omega⟩) ?_)
 ·rintro x c st1 _ hx ⟨lk,out,i,j,mg,rfl,hd⟩
  dsimp only
  refine dy (ig (fS (I:=fun _ c st'=>Like st st'∧∃out i j ac bc,c=(none,out,i,j,ac,bc)∧Hd rk a b out i j (x+1))
   (Q:=fun c st'=>Like st st'∧((∃r,c.1=some r∧Fin2 rk a b r)∨∃out i j ac bc,c=(none,out,i,j,ac,bc)∧Hd rk a b out i j (x+1))) ?_ ?_ ⟨lk,_,_,_,_,_,rfl,hd⟩) ?_)
  ·rintro x1 c st2 _ hx1 ⟨lk,out,i,j,ac,bc,rfl,hd⟩
   have hia:i<a.size:=by have:=hd.hi;omega
   have hjb:=hd.hj
   have hin:=hd.hn
   dsimp only
   refine dy (AN hd.hj ?_)
   refine dy (AN hia ?_)
   refine dy (C _ _ _ _ (lk.kd.trans hk) (uBt hd.hj) (uAt hia) ?_)
   dsimp only
   by_cases hlt:rk b[j]<rk a[i]
   ·rw[if_pos (by exact decide_eq_true hlt)]
    have m:=hd.m.pushB sb hd.hj fun y h1 h2=>by
     have:=sa i y h1 h2
     rw[BC hia] at this
     omega
    refine dy (AN hd.hj ?_)
    by_cases c3:j+1=b.size
    ·rw[if_pos (beq_iff_eq.mpr c3)]
     exact dz ⟨lk,.inl ⟨_,rfl,Udn m (.inr c3)⟩⟩
    rw[if_neg (fun q=>c3 (beq_iff_eq.mp q))]
    have hd':Hd rk a b (out.push b[j]) i (j+1) (x+1):=⟨m,hd.hi,by have:=hd.hj;omega,by omega⟩
    split
    ·exact dz ⟨lk,.inr ⟨_,_,_,_,_,rfl,hd'⟩⟩
    ·exact dz ⟨lk,_,_,_,_,_,rfl,hd'⟩
   ·rw[if_neg (fun q=>hlt (of_decide_eq_true q))]
    have m:=hd.m.pushA sa hia fun y h1 h2=>by
     have:=sb j y h1 h2
     rw[BC hd.hj] at this
     omega
    refine dy (AN hia ?_)
    by_cases c3:i+1+1=a.size
    ·rw[if_pos (beq_iff_eq.mpr c3)]
     exact dz ⟨lk,.inl ⟨_,rfl,Ula m c3⟩⟩
    rw[if_neg (fun q=>c3 (beq_iff_eq.mp q))]
    have hd':Hd rk a b (out.push a[i]) (i+1) j (x+1):=⟨m,by have:=hd.hi;omega,hd.hj,by omega⟩
    split
    ·exact dz ⟨lk,.inr ⟨_,_,_,_,_,rfl,hd'⟩⟩
    ·exact dz ⟨lk,_,_,_,_,_,rfl,hd'⟩
  ·rintro c st2 ⟨lk,hh⟩
   exact⟨lk,.inr hh⟩
  rintro c st2 ⟨lk,⟨r,e,f⟩| ⟨out,i,j,ac,bc,rfl,hd⟩⟩
  ·obtain⟨c1,c2⟩:=c
   cases e
   exact dz ⟨lk,_,rfl,f⟩
  dsimp only
  refine dy (kX (je ⟨rfl,?_⟩))
  refine dy (ig (fS (I:=fun y c st'=>Like st st'∧∃out i j mg ac bc,c=(none,out,i,j,mg,ac,bc)∧Hd rk a b out i j (x+1+y))
   (Q:=fun c st'=>Like st st'∧((∃r,c.1=some r∧Fin2 rk a b r)∨∃out i j mg ac bc,c=(none,out,i,j,mg,ac,bc)∧Hd rk a b out i j (x+1+1))) ?_ ?_ ⟨lk,_,_,_,_,_,_,rfl,hd⟩) ?_)
  ·rintro x1 c st2 _ hx1 ⟨lk,out,i,j,mg,ac,bc,rfl,hd⟩
   have hia:i<a.size:=by have:=hd.hi;omega
   have hjb:=hd.hj
   have hin:=hd.hn
   dsimp only
   refine dite (mg>1) (fun hmg=>?_) (fun hmg=>?_)
   all_goals first|rw[if_pos hmg]|rw[if_neg hmg]
   all_goals
    refine dy (DH lk fun st3 lk=>?_)
    refine dy (AN hjb ?_)
    refine dy (BJ C (lk.kd.trans hk) (uBt hjb) uA (by omega) (by omega) ?_ ?_)
    ·intro p q hpq hq e
     unfold bt at e ⊢
     rw[if_neg eC] at e ⊢
     have e':=of_decide_eq_false (iy _|>.mp e)
     have:=sa (i+p) (i+q) (by omega) (by omega)
     exact(iy _).mpr (decide_eq_false (by omega))
    rintro k ⟨kn,kt,kf⟩
    have kt':∀x,x<k→RK rk a (i+x)≤RK rk b j:=fun x hx=>by
     have e:=kt x hx
     unfold bt at e
     rw[if_neg eC] at e
     have e':=of_decide_eq_false (iy _|>.mp e)
     rw[BC hjb]
     omega
    have kf':∀y,i+k≤y→y<a.size→rk b[j]≤RK rk a y:=fun y h1 h2=>by
     have e:=kf (y-i) (by omega) (by omega)
     unfold bt at e
     rw[if_neg eC] at e
     have e':=of_decide_eq_true (lR _|>.mp e)
     have ey:i+(y-i)=y:=by omega
     rw[ey] at e'
     omega
    have m:=hd.m.appA k sa (by omega) fun x hx y h1 h2=>by
     have:=sb j y h1 h2
     have:=kt' x hx
     omega
    dsimp only
    by_cases k0:k>0
    ·rw[if_pos k0]
     by_cases c3:i+k+1=a.size
     ·rw[if_pos (beq_iff_eq.mpr c3)]
      exact dz ⟨lk,.inl ⟨_,rfl,Ula m c3⟩⟩
     rw[if_neg (fun q=>c3 (beq_iff_eq.mp q))]
     by_cases c4:i+k=a.size
     ·rw[if_pos (beq_iff_eq.mpr c4)]
      exact dz ⟨lk,.inl ⟨_,rfl,Udn m (.inl c4)⟩⟩
     rw[if_neg (fun q=>c4 (beq_iff_eq.mp q))]
     have hi':i+k<a.size:=by omega
     have hi2:i+k+1<a.size:=by omega
     have hn':x+1+x1≤i+k+j:=by omega
     refine dy (AN hjb ?_)
     have m2:=m.pushB sb hjb kf'
     by_cases c5:j+1=b.size
     ·rw[if_pos (beq_iff_eq.mpr c5)]
      exact dz ⟨lk,.inl ⟨_,rfl,Udn m2 (.inr c5)⟩⟩
     rw[if_neg (fun q=>c5 (beq_iff_eq.mp q))]
     refine dy (AN hi' ?_)
     refine dy (BJ C (lk.kd.trans hk) (uAt hi') uB (by omega) (by omega) ?_ ?_)
     ·intro p q hpq hq e
      unfold bt at e ⊢
      rw[if_pos rfl] at e ⊢
      have e':=of_decide_eq_true e
      have:=sb (j+1+p) (j+1+q) (by omega) (by omega)
      exact decide_eq_true (by omega)
     rintro k2 ⟨k2n,k2t,k2f⟩
     have k2t':∀x,x<k2→∀y,_≤y→y<a.size→RK rk b (j+1+x)≤RK rk a y:=fun x hx y h1 h2=>by
      have e:=k2t x hx
      unfold bt at e
      rw[if_pos rfl] at e
      have e':=of_decide_eq_true e
      have:=sa _ y h1 h2
      rw[BC hi'] at this
      omega
     have k2f':∀y,j+1+k2≤y→y<b.size→rk (a[i+k]'hi')≤RK rk b y:=fun y h1 h2=>by
      have e:=k2f (y- (j+1)) (by omega) (by omega)
      unfold bt at e
      rw[if_pos rfl] at e
      have e':=of_decide_eq_false e
      have ey:j+1+(y- (j+1))=y:=by omega
      rw[ey] at e'
      omega
     dsimp only
     by_cases k20:k2>0
     ·rw[if_pos k20]
      have m3:=m2.appB k2 sb (by omega) k2t'
      by_cases c6:j+1+k2=b.size
      ·rw[if_pos (beq_iff_eq.mpr c6)]
       exact dz ⟨lk,.inl ⟨_,rfl,Udn m3 (.inr c6)⟩⟩
      rw[if_neg (fun q=>c6 (beq_iff_eq.mp q))]
      have m4:=m3.pushA sa hi' k2f'
      refine dy (AN hi' ?_)
      split
      ·rename_i c7
       exact dz ⟨lk,.inl ⟨_,rfl,Ula m4 (beq_iff_eq.mp c7)⟩⟩
      ·rename_i c7
       have c7':¬_=_:=fun q=>c7 (beq_iff_eq.mpr q)
       split
       ·exact dz ⟨lk,.inr ⟨_,_,_,_,_,_,rfl,m4,by omega,by omega,by omega⟩⟩
       ·exact dz ⟨lk,_,_,_,_,_,_,rfl,m4,by omega,by omega,by omega⟩
     ·rw[if_neg k20]
      have e2:j+1+k2=j+1:=by omega
      rw[e2] at k2f'
      have m4:=m2.pushA sa hi' k2f'
      refine dy (AN hi' ?_)
      split
      ·rename_i c7
       exact dz ⟨lk,.inl ⟨_,rfl,Ula m4 (beq_iff_eq.mp c7)⟩⟩
      ·rename_i c7
       have c7':¬_=_:=fun q=>c7 (beq_iff_eq.mpr q)
       split
       ·exact dz ⟨lk,.inr ⟨_,_,_,_,_,_,rfl,m4,by omega,by omega,by omega⟩⟩
       ·exact dz ⟨lk,_,_,_,_,_,_,rfl,m4,by omega,by omega,by omega⟩
    ·rw[if_neg k0]
     have e0:i+k=i:=by omega
     rw[e0] at kf'
     clear m
     have m:=hd.m
     have hi2:=hd.hi
     have hi':=hia
     have hn':=hin
     refine dy (AN hjb ?_)
     have m2:=m.pushB sb hjb kf'
     by_cases c5:j+1=b.size
     ·rw[if_pos (beq_iff_eq.mpr c5)]
      exact dz ⟨lk,.inl ⟨_,rfl,Udn m2 (.inr c5)⟩⟩
     rw[if_neg (fun q=>c5 (beq_iff_eq.mp q))]
     refine dy (AN hi' ?_)
     refine dy (BJ C (lk.kd.trans hk) (uAt hi') uB (by omega) (by omega) ?_ ?_)
     ·intro p q hpq hq e
      unfold bt at e ⊢
      rw[if_pos rfl] at e ⊢
      have e':=of_decide_eq_true e
      have:=sb (j+1+p) (j+1+q) (by omega) (by omega)
      exact decide_eq_true (by omega)
     rintro k2 ⟨k2n,k2t,k2f⟩
     have k2t':∀x,x<k2→∀y,_≤y→y<a.size→RK rk b (j+1+x)≤RK rk a y:=fun x hx y h1 h2=>by
      have e:=k2t x hx
      unfold bt at e
      rw[if_pos rfl] at e
      have e':=of_decide_eq_true e
      have:=sa _ y h1 h2
      rw[BC hi'] at this
      omega
     have k2f':∀y,j+1+k2≤y→y<b.size→rk (a[i]'hi')≤RK rk b y:=fun y h1 h2=>by
      have e:=k2f (y- (j+1)) (by omega) (by omega)
      unfold bt at e
      rw[if_pos rfl] at e
      have e':=of_decide_eq_false e
      have ey:j+1+(y- (j+1))=y:=by omega
      rw[ey] at e'
      omega
     dsimp only
     by_cases k20:k2>0
     ·rw[if_pos k20]
      have m3:=m2.appB k2 sb (by omega) k2t'
      by_cases c6:j+1+k2=b.size
      ·rw[if_pos (beq_iff_eq.mpr c6)]
       exact dz ⟨lk,.inl ⟨_,rfl,Udn m3 (.inr c6)⟩⟩
      rw[if_neg (fun q=>c6 (beq_iff_eq.mp q))]
      have m4:=m3.pushA sa hi' k2f'
      refine dy (AN hi' ?_)
      split
      ·rename_i c7
       exact dz ⟨lk,.inl ⟨_,rfl,Ula m4 (beq_iff_eq.mp c7)⟩⟩
      ·rename_i c7
       have c7':¬_=_:=fun q=>c7 (beq_iff_eq.mpr q)
       split
       ·exact dz ⟨lk,.inr ⟨_,_,_,_,_,_,rfl,m4,by omega,by omega,by omega⟩⟩
       ·exact dz ⟨lk,_,_,_,_,_,_,rfl,m4,by omega,by omega,by omega⟩
     ·rw[if_neg k20]
      have e2:j+1+k2=j+1:=by omega
      rw[e2] at k2f'
      have m4:=m2.pushA sa hi' k2f'
      refine dy (AN hi' ?_)
      split
      ·rename_i c7
       exact dz ⟨lk,.inl ⟨_,rfl,Ula m4 (beq_iff_eq.mp c7)⟩⟩
      ·rename_i c7
       have c7':¬_=_:=fun q=>c7 (beq_iff_eq.mpr q)
       split
       ·exact dz ⟨lk,.inr ⟨_,_,_,_,_,_,rfl,m4,by omega,by omega,by omega⟩⟩
       ·exact dz ⟨lk,_,_,_,_,_,_,rfl,m4,by omega,by omega,by omega⟩
  ·rintro c st2 ⟨lk,out,i,j,mg,ac,bc,rfl,hd⟩
   have e:max 0 (a.size+b.size)=a.size+b.size:=by omega
   rw[e] at hd
   exact⟨lk,.inr ⟨_,_,_,_,_,_,rfl,hd.m,hd.hi,hd.hj,by have:=hd.hn;omega⟩⟩
  rintro c st2 ⟨lk,⟨r,e,f⟩| ⟨out,i,j,mg,ac,bc,rfl,hd⟩⟩
  ·obtain⟨c1,c2⟩:=c
   cases e
   exact dz ⟨lk,_,rfl,f⟩
  dsimp only
  refine dy (DH lk fun st3 lk=>?_)
  exact dz ⟨lk,_,_,_,_,rfl,hd⟩
 ·rintro c st1 ⟨lk,out,i,j,mg,rfl,hd⟩
  have e:max 0 (a.size+b.size)=a.size+b.size:=by omega
  rw[e] at hd
  have:=hd.hn
  have:=hd.hi
  have:=hd.hj
  omega
 ·rintro c st1 ⟨lk,r,e,f⟩
  obtain⟨c1,c2⟩:=c
  cases e
  exact dz (h _ _ lk f)
end
end SrtG
namespace SrtG
local macro_rules | `(tactic| omega) => `(tactic| first | lia | omega)
open PySem PyProof.Rows
variable{rk:Keyed→Int}
structure Mrh(rk:Keyed→Int)(a b out:Array Keyed)(i j:Nat):Prop where
 hi:i≤a.size
 hj:j≤b.size
 perm:out.toList.Perm (a.toList.drop i++b.toList.drop j)
 srt:out.toList.Pairwise fun x y=>rk y≤rk x
 ha:∀x,x∈out.toList→∀y,y<i→RK rk a y≤rk x
 hb:∀x,x∈out.toList→∀y,y<j→RK rk b y≤rk x
theorem Mrh.sym{a b out:Array Keyed}{i j:Nat}(m:Mrh rk a b out i j):Mrh rk b a out j i:=
 ⟨m.hj,m.hi,m.perm.trans iQ,m.srt,m.hb,m.ha⟩
theorem Mrh.pushA{a b out:Array Keyed}{i j:Nat}(m:Mrh rk a b out (i+1) j)(sa:FU rk a)(h:i<a.size)(hb:∀y,y<j→RK rk b y≤rk a[i]):Mrh rk a b (out.push a[i]) i j:=by
 have e:(out.push a[i]).toList=out.toList++[a[i]]:=jo ..
 have t:a.toList.drop i=a[i]::a.toList.drop (i+1):=by
  have hl:i<a.toList.length:=by rw[eG];exact h
  rw[iO hl]
  rfl
 refine⟨by omega,m.hj,?_,?_,?_,?_⟩
 ·rw[e,t]
  exact iQ.trans (m.perm.cons a[i])
 ·rw[e,k7]
  refine⟨m.srt,i5 _ _,fun x hx y hy=>?_⟩
  cases dr.mp hy
  have:=m.ha x hx i (iT _)
  rwa[BC h] at this
 ·intro x hx y hy
  rw[e] at hx
  rcases eO.mp hx with hx|hx
  ·exact m.ha x hx y (by omega)
  ·cases dr.mp hx
   have:=sa y i (by omega) h
   rwa[BC h] at this
 ·intro x hx y hy
  rw[e] at hx
  rcases eO.mp hx with hx|hx
  ·exact m.hb x hx y hy
  ·cases dr.mp hx
   exact hb y hy
theorem Mrh.pushB{a b out:Array Keyed}{i j:Nat}(m:Mrh rk a b out i (j+1))(sb:FU rk b)(h:j<b.size)(ha:∀y,y<i→RK rk a y≤rk b[j]):Mrh rk a b (out.push b[j]) i j:=(m.sym.pushA sb h ha).sym
theorem Jh(a:Array Keyed)(l h:Nat)(hl:l<h)(hh:h≤a.size):(a.extract l h).reverse=(a.extract (l+1) h).reverse.push (a[l]'(by omega)):=by
 apply jZ
 rw[jo,gL,gL,gh,gh,fG,fG]
 have hln:l<a.toList.length:=by rw[eG];omega
 have e1:h-l=(h- (l+1))+1:=by omega
 rw[iO hln,e1,List.take_succ_cons,iw]
 rfl
theorem Mrh.appA{a b:Array Keyed}{i j:Nat}:∀(k:Nat) {out:Array Keyed},Mrh rk a b out i j→FU rk a→k≤i→(∀x,i-k≤x→x<i→∀y,y<j→RK rk b y≤RK rk a x)→Mrh rk a b (out++(a.extract (i-k) i).reverse) (i-k) j
 |0,out,m,_,_,_=>by
  have:out++(a.extract (i-0) i).reverse=out:=by
   apply jZ
   rw[i8,gL,gh,fG]
   have:i- (i-0)=0:=by omega
   rw[this,kJ,List.reverse_nil,gE]
  rw[this];exact m
 |k+1,out,m,sa,h,hb=>by
  have hi:=m.hi
  have m':=Mrh.appA k m sa (by omega) fun x hx=>hb x (by omega)
  have hk:i- (k+1)<a.size:=by omega
  have e:i- (k+1)+1=i-k:=by omega
  rw[Jh a (i- (k+1)) i (by omega) hi,Array.append_push,e]
  rw[←e] at m'
  have q:=m'.pushA sa hk fun y h1=>by
   have:=hb (i- (k+1)) (by omega) (by omega) y h1
   rwa[BC hk] at this
  rw[e] at q
  exact q
theorem Mrh.appA'{a b out:Array Keyed}{i j l:Nat}(m:Mrh rk a b out i j)(sa:FU rk a)(h:l≤i)(hb:∀x,l≤x→x<i→∀y,y<j→RK rk b y≤RK rk a x):Mrh rk a b (out++(a.extract l i).reverse) l j:=by
 have e:i- (i-l)=l:=by omega
 have q:=m.appA (i-l) sa (by omega) (by rw[e];exact hb)
 rwa[e] at q
theorem Mrh.appB'{a b out:Array Keyed}{i j l:Nat}(m:Mrh rk a b out i j)(sb:FU rk b)(h:l≤j)(ha:∀x,l≤x→x<j→∀y,y<i→RK rk a y≤RK rk b x):Mrh rk a b (out++(b.extract l j).reverse) i l:=(m.sym.appA' sb h ha).sym
theorem Mrh.fin{a b out:Array Keyed}(m:Mrh rk a b out 0 0):Fin2 rk a b out.reverse:=by
 have p:=m.perm
 rw[nj,nj] at p
 constructor
 ·rw[gL]
  exact(List.reverse_perm _).trans p
 ·rw[gL,List.pairwise_reverse]
  exact m.srt
theorem Mrh.restAB{a b out:Array Keyed}{i j:Nat}(m:Mrh rk a b out i j)(sa:FU rk a)(sb:FU rk b)(h:∀x y,x<i→y<j→RK rk a x≤RK rk b y):Fin2 rk a b (a.extract 0 i++b.extract 0 j++out.reverse):=by
 have m1:=m.appB' (l:=0) sb (by omega) fun x _ hx y hy=>h y x hy hx
 have m2:=m1.appA' (l:=0) sa (by omega) fun x _ _ y hy=>by omega
 have f:=m2.fin
 have e:(out++(b.extract 0 j).reverse++(a.extract 0 i).reverse).reverse=a.extract 0 i++b.extract 0 j++out.reverse:=by
  apply jZ
  rw[gL,i8,i8,i8,i8,gL,gL,gL,lA,lA,List.reverse_reverse,List.reverse_reverse,gk]
 rwa[e] at f
theorem Mrh.restBA{a b out:Array Keyed}{i j:Nat}(m:Mrh rk a b out i j)(sa:FU rk a)(sb:FU rk b)(h:∀x y,x<i→y<j→RK rk b y≤RK rk a x):Fin2 rk a b (b.extract 0 j++a.extract 0 i++out.reverse):=by
 have f:=m.sym.restAB sb sa fun x y h1 h2=>h y x h2 h1
 exact⟨f.perm.trans iQ,f.srt⟩
def LG:Array Keyed→Array Keyed→StateT SortSt Sem (Array Keyed):=sortPriv%PySem.Builtin.mergeHi
abbrev cq(a b out:Array Keyed)(i j:Nat):Array Keyed:=a.extract 0 i++b.extract 0 j++out.reverse
abbrev cu(a b out:Array Keyed)(i j:Nat):Array Keyed:=b.extract 0 j++a.extract 0 i++out.reverse
end SrtG
namespace SrtG
local macro_rules | `(tactic| omega) => `(tactic| first | lia | omega)
open PySem PyProof.Rows
variable{prog:Program}{w:World}{A:eU}{E:Value→a9→Prop}{s:a9}{kd:jU}{U:Keyed→Prop}{rk:Keyed→Int}
theorem Mrh.pushA1{a b out:Array Keyed}{i j:Nat}(m:Mrh rk a b out i j)(sa:FU rk a)(h0:0<i)(h:i-1<a.size)(hb:∀y,y<j→RK rk b y≤rk a[i-1]):Mrh rk a b (out.push a[i-1]) (i-1) j:=by
 cases i with
 |zero=>omega
 |succ i=>exact m.pushA sa h hb
structure Hh(rk:Keyed→Int)(a b out:Array Keyed)(i j n:Nat):Prop where
 m:Mrh rk a b out i j
 hi:0<i
 hj:1<j
 hn:i+j+n≤a.size+b.size
theorem LH{a b:Array Keyed}{st:fH}{Q:Array Keyed→fH→Prop}(C:Pp prog w A E s kd U rk)(hk:kindOf st=kd)(uA:AllU U a)(uB:AllU U b)(sa:FU rk a)(sb:FU rk b)(ha0:0<a.size)(hb0:0<b.size)
  (hfst:RK rk b 0≤RK rk a 0) (hlst:RK rk b (b.size-1)≤RK rk a (a.size-1))
  (h:∀r st',Like st st'→Fin2 rk a b r→Q r st'):wpS (model prog w) A E s (LG a b) Q st:=by
 have Udn:∀{out i j},Mrh rk a b out i j→i=0∨j=0→Fin2 rk a b (cq a b out i j):=fun m hh=>m.restAB sa sb fun x y _ _=>by omega
 have Ula:∀{out i j},Mrh rk a b out i j→j=1→Fin2 rk a b (cu a b out i j):=fun{out i j} m hh=>m.restBA sa sb fun x y h1 h2=>by
  have hi:=m.hi
  have e1:=sa 0 x (by omega) (by omega)
  have e:y=0:=by omega
  subst e
  omega
 have uAt:∀{i} (hi:i<a.size),U a[i]:=fun hi=>uA _ _ (getElem?_pos a _ hi)
 have uBt:∀{i} (hi:i<b.size),U b[i]:=fun hi=>uB _ _ (getElem?_pos b _ hi)
 have hal:a.size-1<a.size:=by omega
 delta LG
 refine dy (kX (je ⟨rfl,?_⟩))
 refine dy (AN hal ?_)
 have m0:Mrh rk a b #[] (a.size-1+1) b.size:=by
  have e:a.size-1+1=a.size:=by omega
  rw[e]
  refine⟨by omega,by omega,?_,fv.nil,(fun x hx=>by cases hx),(fun x hx=>by cases hx)⟩
  rw[←eG,←eG,List.drop_length,List.drop_length]
  exact jc.nil
 have m1:Mrh rk a b #[a[a.size-1]] (a.size-1) b.size:=m0.pushA sa hal fun y hy=>by
  have e1:=sb y (b.size-1) (by omega) (by omega)
  rw[←BC (rk:=rk) hal]
  omega
 dsimp only
 by_cases c1:a.size-1=0
 ·rw[if_pos (beq_iff_eq.mpr c1)]
  exact dz (h _ _ (Like.refl _) (Udn m1 (.inl c1)))
 rw[if_neg (fun q=>c1 (beq_iff_eq.mp q))]
 by_cases c2:b.size=1
 ·rw[if_pos (beq_iff_eq.mpr c2)]
  exact dz (h _ _ (Like.refl _) (Ula m1 c2))
 rw[if_neg (fun q=>c2 (beq_iff_eq.mp q))]
 refine dy (ke ?_)
 refine dy (ig (fS (I:=fun x c st'=>Like st st'∧∃out i j mg,c=(none,i,j,out,mg)∧Hh rk a b out i j (x+1))
  (Q:=fun c st'=>Like st st'∧∃r,c.1=some r∧Fin2 rk a b r) ?_ ?_ ⟨Like.refl _,_,_,_,_,rfl,m1,by omega,by omega,by omega⟩) ?_)
 ·rintro x c st1 _ hx ⟨lk,out,i,j,mg,rfl,hd⟩
  dsimp only
  refine dy (ig (fS (I:=fun _ c st'=>Like st st'∧∃out i j ac bc,c=(none,i,j,out,ac,bc)∧Hh rk a b out i j (x+1))
   (Q:=fun c st'=>Like st st'∧((∃r,c.1=some r∧Fin2 rk a b r)∨∃out i j ac bc,c=(none,i,j,out,ac,bc)∧Hh rk a b out i j (x+1))) ?_ ?_ ⟨lk,_,_,_,_,_,rfl,hd⟩) ?_)
  ·rintro x1 c st2 _ hx1 ⟨lk,out,i,j,ac,bc,rfl,hd⟩
   have hi0:=hd.hi
   have hj0:=hd.hj
   have hin:=hd.hn
   have hia:i-1<a.size:=by have:=hd.m.hi;omega
   have hjb:j-1<b.size:=by have:=hd.m.hj;omega
   have ei:i-1+1=i:=by omega
   have ej:j-1+1=j:=by omega
   have m:=hd.m
   dsimp only
   refine dy (AN hjb ?_)
   refine dy (AN hia ?_)
   refine dy (C _ _ _ _ (lk.kd.trans hk) (uBt hjb) (uAt hia) ?_)
   dsimp only
   by_cases hlt:rk b[j-1]<rk a[i-1]
   ·rw[if_pos (by exact decide_eq_true hlt)]
    rw[←ei] at m
    have m:=m.pushA sa hia fun y h1=>by
     have:=sb y (j-1) (by omega) hjb
     rw[BC hjb] at this
     omega
    refine dy (AN hia ?_)
    by_cases c3:i-1=0
    ·rw[if_pos (beq_iff_eq.mpr c3)]
     exact dz ⟨lk,.inl ⟨_,rfl,Udn m (.inl c3)⟩⟩
    rw[if_neg (fun q=>c3 (beq_iff_eq.mp q))]
    have hd':Hh rk a b (out.push a[i-1]) (i-1) j (x+1):=⟨m,by omega,by omega,by omega⟩
    split
    ·exact dz ⟨lk,.inr ⟨_,_,_,_,_,rfl,hd'⟩⟩
    ·exact dz ⟨lk,_,_,_,_,_,rfl,hd'⟩
   ·rw[if_neg (fun q=>hlt (of_decide_eq_true q))]
    rw[←ej] at m
    have m:=m.pushB sb hjb fun y h1=>by
     have:=sa y (i-1) (by omega) hia
     rw[BC hia] at this
     omega
    refine dy (AN hjb ?_)
    by_cases c3:j-1=1
    ·rw[if_pos (beq_iff_eq.mpr c3)]
     exact dz ⟨lk,.inl ⟨_,rfl,Ula m c3⟩⟩
    rw[if_neg (fun q=>c3 (beq_iff_eq.mp q))]
    have hd':Hh rk a b (out.push b[j-1]) i (j-1) (x+1):=⟨m,by omega,by omega,by omega⟩
    split
    ·exact dz ⟨lk,.inr ⟨_,_,_,_,_,rfl,hd'⟩⟩
    ·exact dz ⟨lk,_,_,_,_,_,rfl,hd'⟩
  ·rintro c st2 ⟨lk,hh⟩
   exact⟨lk,.inr hh⟩
  rintro c st2 ⟨lk,⟨r,e,f⟩| ⟨out,i,j,ac,bc,rfl,hd⟩⟩
  ·obtain⟨c1,c2⟩:=c
   cases e
   exact dz ⟨lk,_,rfl,f⟩
  dsimp only
  refine dy (kX (je ⟨rfl,?_⟩))
  refine dy (ig (fS (I:=fun y c st'=>Like st st'∧∃out i j mg ac bc,c=(none,i,j,out,mg,ac,bc)∧Hh rk a b out i j (x+1+y))
   (Q:=fun c st'=>Like st st'∧((∃r,c.1=some r∧Fin2 rk a b r)∨∃out i j mg ac bc,c=(none,i,j,out,mg,ac,bc)∧Hh rk a b out i j (x+1+1))) ?_ ?_ ⟨lk,_,_,_,_,_,_,rfl,hd⟩) ?_)
  ·rintro x1 c st2 _ hx1 ⟨lk,out,i,j,mg,ac,bc,rfl,hd⟩
   have hi0:=hd.hi
   have hj0:=hd.hj
   have hin:=hd.hn
   have hia:=hd.m.hi
   have hjl:=hd.m.hj
   have hjb:j-1<b.size:=by omega
   dsimp only
   refine dite (mg>1) (fun hmg=>?_) (fun hmg=>?_)
   all_goals first|rw[if_pos hmg]|rw[if_neg hmg]
   all_goals
    refine dy (DH lk fun st3 lk=>?_)
    refine dy (AN hjb ?_)
    refine dy (BJ C (lk.kd.trans hk) (uBt hjb) uA (by omega) (by omega) ?_ ?_)
    ·intro p q hpq hq e
     unfold bt at e ⊢
     rw[if_neg eC] at e ⊢
     have e':=of_decide_eq_false (iy _|>.mp e)
     have:=sa (0+p) (0+q) (by omega) (by omega)
     exact(iy _).mpr (decide_eq_false (by omega))
    rintro p ⟨kn,kt,kf⟩
    have kf':∀y,y<p→RK rk a y≤rk b[j-1]:=fun y hy=>by
     have e:=kt y hy
     unfold bt at e
     rw[if_neg eC] at e
     have e':=of_decide_eq_false (iy _|>.mp e)
     rw[jn] at e'
     omega
    have kt':∀x,p≤x→x<i→∀y,y<j→RK rk b y≤RK rk a x:=fun x h1 h2 y h3=>by
     have e:=kf x h1 h2
     unfold bt at e
     rw[if_neg eC] at e
     have e':=of_decide_eq_true (lR _|>.mp e)
     rw[jn] at e'
     have:=sb y (j-1) (by omega) hjb
     rw[BC hjb] at this
     omega
    have m:=hd.m.appA' sa kn kt'
    dsimp only
    by_cases k0:i-p>0
    ·rw[if_pos k0]
     by_cases c3:p=0
     ·rw[if_pos (beq_iff_eq.mpr c3)]
      exact dz ⟨lk,.inl ⟨_,rfl,Udn m (.inl c3)⟩⟩
     rw[if_neg (fun q=>c3 (beq_iff_eq.mp q))]
     have hI:0<p:=by omega
     have ej:j-1+1=j:=by omega
     rw[←ej] at m
     have m2:=m.pushB sb hjb kf'
     refine dy (AN hjb ?_)
     by_cases c5:j-1=1
     ·rw[if_pos (beq_iff_eq.mpr c5)]
      exact dz ⟨lk,.inl ⟨_,rfl,Ula m2 (by omega)⟩⟩
     rw[if_neg (fun q=>c5 (beq_iff_eq.mp q))]
     have hI1:p-1<a.size:=by omega
     refine dy (AN hI1 ?_)
     refine dy (BJ C (lk.kd.trans hk) (uAt hI1) uB (by omega) (by omega) ?_ ?_)
     ·intro p q hpq hq e
      unfold bt at e ⊢
      rw[if_pos rfl] at e ⊢
      have e':=of_decide_eq_true e
      have:=sb (0+p) (0+q) (by omega) (by omega)
      exact decide_eq_true (by omega)
     rintro q ⟨k2n,k2t,k2f⟩
     have k2t':∀y,y<q→RK rk b y≤rk (a[p-1]'hI1):=fun y hx=>by
      have e:=k2t y hx
      unfold bt at e
      rw[if_pos rfl] at e
      have e':=of_decide_eq_true e
      rw[jn] at e'
      omega
     have k2f':∀x,q≤x→x<j-1→∀y,y<p→RK rk a y≤RK rk b x:=fun x h1 h2 y h3=>by
      have e:=k2f x h1 h2
      unfold bt at e
      rw[if_pos rfl] at e
      have e':=of_decide_eq_false e
      rw[jn] at e'
      have:=sa y (p-1) (by omega) hI1
      rw[BC hI1] at this
      omega
     have eI:p-1+1=p:=by omega
     dsimp only
     by_cases k20:j-1-q>0
     ·rw[if_pos k20]
      have m3:=m2.appB' sb k2n k2f'
      by_cases c6:q=1
      ·rw[if_pos (beq_iff_eq.mpr c6)]
       exact dz ⟨lk,.inl ⟨_,rfl,Ula m3 (by omega)⟩⟩
      rw[if_neg (fun q=>c6 (beq_iff_eq.mp q))]
      by_cases c8:q=0
      ·rw[if_pos (beq_iff_eq.mpr c8)]
       exact dz ⟨lk,.inl ⟨_,rfl,Udn m3 (.inr c8)⟩⟩
      rw[if_neg (fun q=>c8 (beq_iff_eq.mp q))]
      have m4:=m3.pushA1 sa hI hI1 k2t'
      refine dy (AN hI1 ?_)
      by_cases c7:p-1=0
      ·rw[if_pos (beq_iff_eq.mpr c7)]
       exact dz ⟨lk,.inl ⟨_,rfl,Udn m4 (.inl c7)⟩⟩
      rw[if_neg (fun q=>c7 (beq_iff_eq.mp q))]
      split
      ·exact dz ⟨lk,.inr ⟨_,_,_,_,_,_,rfl,m4,by omega,by omega,by omega⟩⟩
      ·exact dz ⟨lk,_,_,_,_,_,_,rfl,m4,by omega,by omega,by omega⟩
     ·rw[if_neg k20]
      have e2:q=j-1:=by omega
      rw[e2] at k2t'
      have m4:=m2.pushA1 sa hI hI1 k2t'
      refine dy (AN hI1 ?_)
      by_cases c7:p-1=0
      ·rw[if_pos (beq_iff_eq.mpr c7)]
       exact dz ⟨lk,.inl ⟨_,rfl,Udn m4 (.inl c7)⟩⟩
      rw[if_neg (fun q=>c7 (beq_iff_eq.mp q))]
      split
      ·exact dz ⟨lk,.inr ⟨_,_,_,_,_,_,rfl,m4,by omega,by omega,by omega⟩⟩
      ·exact dz ⟨lk,_,_,_,_,_,_,rfl,m4,by omega,by omega,by omega⟩
    ·rw[if_neg k0]
     have e0:p=i:=by omega
     rw[e0] at kf'
     clear m
     have m:=hd.m
     have hI:=hi0
     have ej:j-1+1=j:=by omega
     rw[←ej] at m
     have m2:=m.pushB sb hjb kf'
     refine dy (AN hjb ?_)
     by_cases c5:j-1=1
     ·rw[if_pos (beq_iff_eq.mpr c5)]
      exact dz ⟨lk,.inl ⟨_,rfl,Ula m2 (by omega)⟩⟩
     rw[if_neg (fun q=>c5 (beq_iff_eq.mp q))]
     have hI1:i-1<a.size:=by omega
     refine dy (AN hI1 ?_)
     refine dy (BJ C (lk.kd.trans hk) (uAt hI1) uB (by omega) (by omega) ?_ ?_)
     ·intro p q hpq hq e
      unfold bt at e ⊢
      rw[if_pos rfl] at e ⊢
      have e':=of_decide_eq_true e
      have:=sb (0+p) (0+q) (by omega) (by omega)
      exact decide_eq_true (by omega)
     rintro q ⟨k2n,k2t,k2f⟩
     have k2t':∀y,y<q→RK rk b y≤rk (a[i-1]'hI1):=fun y hx=>by
      have e:=k2t y hx
      unfold bt at e
      rw[if_pos rfl] at e
      have e':=of_decide_eq_true e
      rw[jn] at e'
      omega
     have k2f':∀x,q≤x→x<j-1→∀y,y<i→RK rk a y≤RK rk b x:=fun x h1 h2 y h3=>by
      have e:=k2f x h1 h2
      unfold bt at e
      rw[if_pos rfl] at e
      have e':=of_decide_eq_false e
      rw[jn] at e'
      have:=sa y (i-1) (by omega) hI1
      rw[BC hI1] at this
      omega
     have eI:i-1+1=i:=by omega
     dsimp only
     by_cases k20:j-1-q>0
     ·rw[if_pos k20]
      have m3:=m2.appB' sb k2n k2f'
      by_cases c6:q=1
      ·rw[if_pos (beq_iff_eq.mpr c6)]
       exact dz ⟨lk,.inl ⟨_,rfl,Ula m3 (by omega)⟩⟩
      rw[if_neg (fun q=>c6 (beq_iff_eq.mp q))]
      by_cases c8:q=0
      ·rw[if_pos (beq_iff_eq.mpr c8)]
       exact dz ⟨lk,.inl ⟨_,rfl,Udn m3 (.inr c8)⟩⟩
      rw[if_neg (fun q=>c8 (beq_iff_eq.mp q))]
      have m4:=m3.pushA1 sa hI hI1 k2t'
      refine dy (AN hI1 ?_)
      by_cases c7:i-1=0
      ·rw[if_pos (beq_iff_eq.mpr c7)]
       exact dz ⟨lk,.inl ⟨_,rfl,Udn m4 (.inl c7)⟩⟩
      rw[if_neg (fun q=>c7 (beq_iff_eq.mp q))]
      split
      ·exact dz ⟨lk,.inr ⟨_,_,_,_,_,_,rfl,m4,by omega,by omega,by omega⟩⟩
      ·exact dz ⟨lk,_,_,_,_,_,_,rfl,m4,by omega,by omega,by omega⟩
     ·rw[if_neg k20]
      have e2:q=j-1:=by omega
      rw[e2] at k2t'
      have m4:=m2.pushA1 sa hI hI1 k2t'
      refine dy (AN hI1 ?_)
      by_cases c7:i-1=0
      ·rw[if_pos (beq_iff_eq.mpr c7)]
       exact dz ⟨lk,.inl ⟨_,rfl,Udn m4 (.inl c7)⟩⟩
      rw[if_neg (fun q=>c7 (beq_iff_eq.mp q))]
      split
      ·exact dz ⟨lk,.inr ⟨_,_,_,_,_,_,rfl,m4,by omega,by omega,by omega⟩⟩
      ·exact dz ⟨lk,_,_,_,_,_,_,rfl,m4,by omega,by omega,by omega⟩
  ·rintro c st2 ⟨lk,out,i,j,mg,ac,bc,rfl,hd⟩
   have e:max 0 (a.size+b.size)=a.size+b.size:=by omega
   rw[e] at hd
   exact⟨lk,.inr ⟨_,_,_,_,_,_,rfl,hd.m,hd.hi,hd.hj,by have:=hd.hn;omega⟩⟩
  rintro c st2 ⟨lk,⟨r,e,f⟩| ⟨out,i,j,mg,ac,bc,rfl,hd⟩⟩
  ·obtain⟨c1,c2⟩:=c
   cases e
   exact dz ⟨lk,_,rfl,f⟩
  dsimp only
  refine dy (DH lk fun st3 lk=>?_)
  exact dz ⟨lk,_,_,_,_,rfl,hd⟩
 ·rintro c st1 ⟨lk,out,i,j,mg,rfl,hd⟩
  have e:max 0 (a.size+b.size)=a.size+b.size:=by omega
  rw[e] at hd
  have:=hd.hn
  have:=hd.hi
  have:=hd.hj
  omega
 ·rintro c st1 ⟨lk,r,e,f⟩
  obtain⟨c1,c2⟩:=c
  cases e
  exact dz (h _ _ lk f)
end SrtG
namespace SrtG
local macro_rules | `(tactic| omega) => `(tactic| first | lia | omega)
open PySem PyProof.Rows
variable{rk:Keyed→Int}
def Seg(rk:Keyed→Int)(arr:Array Keyed)(lo hi:Nat):Prop:=∀x y,lo≤x→x≤y→y<hi→RK rk arr x≤RK rk arr y
structure Upd(rk:Keyed→Int)(arr arr':Array Keyed)(lo hi:Nat):Prop where
 perm:arr'.toList.Perm arr.toList
 out:∀x,x<lo∨hi≤x→arr'[x]?=arr[x]?
 seg:Seg rk arr' lo hi
theorem Ck{arr arr':Array Keyed}{x:Nat}(h:arr'[x]?=arr[x]?):RK rk arr' x=RK rk arr x:=by unfold RK;rw[h]
abbrev back(l:List (Keyed×Nat))(lo:Nat)(arr:Array Keyed):Array Keyed:=l.foldl (fun a (p,j)=>a.setIfInBounds (lo+j) p) arr
theorem HI(lo:Nat):∀(l:List Keyed) (n:Nat) (arr:Array Keyed),lo+n+l.length≤arr.size→∀x,(back (l.zipIdx n) lo arr)[x]?=if lo+n≤x∧x<lo+n+l.length then l[x- (lo+n)]? else arr[x]?
 | [],n,arr,_,x=>by
  rw[if_neg (by rintro⟨h1,h2⟩;simp only[fL] at h2;omega)]
  rfl
 |p::l,n,arr,h,x=>by
  rw[eD] at h
  have e:back ((p::l).zipIdx n) lo arr=back (l.zipIdx (n+1)) lo (arr.setIfInBounds (lo+n) p):=by rw[mz];rfl
  rw[e,HI lo l (n+1) _ (by rw[Array.size_setIfInBounds];omega) x,eD]
  by_cases c:lo+(n+1)≤x∧x<lo+(n+1)+l.length
  ·rw[if_pos c,if_pos (by omega)]
   have e2:x- (lo+n)=(x- (lo+(n+1)))+1:=by omega
   rw[e2,iF]
  ·rw[if_neg c,Array.getElem?_setIfInBounds]
   by_cases c2:lo+n=x
   ·rw[if_pos c2,if_pos (by omega),if_pos (by omega)]
    have e2:x- (lo+n)=0:=by omega
    rw[e2];rfl
   ·rw[if_neg c2,if_neg (by omega)]
theorem PD{arr:Array Keyed}{l:List Keyed}{lo:Nat}(h:lo+l.length≤arr.size):(back l.zipIdx lo arr).toList=arr.toList.take lo++l++arr.toList.drop (lo+l.length):=by
 apply gI
 intro x
 rw[fh,HI lo l 0 arr (by omega) x]
 have hlen:arr.toList.length=arr.size:=eG
 by_cases c1:x<lo
 ·rw[if_neg (by omega),gk,fq (by rw[fk];omega),ko,if_pos c1,fh]
 ·by_cases c2:x<lo+l.length
  ·rw[if_pos (by omega),fq (by rw[eK,fk];omega),e8 (by rw[fk];omega),fk]
   have e:min lo arr.toList.length=lo:=by omega
   rw[e]
   rfl
  ·rw[if_neg (by omega),e8 (by rw[eK,fk];omega),iE,eK,fk]
   have e:lo+l.length+(x- (min lo arr.toList.length+l.length))=x:=by omega
   rw[e,fh]
theorem Qa{arr merged:Array Keyed}{lo hi s0 e0:Nat}(hhi:lo≤hi)(hs:s0≤lo)(he:hi≤e0)(hz:e0≤arr.size)(perm:merged.toList.Perm (arr.extract lo hi).toList)(srt:merged.toList.Pairwise fun x y=>rk x≤rk y)
  (hL:∀x z,s0≤x→x<lo→x≤z→z<e0→RK rk arr x≤RK rk arr z) (hR:∀z y,s0≤z→z≤y→hi≤y→y<e0→RK rk arr z≤RK rk arr y):Upd rk arr (back merged.toList.zipIdx lo arr) s0 e0:=by
 have hx:(arr.extract lo hi).toList=(arr.toList.drop lo).take (hi-lo):=by rw[gh,fG]
 have hlenA:arr.toList.length=arr.size:=eG
 have hlen:merged.toList.length=hi-lo:=by
  rw[perm.length_eq,hx,fk,gi]
  omega
 have hfit:lo+merged.toList.length≤arr.size:=by omega
 have hget:=HI lo merged.toList 0 arr (by omega)
 have hmid:∀m,m∈merged.toList→∃z,lo≤z∧z<hi∧rk m=RK rk arr z:=fun m hm=>by
  have hm':=perm.mem_iff.mp hm
  rw[hx] at hm'
  obtain⟨i,hi'⟩:=List.mem_iff_getElem?.mp hm'
  rw[ko] at hi'
  split at hi'
  ·rename_i hlt
   rw[iE,fh] at hi'
   exact⟨lo+i,by omega,by omega,by unfold RK;rw[hi']⟩
  ·cases hi'
 have hRK:∀x,lo≤x→x<hi→∃m,m∈merged.toList∧merged.toList[x-lo]?=some m∧RK rk (back merged.toList.zipIdx lo arr) x=rk m:=fun x h1 h2=>by
  have hl:x-lo<merged.toList.length:=by omega
  refine⟨_,gF hl,dt hl,?_⟩
  unfold RK
  rw[hget x,if_pos (by omega)]
  have e:x- (lo+0)=x-lo:=by omega
  rw[e,dt hl]
 have hout:∀x,x<lo∨hi≤x→(back merged.toList.zipIdx lo arr)[x]?=arr[x]?:=fun x h=>by
  rw[hget x,if_neg (by omega)]
 refine⟨?_,fun x h=>hout x (by omega),?_⟩
 ·rw[PD hfit]
  have e:arr.toList=arr.toList.take lo++((arr.toList.drop lo).take (hi-lo))++arr.toList.drop (lo+merged.toList.length):=by
   rw[gk]
   have e2:lo+merged.toList.length=lo+(hi-lo):=by omega
   rw[e2,←List.drop_drop,gW,gW]
  rw[hx] at perm
  have:=(perm.append_left (arr.toList.take lo)).append_right (arr.toList.drop (lo+merged.toList.length))
  rw[←e] at this
  exact this
 ·intro x y h1 h2 h3
  by_cases cx:x<lo
  ·rw[Ck (hout x (.inl cx))]
   by_cases cy:lo≤y∧y<hi
   ·obtain⟨m,hm,_,e⟩:=hRK y cy.1 cy.2
    obtain⟨z,z1,z2,ez⟩:=hmid m hm
    rw[e,ez]
    exact hL x z h1 cx (by omega) (by omega)
   ·rw[Ck (hout y (by omega))]
    exact hL x y h1 cx h2 h3
  ·by_cases cx2:x<hi
   ·obtain⟨m,hm,hm2,e⟩:=hRK x (by omega) cx2
    rw[e]
    by_cases cy:y<hi
    ·obtain⟨m',hm',hm2',e'⟩:=hRK y (by omega) cy
     rw[e']
     by_cases exy:x=y
     ·subst exy
      rw[hm2] at hm2'
      cases hm2'
      exact jb _
     ·have hl:y-lo<merged.toList.length:=by omega
      have hl':x-lo<merged.toList.length:=by omega
      have:=fF.mp srt (x-lo) (y-lo) hl' hl (by omega)
      rw[dt hl'] at hm2
      rw[dt hl] at hm2'
      cases hm2
      cases hm2'
      exact this
    ·rw[Ck (hout y (by omega))]
     obtain⟨z,z1,z2,ez⟩:=hmid m hm
     rw[ez]
     exact hR z y (by omega) (by omega) (by omega) h3
   ·rw[Ck (hout x (by omega)),Ck (hout y (by omega))]
    exact hR x y h1 h2 (by omega) h3
end SrtG
namespace SrtG
local macro_rules | `(tactic| omega) => `(tactic| first | lia | omega)
open PySem PyProof.Rows
variable{rk:Keyed→Int}
theorem GO{arr:Array Keyed}{l h:Nat}(hh:h≤arr.size):(arr.extract l h).size=h-l:=by rw[Array.size_extract];omega
theorem Qb{arr:Array Keyed}{l h x:Nat}(hx:x<h-l)(hh:h≤arr.size):(arr.extract l h)[x]?=arr[l+x]?:=by
 rw[←fh,gh,fG,ko,if_pos hx,iE,fh]
theorem Il{arr:Array Keyed}{l h x:Nat}(hx:x<h-l)(hh:h≤arr.size):RK rk (arr.extract l h) x=RK rk arr (l+x):=by unfold RK;rw[Qb hx hh]
theorem AllU.ex{U:Keyed→Prop}{arr:Array Keyed}{l h:Nat}(u:AllU U arr)(hh:h≤arr.size):AllU U (arr.extract l h):=fun i p e=>by
 have hi:i< (arr.extract l h).size:=by
  apply il
  intro hn
  rw[Array.getElem?_eq_none (kS hn)] at e
  cases e
 rw[GO hh] at hi
 rw[Qb hi hh] at e
 exact u _ _ e
theorem Seg.ex{arr:Array Keyed}{l h:Nat}(sg:Seg rk arr l h)(hh:h≤arr.size):FU rk (arr.extract l h):=fun i j hij hj=>by
 rw[GO hh] at hj
 rw[Il (by omega) hh,Il hj hh]
 exact sg _ _ (by omega) (by omega) (by omega)
section
variable{prog:Program}{w:World}{A:eU}{E:Value→a9→Prop}{s:a9}{kd:jU}{U:Keyed→Prop}
theorem Tg{st st':fH}{Q:PUnit→fH→Prop}(h:Q ⟨⟩ st'):wpS (model prog w) A E s (set st':StateT fH Sem PUnit) Q st:=by
 unfold wpS;rw[StateT.run_set];exact b9 ⟨rfl,h⟩
theorem LI{i sa na pa sb nb pb:Nat}{st:fH}{Q:Bool→fH→Prop}(C:Pp prog w A E s kd U rk)(hk:kindOf st=kd)(hU:AllU U (arrOf st))(hf:jA st=none)
  (h1:(pendingOf st)[i]?=some (sa,na,pa)) (h2:(pendingOf st)[i+1]?=some (sb,nb,pb)) (hsb:sb=sa+na) (hna:0<na) (hnb:0<nb) (hsz:sb+nb≤(arrOf st).size) (S1:Seg rk (arrOf st) sa sb) (S2:Seg rk (arrOf st) sb (sb+nb))
  (h:∀st',kindOf st'=kd→jA st'=none→pendingOf st'=((pendingOf st).setIfInBounds i (sa,na+nb,pa)).eraseIdxIfInBounds (i+1)→Upd rk (arrOf st) (arrOf st') sa (sb+nb)→Q true st'):
  wpS (model prog w) A E s (mergeAt' i) Q st:=by
 delta mergeAt'
 refine dy (ke ?_)
 rw[h1,h2]
 dsimp only
 refine dy (Tg ?_)
 have hsbz:sb< (arrOf st).size:=by omega
 have uAt:∀{i} (hi:i< (arrOf st).size),U (arrOf st)[i]:=fun hi=>hU _ _ (getElem?_pos (arrOf st) _ hi)
 refine dy (AN (arr:=arrOf st) hsbz ?_)
 refine dy (BJ (arr:=arrOf st) C hk (uAt hsbz) hU (by omega) hna ?_ ?_)
 ·intro p q hpq hq e
  unfold bt at e ⊢
  rw[if_neg eC] at e ⊢
  have e':=of_decide_eq_false (iy _|>.mp e)
  have:=S1 (sa+p) (sa+q) (by omega) (by omega) (by omega)
  exact(iy _).mpr (decide_eq_false (by omega))
 rintro k ⟨kn,kt,kf⟩
 have kt':∀x,sa≤x→x<sa+k→RK rk (arrOf st) x≤RK rk (arrOf st) sb:=fun x hx1 hx=>by
  have e:=kt (x-sa) (by omega)
  unfold bt at e
  rw[if_neg eC] at e
  have e':=of_decide_eq_false (iy _|>.mp e)
  have ex:sa+(x-sa)=x:=by omega
  rw[ex] at e'
  rw[BC hsbz]
  omega
 have kf':∀x,sa+k≤x→x<sb→RK rk (arrOf st) sb<RK rk (arrOf st) x:=fun x hx1 hx=>by
  have e:=kf (x-sa) (by omega) (by omega)
  unfold bt at e
  rw[if_neg eC] at e
  have e':=of_decide_eq_true (lR _|>.mp e)
  have ex:sa+(x-sa)=x:=by omega
  rw[ex] at e'
  rw[BC hsbz]
  omega
 dsimp only
 by_cases c1:na-k=0
 ·rw[if_pos (beq_iff_eq.mpr c1)]
  refine dz (h _ hk hf rfl ⟨jc.refl _,fun _ _=>rfl,fun x y hx1 hx2 hx3=>?_⟩)
  by_cases cy:y<sb
  ·exact S1 x y hx1 hx2 cy
  ·by_cases cx:x<sb
   ·have e1:=kt' x hx1 (by omega)
    have e2:=S2 sb y (by omega) (by omega) hx3
    exact jL e1 e2
   ·exact S2 x y (by omega) hx2 hx3
 rw[if_neg (fun q=>c1 (beq_iff_eq.mp q))]
 have el:sa+k+(na-k)-1=sb-1:=by omega
 rw[el]
 have hlz:sb-1< (arrOf st).size:=by omega
 refine dy (AN (arr:=arrOf st) hlz ?_)
 refine dy (BJ (arr:=arrOf st) C hk (uAt hlz) hU (by omega) (by omega) ?_ ?_)
 ·intro p q hpq hq e
  unfold bt at e ⊢
  rw[if_pos rfl] at e ⊢
  have e':=of_decide_eq_true e
  have:=S2 (sb+p) (sb+q) (by omega) (by omega) (by omega)
  exact decide_eq_true (by omega)
 rintro n2 ⟨nn,nt,nf⟩
 have nt':∀x,sb≤x→x<sb+n2→RK rk (arrOf st) x<RK rk (arrOf st) (sb-1):=fun x hx1 hx=>by
  have e:=nt (x-sb) (by omega)
  unfold bt at e
  rw[if_pos rfl] at e
  have e':=of_decide_eq_true e
  have ex:sb+(x-sb)=x:=by omega
  rw[ex] at e'
  rw[BC hlz]
  omega
 have nf':∀x,sb+n2≤x→x<sb+nb→RK rk (arrOf st) (sb-1)≤RK rk (arrOf st) x:=fun x hx1 hx=>by
  have e:=nf (x-sb) (by omega) (by omega)
  unfold bt at e
  rw[if_pos rfl] at e
  have e':=of_decide_eq_false e
  have ex:sb+(x-sb)=x:=by omega
  rw[ex] at e'
  rw[BC hlz]
  omega
 dsimp only
 have hlast:=kf' (sb-1) (by omega) (by omega)
 by_cases c2:n2=0
 ·have:=nf' sb (by omega) (by omega)
  omega
 rw[if_neg (fun q=>c2 (beq_iff_eq.mp q))]
 have hy:sb+n2≤(arrOf st).size:=by omega
 have hx':sb≤(arrOf st).size:=by omega
 have sA:FU rk ((arrOf st).extract (sa+k) sb):=Seg.ex (fun x y q1 q2 q3=>S1 x y (by omega) q2 q3) hx'
 have sB:FU rk ((arrOf st).extract sb (sb+n2)):=Seg.ex (fun x y q1 q2 q3=>S2 x y q1 q2 (by omega)) hy
 have zA:((arrOf st).extract (sa+k) sb).size=sb- (sa+k):=GO hx'
 have zB:((arrOf st).extract sb (sb+n2)).size=sb+n2-sb:=GO hy
 have q0:RK rk ((arrOf st).extract sb (sb+n2)) 0≤RK rk ((arrOf st).extract (sa+k) sb) 0:=by
  rw[Il (by omega) hy,Il (by omega) hx']
  have:=kf' (sa+k+0) (by omega) (by omega)
  exact iH this
 have q1:RK rk ((arrOf st).extract sb (sb+n2)) (((arrOf st).extract sb (sb+n2)).size-1)≤RK rk ((arrOf st).extract (sa+k) sb) (((arrOf st).extract (sa+k) sb).size-1):=by
  rw[zA,zB,Il (by omega) hy,Il (by omega) hx']
  have:=nt' (sb+(sb+n2-sb-1)) (by omega) (by omega)
  have e:sa+k+(sb- (sa+k)-1)=sb-1:=by omega
  rw[e]
  exact iH this
 have fin:∀r (st':fH),Like (lK st (((pendingOf st).setIfInBounds i (sa,na+nb,pa)).eraseIdxIfInBounds (i+1))) st'→Fin2 rk ((arrOf st).extract (sa+k) sb) ((arrOf st).extract sb (sb+n2)) r→
   wpS (model prog w) A E s (do
    modify fun z=>setArr z (back r.toList.zipIdx (sa+k) (arrOf z))
    return(jA (←get)).isNone) Q st':=fun r st' lk f=>by
  refine dy (jE ?_)
  refine dy (ke ?_)
  have e:(jA st').isNone=true:=by rw[lk.fl];show(jA st).isNone=true;rw[hf];rfl
  show wpS _ _ _ _ (pure ((jA st').isNone)) _ _
  rw[e]
  refine dz (h _ (lk.kd.trans hk) (lk.fl.trans hf) lk.pd ?_)
  have ea:arrOf st'=arrOf st:=lk.arr
  show Upd rk (arrOf st) (back r.toList.zipIdx (sa+k) (arrOf st')) sa (sb+nb)
  rw[ea]
  refine Qa (hi:=sb+n2) (by omega) (by omega) (by omega) hsz ?_ f.srt ?_ ?_
  ·have e2:((arrOf st).extract (sa+k) (sb+n2)).toList=((arrOf st).extract (sa+k) sb).toList++((arrOf st).extract sb (sb+n2)).toList:=by
    rw[gh,gh,gh,fG,fG,fG]
    have e3:sb+n2- (sa+k)=(sb- (sa+k))+(sb+n2-sb):=by omega
    rw[e3,List.take_add,List.drop_drop]
    have e4:sa+k+(sb- (sa+k))=sb:=by omega
    rw[e4]
   rw[e2]
   exact f.perm
  ·intro x z hx1 hx2 hx3 hx4
   by_cases cz:z<sb
   ·exact S1 x z hx1 hx3 cz
   ·have e1:=kt' x hx1 hx2
    have e2:=S2 sb z (by omega) (by omega) hx4
    exact jL e1 e2
  ·intro z y hx1 hx2 hx3 hx4
   by_cases cz:z<sb
   ·have e1:=S1 z (sb-1) hx1 (by omega) (by omega)
    exact jL e1 (nf' y hx3 hx4)
   ·exact S2 z y (by omega) hx2 hx4
 by_cases c3:na-k≤n2
 ·rw[if_pos c3]
  exact dy (LF (a:=(arrOf st).extract (sa+k) sb) (b:=(arrOf st).extract sb (sb+n2)) C hk (hU.ex hx') (hU.ex hy) sA sB (by omega) (by omega) q0 q1 fin)
 ·rw[if_neg c3]
  exact dy (LH (a:=(arrOf st).extract (sa+k) sb) (b:=(arrOf st).extract sb (sb+n2)) C hk (hU.ex hx') (hU.ex hy) sA sB (by omega) (by omega) q0 q1 fin)
end
end SrtG
namespace SrtG
open PySem PyProof.Rows
variable{rk:Keyed→Int}
structure Kp(st0 st:fH)(lo hi:Nat):Prop where
 kd:kindOf st=kindOf st0
 pd:pendingOf st=pendingOf st0
 fl:jA st=jA st0
 perm:(arrOf st).toList.Perm (arrOf st0).toList
 out:∀x,x<lo∨hi≤x→(arrOf st)[x]?=(arrOf st0)[x]?
theorem Kp.refl(st:fH)(lo hi:Nat):Kp st st lo hi:=⟨rfl,rfl,rfl,jc.refl _,fun _ _=>rfl⟩
theorem Kp.size{st0 st:fH}{lo hi:Nat}(k:Kp st0 st lo hi):(arrOf st).size=(arrOf st0).size:=by
 rw[←eG,←eG];exact k.perm.length_eq
theorem AllU.of_perm{U:Keyed→Prop}{a b:Array Keyed}(u:AllU U a)(p:b.toList.Perm a.toList):AllU U b:=fun i q e=>by
 have hm:q∈b.toList:=by rw[←fh] at e;exact dw e
 have hm':=p.mem_iff.mp hm
 obtain⟨j,hj⟩:=List.mem_iff_getElem?.mp hm'
 rw[fh] at hj
 exact u j q hj
theorem Kp.setA{st0 st:fH}{lo hi:Nat}(k:Kp st0 st lo hi){xs:Array Keyed}(hp:xs.toList.Perm (arrOf st).toList)(ho:∀x,x<lo∨hi≤x→xs[x]?=(arrOf st)[x]?):Kp st0 (setArr st xs) lo hi:=
 ⟨k.kd,k.pd,k.fl,hp.trans k.perm,fun x hx=> (ho x hx).trans (k.out x hx)⟩
theorem DZ{xs ys:Array Keyed}{i j:Nat}(h:xs[i]?=ys[j]?):RK rk xs i=RK rk ys j:=by unfold RK;rw[h]
theorem Im{xs:Array Keyed}{src d:Nat}(hs:src<xs.size)(hd:d≤src)(k:Nat):RK rk (bubble xs src d) k=if k=src-d then RK rk xs src else if src-d<k∧k≤src then RK rk xs (k-1) else RK rk xs k:=by
 have e:=getElem?_bubble hs d hd k
 by_cases c1:k=src-d
 ·rw[if_pos c1] at e ⊢;exact DZ e
 ·rw[if_neg c1] at e ⊢
  by_cases c2:src-d<k∧k≤src
  ·rw[if_pos c2] at e ⊢;exact DZ e
  ·rw[if_neg c2] at e ⊢;exact DZ e
section
variable{prog:Program}{w:World}{A:eU}{E:Value→a9→Prop}{s:a9}{kd:jU}{U:Keyed→Prop}
theorem BZ{st:fH}{i j:Nat}{Q:Option Bool→fH→Prop}(C:Pp prog w A E s kd U rk)(hk:kindOf st=kd)(hU:AllU U (arrOf st))(hi:i< (arrOf st).size)(hj:j< (arrOf st).size)
  (h:Q (some (decide (RK rk (arrOf st) i<RK rk (arrOf st) j))) st):wpS (model prog w) A E s (ltAt' i j) Q st:=by
 rw[ltAt'_eq]
 refine dy (ke ?_)
 refine dy (AN hi ?_)
 refine dy (AN hj ?_)
 rw[BC hi,BC hj] at h
 exact C _ _ _ _ hk (hU _ _ (getElem?_pos (arrOf st) _ hi)) (hU _ _ (getElem?_pos (arrOf st) _ hj)) h
theorem MZ{st:fH}{lo n ok:Nat}{Q:Bool→fH→Prop}(C:Pp prog w A E s kd U rk)(hk:kindOf st=kd)(hU:AllU U (arrOf st))(hn:lo+n≤(arrOf st).size)(hok:ok≤n)(hs:Seg rk (arrOf st) lo (lo+ok))
  (h:∀st',Kp st st' lo (lo+n)→Seg rk (arrOf st') lo (lo+n)→Q true st'):wpS (model prog w) A E s (binarySort' lo n ok) Q st:=by
 rw[binarySort'_eq]
 refine dy (ig (fS (I:=fun k c st'=>c=(none,())∧Kp st st' lo (lo+n)∧Seg rk (arrOf st') lo (lo+min k n))
  (Q:=fun c st'=>c=(none,())∧Kp st st' lo (lo+n)∧Seg rk (arrOf st') lo (lo+n)) ?step ?fin ?init) ?post)
 case post=>
  rintro c st' ⟨rfl,hB',hs'⟩
  exact dz (h st' hB' hs')
 case init=>
  refine⟨rfl,Kp.refl _ _ _,fun i j hi hij hj=>?_⟩
  by_cases c1:ok=0
  ·have:i=j:=by omega
   subst this;exact jb _
  ·exact hs i j hi hij (by omega)
 case fin=>
  rintro c st' ⟨hc,hB',hs'⟩
  refine⟨hc,hB',?_⟩
  have e:min (max (max ok 1) n) n=n:=by omega
  rwa[e] at hs'
 case step=>
  rintro k c st' hak hkn ⟨rfl,hB',hs'⟩
  have e:min k n=k:=by omega
  rw[e] at hs'
  have hz:=hB'.size
  have hks:lo+k< (arrOf st').size:=by omega
  have hU':=hU.of_perm hB'.perm
  refine dy (ig (fS (I:=fun x c st''=>st''=st'∧∃l r,c=(none,l,r)∧l≤r∧r≤k∧r-l≤k-x∧
    (∀i,i<l→RK rk (arrOf st') (lo+i)≤RK rk (arrOf st') (lo+k))∧(∀i,r≤i→i<k→RK rk (arrOf st') (lo+k)<RK rk (arrOf st') (lo+i)))
   (Q:=fun c st''=>st''=st'∧∃l r,c=(none,l,r)∧l≤k∧
    (∀i,i<l→RK rk (arrOf st') (lo+i)≤RK rk (arrOf st') (lo+k))∧(∀i,l≤i→i<k→RK rk (arrOf st') (lo+k)<RK rk (arrOf st') (lo+i))) ?istep ?ifin ?iinit) ?ipost)
  case iinit=>exact⟨rfl,0,k,rfl,by omega,by omega,by omega,fun i hi=>by omega,fun i h1 h2=>by omega⟩
  case ifin=>
   rintro c st'' ⟨rfl,l,r,rfl,hlr,hrk,hm,hlo,hhi⟩
   have:l=r:=by omega
   subst this
   exact⟨rfl,l,l,rfl,hrk,hlo,hhi⟩
  case istep=>
   rintro x c st'' _ hxk ⟨rfl,l,r,rfl,hlr,hrk,hm,hlo,hhi⟩
   dsimp only
   by_cases hge:l≥r
   ·rw[if_pos hge]
    have:l=r:=by omega
    subst this
    exact dz ⟨rfl,l,l,rfl,hrk,hlo,hhi⟩
   ·rw[if_neg hge]
    refine dy (BZ C (hB'.kd.trans hk) hU' hks (by omega) ?_)
    dsimp only
    by_cases hless:RK rk (arrOf st'') (lo+k)<RK rk (arrOf st'') (lo+(l+r)/2)
    ·rw[if_pos (decide_eq_true hless)]
     refine dz ⟨rfl,l,(l+r)/2,rfl,by omega,by omega,by omega,hlo,fun i q1 q2=>?_⟩
     exact Int.lt_of_lt_of_le hless (hs' _ _ (by omega) (by omega) (by omega))
    ·rw[if_neg (fun q=>hless (of_decide_eq_true q))]
     refine dz ⟨rfl,(l+r)/2+1,r,rfl,by omega,by omega,by omega,fun i q1=>?_,hhi⟩
     exact jL (hs' (lo+i) (lo+(l+r)/2) (by omega) (by omega) (by omega)) (Int.not_lt.mp hless)
  case ipost=>
   rintro c st'' ⟨rfl,l,r,rfl,hlk,hlo,hhi⟩
   show wpS _ _ _ _ (do moveDown' (lo+k) (lo+l);pure (iM (none,()))) _ _
   rw[moveDown'_eq]
   have ed:lo+k- (lo+l)=k-l:=by omega
   refine dy (jE (dz ⟨rfl,hB'.setA (Array.perm_iff_toList_perm.mp (bubble_perm _ _ _)) ?_,?_⟩))
   ·intro x hx
    rw[ed,getElem?_bubble hks _ (by omega),if_neg (by omega),if_neg (by omega)]
   have e2:lo+min (k+1) n=lo+k+1:=by omega
   rw[e2]
   intro i j hi hij hj
   show RK rk (bubble (arrOf st'') (lo+k) (lo+k- (lo+l))) i≤RK rk (bubble (arrOf st'') (lo+k) (lo+k- (lo+l))) j
   rw[ed,Im hks (by omega),Im hks (by omega)]
   have e3:lo+k- (k-l)=lo+l:=by omega
   rw[e3]
   have hlo':∀i,lo≤i→i<lo+l→RK rk (arrOf st'') i≤RK rk (arrOf st'') (lo+k):=fun i q1 q2=>by
    have:=hlo (i-lo) (by omega)
    have e4:lo+(i-lo)=i:=by omega
    rwa[e4] at this
   have hhi':∀i,lo+l≤i→i<lo+k→RK rk (arrOf st'') (lo+k)≤RK rk (arrOf st'') i:=fun i q1 q2=>by
    have:=hhi (i-lo) (by omega) (by omega)
    have e4:lo+(i-lo)=i:=by omega
    rw[e4] at this
    exact iH this
   repeat' split
   all_goals first
    | (exfalso;omega)
    |exact jb _
    |exact hlo' _ (by omega) (by omega)
    |exact hhi' _ (by omega) (by omega)
    |exact hs' _ _ (by omega) (by omega) (by omega)
end
local macro_rules | `(tactic| omega) => `(tactic| first | lia | omega)
open PySem PyProof.Rows
variable{rk:Keyed→Int}
def Dsc(rk:Keyed→Int)(arr:Array Keyed)(lo hi:Nat):Prop:=∀x y,lo≤x→x≤y→y<hi→RK rk arr y≤RK rk arr x
theorem PF{xs:Array Keyed}{i j:Nat}(hj:j≤xs.size)(k:Nat):RK rk (mirror xs i j ((j-i)/2)) k=if i≤k∧k<j then RK rk xs (i+j-1-k) else RK rk xs k:=by
 have e:=getElem?_mirror_all (i:=i) hj k
 by_cases c1:i≤k∧k<j
 ·rw[if_pos c1] at e ⊢;exact DZ e
 ·rw[if_neg c1] at e ⊢;exact DZ e
section
variable{prog:Program}{w:World}{A:eU}{E:Value→a9→Prop}{s:a9}{kd:jU}{U:Keyed→Prop}
theorem Ej{st0 st:fH}{lo hi i j:Nat}{Q:Unit→fH→Prop}(k:Kp st0 st lo hi)(h1:lo≤i)(h2:j≤hi)(hj:j≤(arrOf st).size)
  (h:∀st',Kp st0 st' lo hi→(∀k,RK rk (arrOf st') k=if i≤k∧k<j then RK rk (arrOf st) (i+j-1-k) else RK rk (arrOf st) k)→Q () st'):wpS (model prog w) A E s (reverseSlice' i j) Q st:=by
 rw[reverseSlice'_eq]
 refine jE (h _ (k.setA (Array.perm_iff_toList_perm.mp (mirror_perm _ _ _ _)) fun x hx=>?_) fun k=>PF hj k)
 rw[getElem?_mirror_all hj,if_neg (by omega)]
theorem Da{st0 st:fH}{lo hi i j:Nat}{Q:Unit→fH→Prop}(k:Kp st0 st lo hi)(h1:lo≤i)(h2:j≤hi)(hj:j≤(arrOf st).size)(heq:∀k,i≤k→k<j→RK rk (arrOf st) k=RK rk (arrOf st) (j-1))
  (h:∀st',Kp st0 st' lo hi→(∀k,RK rk (arrOf st') k=RK rk (arrOf st) k)→Q () st'):wpS (model prog w) A E s (reverseSlice' i j) Q st:=by
 refine Ej (rk:=rk) k h1 h2 hj fun st' k' e=>h st' k' fun x=>?_
 rw[e x]
 split
 ·rw[heq _ (by omega) (by omega),heq x (by omega) (by omega)]
 ·rfl
theorem Seg.up{arr:Array Keyed}{lo n:Nat}(sg:Seg rk arr lo (lo+n))(h1:1≤n)(hx:¬RK rk arr (lo+n)<RK rk arr (lo+n-1)):Seg rk arr lo (lo+(n+1)):=fun i j hi hij hj=>by
 by_cases c:j<lo+n
 ·exact sg i j hi hij c
 ·have e:j=lo+n:=by omega
  subst e
  by_cases c2:i=lo+n
  ·subst c2;exact jb _
  ·exact jL (sg i (lo+n-1) hi (by omega) (by omega)) (Int.not_lt.mp hx)
theorem Dsc.up{arr arr':Array Keyed}{lo n:Nat}(sg:Dsc rk arr lo (lo+n))(h1:1≤n)(hx:RK rk arr (lo+n)≤RK rk arr (lo+n-1))(he:∀k,RK rk arr' k=RK rk arr k):Dsc rk arr' lo (lo+(n+1)):=fun i j hi hij hj=>by
 rw[he,he]
 by_cases c:j<lo+n
 ·exact sg i j hi hij c
 ·have e:j=lo+n:=by omega
  subst e
  by_cases c2:i=lo+n
  ·subst c2;exact jb _
  ·exact jL hx (sg i (lo+n-1) hi (by omega) (by omega))
theorem Ma{st:fH}{lo nrem:Nat}{Q:Option Nat→fH→Prop}(C:Pp prog w A E s kd U rk)(hk:kindOf st=kd)(hU:AllU U (arrOf st))(hn:lo+nrem≤(arrOf st).size)(h1:1≤nrem)
  (h:∀m st',Kp st st' lo (lo+nrem)→1≤m→m≤nrem→Seg rk (arrOf st') lo (lo+m)→Q (some m) st'):
  wpS (model prog w) A E s (countRun' lo nrem) Q st:=by
 rw[countRun'_eq]
 refine dy (ig (fS (I:=fun x c st'=>st'=st∧c=(none,x)∧Seg rk (arrOf st) lo (lo+x))
  (Q:=fun c st'=>st'=st∧∃n,c=(none,n)∧1≤n∧n≤nrem∧Seg rk (arrOf st) lo (lo+n)∧(n=nrem∨RK rk (arrOf st) (lo+n)<RK rk (arrOf st) (lo+n-1))) ?step ?fin ⟨rfl,rfl,fun i j hi hij hj=>by have:i=j:=(by omega);subst this;exact jb _⟩) ?post)
 case fin=>
  rintro c st' ⟨rfl,rfl,hs'⟩
  have e:max 1 nrem=nrem:=by omega
  rw[e] at hs' ⊢
  exact⟨rfl,nrem,rfl,h1,dv _,hs',.inl rfl⟩
 case step=>
  rintro x c st' hax hxn ⟨rfl,rfl,hs'⟩
  dsimp only
  refine dy (BZ C hk hU (by omega) (by omega) ?_)
  dsimp only
  by_cases hless:RK rk (arrOf st') (lo+x)<RK rk (arrOf st') (lo+x-1)
  ·rw[if_pos (decide_eq_true hless)]
   exact dz ⟨rfl,x,rfl,hax,by omega,hs',.inr hless⟩
  ·rw[if_neg (fun q=>hless (of_decide_eq_true q))]
   exact dz ⟨rfl,rfl,hs'.up hax hless⟩
 case post=>
  rintro c st' ⟨rfl,n,rfl,hn1,hn2,hsn,hor⟩
  dsimp only
  by_cases hnn:n=nrem
  ·rw[if_pos (beq_iff_eq.mpr hnn)]
   exact dz (h n _ (Kp.refl _ _ _) hn1 hn2 hsn)
  rw[if_neg (fun q=>hnn (beq_iff_eq.mp q))]
  have hlt:=hor.resolve_left hnn
  by_cases hgt:n>1
  ·rw[if_pos hgt]
   refine dy (BZ C hk hU (by omega) (by omega) ?_)
   dsimp only
   by_cases hrose:RK rk (arrOf st') lo<RK rk (arrOf st') (lo+n-1)
   ·rw[if_pos (decide_eq_true hrose)]
    exact dz (h n _ (Kp.refl _ _ _) hn1 hn2 hsn)
   rw[if_neg (fun q=>hrose (of_decide_eq_true q))]
   have hall:∀k,lo≤k→k<lo+n→RK rk (arrOf st') k=RK rk (arrOf st') (lo+n-1):=fun k q1 q2=>by
    have a1:=hsn lo k (by omega) q1 q2
    have a2:=hsn k (lo+n-1) q1 (by omega) (by omega)
    omega
   refine dy (Da (rk:=rk) (Kp.refl st' lo (lo+nrem)) (dv _) (by omega) (by omega) hall fun st2 kp hRK=>?_)
   have hd:Dsc rk (arrOf st2) lo (lo+(n+1)):=Dsc.up (arr:=arrOf st') (fun i j q1 q2 q3=>by rw[hall i q1 (by omega),hall j (by omega) q3];exact jb _) hn1 (iH hlt) hRK
   refine dy (kX (je ⟨rfl,?_⟩))
   refine dy (ig (fS (I:=fun x c st3=>∃neq,c=(none,x,neq)∧Kp st' st3 lo (lo+nrem)∧Dsc rk (arrOf st3) lo (lo+x)∧neq+1≤x∧(∀i,lo+x- (neq+1)≤i→i<lo+x→RK rk (arrOf st3) i=RK rk (arrOf st3) (lo+x-1)))
    (Q:=fun c st3=>∃m neq,c=(none,m,neq)∧Kp st' st3 lo (lo+nrem)∧n+1≤m∧m≤nrem∧Dsc rk (arrOf st3) lo (lo+m)∧neq+1≤m∧(∀i,lo+m- (neq+1)≤i→i<lo+m→RK rk (arrOf st3) i=RK rk (arrOf st3) (lo+m-1))) ?_ ?_ ⟨0,rfl,kp,hd,by omega,fun i q1 q2=>by congr 1;omega⟩) ?_)
   ·rintro x c st3 hax hxn ⟨neq,rfl,kp,hd,hq,he⟩
    have hz:=kp.size
    have hU3:=hU.of_perm kp.perm
    dsimp only
    refine dy (BZ C (kp.kd.trans hk) hU3 (by omega) (by omega) ?_)
    dsimp only
    by_cases hless:RK rk (arrOf st3) (lo+x)<RK rk (arrOf st3) (lo+x-1)
    ·rw[if_pos (decide_eq_true hless)]
     by_cases hneq:neq>0
     ·rw[if_pos hneq]
      refine dy (Da (rk:=rk) kp (by omega) (by omega) (by omega) he fun st4 kp4 hRK=>?_)
      exact dz ⟨0,rfl,kp4,hd.up (by omega) (iH hless) hRK,by omega,fun i q1 q2=>by congr 1;omega⟩
     ·rw[if_neg hneq]
      exact dz ⟨0,rfl,kp,hd.up (by omega) (iH hless) fun _=>rfl,by omega,fun i q1 q2=>by congr 1;omega⟩
    ·rw[if_neg (fun q=>hless (of_decide_eq_true q))]
     refine dy (BZ C (kp.kd.trans hk) hU3 (by omega) (by omega) ?_)
     dsimp only
     by_cases hlarger:RK rk (arrOf st3) (lo+x-1)<RK rk (arrOf st3) (lo+x)
     ·rw[if_pos (decide_eq_true hlarger)]
      exact dz ⟨x,neq,rfl,kp,hax,by omega,hd,hq,he⟩
     ·rw[if_neg (fun q=>hlarger (of_decide_eq_true q))]
      have heqx:RK rk (arrOf st3) (lo+x)=RK rk (arrOf st3) (lo+x-1):=by omega
      refine dz ⟨neq+1,rfl,kp,hd.up (by omega) (by omega) fun _=>rfl,by omega,fun i q1 q2=>?_⟩
      have e1:lo+(x+1)-1=lo+x:=by omega
      rw[e1]
      by_cases hix:i=lo+x
      ·rw[hix]
      ·rw[heqx];exact he i (by omega) (by omega)
   ·rintro c st3 ⟨neq,rfl,kp,hd,hq,he⟩
    have e:max (n+1) nrem=nrem:=by omega
    rw[e] at hd hq he ⊢
    exact⟨nrem,neq,rfl,kp,by omega,dv _,hd,hq,he⟩
   rintro c st3 ⟨m,neq,rfl,kp,hm1,hm2,hd,hq,he⟩
   have hz:=kp.size
   dsimp only
   have rest:∀(st4:fH),Kp st' st4 lo (lo+nrem)→Dsc rk (arrOf st4) lo (lo+m)→∀st5,Kp st' st5 lo (lo+nrem)→(∀k,RK rk (arrOf st5) k=if lo≤k∧k<lo+m then RK rk (arrOf st4) (lo+(lo+m)-1-k) else RK rk (arrOf st4) k)→Seg rk (arrOf st5) lo (lo+m):=fun st4 _ d4 st5 _ e5 i j q1 q2 q3=>by
    rw[e5,e5,if_pos (by omega),if_pos (by omega)]
    exact d4 _ _ (by omega) (by omega) (by omega)
   by_cases hneq:neq>0
   ·rw[if_pos hneq]
    refine dy (Da (rk:=rk) kp (by omega) (by omega) (by omega) he fun st4 kp4 hRK=>?_)
    have d4:Dsc rk (arrOf st4) lo (lo+m):=fun i j q1 q2 q3=>by rw[hRK,hRK];exact hd i j q1 q2 q3
    have hz4:=kp4.size
    refine dy (Ej (rk:=rk) kp4 (dv _) (by omega) (by omega) fun st5 kp5 e5=>?_)
    have s5:=rest _ kp4 d4 st5 kp5 e5
    have hz5:=kp5.size
    have hU5:=hU.of_perm kp5.perm
    refine dy (ig (fS (I:=fun x c st6=>st6=st5∧c=(none,x)∧Seg rk (arrOf st5) lo (lo+x))
     (Q:=fun c st6=>st6=st5∧∃n,c=(none,n)∧1≤n∧n≤nrem∧Seg rk (arrOf st5) lo (lo+n)) ?_ ?_ ⟨rfl,rfl,s5⟩) ?_)
    ·rintro x c st6 hax hxn ⟨rfl,rfl,hs'⟩
     dsimp only
     refine dy (BZ C (kp5.kd.trans hk) hU5 (by omega) (by omega) ?_)
     dsimp only
     by_cases hless:RK rk (arrOf st6) (lo+x)<RK rk (arrOf st6) (lo+x-1)
     ·rw[if_pos (decide_eq_true hless)]
      exact dz ⟨rfl,x,rfl,by omega,by omega,hs'⟩
     ·rw[if_neg (fun q=>hless (of_decide_eq_true q))]
      exact dz ⟨rfl,rfl,hs'.up (by omega) hless⟩
    ·rintro c st6 ⟨rfl,rfl,hs'⟩
     have e:max m nrem=nrem:=by omega
     rw[e] at hs' ⊢
     exact⟨rfl,nrem,rfl,h1,dv _,hs'⟩
    rintro c st6 ⟨rfl,n5,rfl,q1,q2,q3⟩
    exact dz (h n5 _ kp5 q1 q2 q3)
   ·rw[if_neg hneq]
    have kp4:=kp
    have d4:=hd
    have hz4:=hz
    refine dy (Ej (rk:=rk) kp4 (dv _) (by omega) (by omega) fun st5 kp5 e5=>?_)
    have s5:=rest _ kp4 d4 st5 kp5 e5
    have hz5:=kp5.size
    have hU5:=hU.of_perm kp5.perm
    refine dy (ig (fS (I:=fun x c st6=>st6=st5∧c=(none,x)∧Seg rk (arrOf st5) lo (lo+x))
     (Q:=fun c st6=>st6=st5∧∃n,c=(none,n)∧1≤n∧n≤nrem∧Seg rk (arrOf st5) lo (lo+n)) ?_ ?_ ⟨rfl,rfl,s5⟩) ?_)
    ·rintro x c st6 hax hxn ⟨rfl,rfl,hs'⟩
     dsimp only
     refine dy (BZ C (kp5.kd.trans hk) hU5 (by omega) (by omega) ?_)
     dsimp only
     by_cases hless:RK rk (arrOf st6) (lo+x)<RK rk (arrOf st6) (lo+x-1)
     ·rw[if_pos (decide_eq_true hless)]
      exact dz ⟨rfl,x,rfl,by omega,by omega,hs'⟩
     ·rw[if_neg (fun q=>hless (of_decide_eq_true q))]
      exact dz ⟨rfl,rfl,hs'.up (by omega) hless⟩
    ·rintro c st6 ⟨rfl,rfl,hs'⟩
     have e:max m nrem=nrem:=by omega
     rw[e] at hs' ⊢
     exact⟨rfl,nrem,rfl,h1,dv _,hs'⟩
    rintro c st6 ⟨rfl,n5,rfl,q1,q2,q3⟩
    exact dz (h n5 _ kp5 q1 q2 q3)
  ·rw[if_neg hgt]
   have hd:Dsc rk (arrOf st') lo (lo+(n+1)):=Dsc.up (arr:=arrOf st') (fun i j q1 q2 q3=>by have:i=j:=(by omega);subst this;exact jb _) hn1 (iH hlt) fun _=>rfl
   have kp:=Kp.refl st' lo (lo+nrem)
   refine dy (kX (je ⟨rfl,?_⟩))
   refine dy (ig (fS (I:=fun x c st3=>∃neq,c=(none,x,neq)∧Kp st' st3 lo (lo+nrem)∧Dsc rk (arrOf st3) lo (lo+x)∧neq+1≤x∧(∀i,lo+x- (neq+1)≤i→i<lo+x→RK rk (arrOf st3) i=RK rk (arrOf st3) (lo+x-1)))
    (Q:=fun c st3=>∃m neq,c=(none,m,neq)∧Kp st' st3 lo (lo+nrem)∧n+1≤m∧m≤nrem∧Dsc rk (arrOf st3) lo (lo+m)∧neq+1≤m∧(∀i,lo+m- (neq+1)≤i→i<lo+m→RK rk (arrOf st3) i=RK rk (arrOf st3) (lo+m-1))) ?_ ?_ ⟨0,rfl,kp,hd,by omega,fun i q1 q2=>by congr 1;omega⟩) ?_)
   ·rintro x c st3 hax hxn ⟨neq,rfl,kp,hd,hq,he⟩
    have hz:=kp.size
    have hU3:=hU.of_perm kp.perm
    dsimp only
    refine dy (BZ C (kp.kd.trans hk) hU3 (by omega) (by omega) ?_)
    dsimp only
    by_cases hless:RK rk (arrOf st3) (lo+x)<RK rk (arrOf st3) (lo+x-1)
    ·rw[if_pos (decide_eq_true hless)]
     by_cases hneq:neq>0
     ·rw[if_pos hneq]
      refine dy (Da (rk:=rk) kp (by omega) (by omega) (by omega) he fun st4 kp4 hRK=>?_)
      exact dz ⟨0,rfl,kp4,hd.up (by omega) (iH hless) hRK,by omega,fun i q1 q2=>by congr 1;omega⟩
     ·rw[if_neg hneq]
      exact dz ⟨0,rfl,kp,hd.up (by omega) (iH hless) fun _=>rfl,by omega,fun i q1 q2=>by congr 1;omega⟩
    ·rw[if_neg (fun q=>hless (of_decide_eq_true q))]
     refine dy (BZ C (kp.kd.trans hk) hU3 (by omega) (by omega) ?_)
     dsimp only
     by_cases hlarger:RK rk (arrOf st3) (lo+x-1)<RK rk (arrOf st3) (lo+x)
     ·rw[if_pos (decide_eq_true hlarger)]
      exact dz ⟨x,neq,rfl,kp,hax,by omega,hd,hq,he⟩
     ·rw[if_neg (fun q=>hlarger (of_decide_eq_true q))]
      have heqx:RK rk (arrOf st3) (lo+x)=RK rk (arrOf st3) (lo+x-1):=by omega
      refine dz ⟨neq+1,rfl,kp,hd.up (by omega) (by omega) fun _=>rfl,by omega,fun i q1 q2=>?_⟩
      have e1:lo+(x+1)-1=lo+x:=by omega
      rw[e1]
      by_cases hix:i=lo+x
      ·rw[hix]
      ·rw[heqx];exact he i (by omega) (by omega)
   ·rintro c st3 ⟨neq,rfl,kp,hd,hq,he⟩
    have e:max (n+1) nrem=nrem:=by omega
    rw[e] at hd hq he ⊢
    exact⟨nrem,neq,rfl,kp,by omega,dv _,hd,hq,he⟩
   rintro c st3 ⟨m,neq,rfl,kp,hm1,hm2,hd,hq,he⟩
   have hz:=kp.size
   dsimp only
   have rest:∀(st4:fH),Kp st' st4 lo (lo+nrem)→Dsc rk (arrOf st4) lo (lo+m)→∀st5,Kp st' st5 lo (lo+nrem)→(∀k,RK rk (arrOf st5) k=if lo≤k∧k<lo+m then RK rk (arrOf st4) (lo+(lo+m)-1-k) else RK rk (arrOf st4) k)→Seg rk (arrOf st5) lo (lo+m):=fun st4 _ d4 st5 _ e5 i j q1 q2 q3=>by
    rw[e5,e5,if_pos (by omega),if_pos (by omega)]
    exact d4 _ _ (by omega) (by omega) (by omega)
   by_cases hneq:neq>0
   ·rw[if_pos hneq]
    refine dy (Da (rk:=rk) kp (by omega) (by omega) (by omega) he fun st4 kp4 hRK=>?_)
    have d4:Dsc rk (arrOf st4) lo (lo+m):=fun i j q1 q2 q3=>by rw[hRK,hRK];exact hd i j q1 q2 q3
    have hz4:=kp4.size
    refine dy (Ej (rk:=rk) kp4 (dv _) (by omega) (by omega) fun st5 kp5 e5=>?_)
    have s5:=rest _ kp4 d4 st5 kp5 e5
    have hz5:=kp5.size
    have hU5:=hU.of_perm kp5.perm
    refine dy (ig (fS (I:=fun x c st6=>st6=st5∧c=(none,x)∧Seg rk (arrOf st5) lo (lo+x))
     (Q:=fun c st6=>st6=st5∧∃n,c=(none,n)∧1≤n∧n≤nrem∧Seg rk (arrOf st5) lo (lo+n)) ?_ ?_ ⟨rfl,rfl,s5⟩) ?_)
    ·rintro x c st6 hax hxn ⟨rfl,rfl,hs'⟩
     dsimp only
     refine dy (BZ C (kp5.kd.trans hk) hU5 (by omega) (by omega) ?_)
     dsimp only
     by_cases hless:RK rk (arrOf st6) (lo+x)<RK rk (arrOf st6) (lo+x-1)
     ·rw[if_pos (decide_eq_true hless)]
      exact dz ⟨rfl,x,rfl,by omega,by omega,hs'⟩
     ·rw[if_neg (fun q=>hless (of_decide_eq_true q))]
      exact dz ⟨rfl,rfl,hs'.up (by omega) hless⟩
    ·rintro c st6 ⟨rfl,rfl,hs'⟩
     have e:max m nrem=nrem:=by omega
     rw[e] at hs' ⊢
     exact⟨rfl,nrem,rfl,h1,dv _,hs'⟩
    rintro c st6 ⟨rfl,n5,rfl,q1,q2,q3⟩
    exact dz (h n5 _ kp5 q1 q2 q3)
   ·rw[if_neg hneq]
    have kp4:=kp
    have d4:=hd
    have hz4:=hz
    refine dy (Ej (rk:=rk) kp4 (dv _) (by omega) (by omega) fun st5 kp5 e5=>?_)
    have s5:=rest _ kp4 d4 st5 kp5 e5
    have hz5:=kp5.size
    have hU5:=hU.of_perm kp5.perm
    refine dy (ig (fS (I:=fun x c st6=>st6=st5∧c=(none,x)∧Seg rk (arrOf st5) lo (lo+x))
     (Q:=fun c st6=>st6=st5∧∃n,c=(none,n)∧1≤n∧n≤nrem∧Seg rk (arrOf st5) lo (lo+n)) ?_ ?_ ⟨rfl,rfl,s5⟩) ?_)
    ·rintro x c st6 hax hxn ⟨rfl,rfl,hs'⟩
     dsimp only
     refine dy (BZ C (kp5.kd.trans hk) hU5 (by omega) (by omega) ?_)
     dsimp only
     by_cases hless:RK rk (arrOf st6) (lo+x)<RK rk (arrOf st6) (lo+x-1)
     ·rw[if_pos (decide_eq_true hless)]
      exact dz ⟨rfl,x,rfl,by omega,by omega,hs'⟩
     ·rw[if_neg (fun q=>hless (of_decide_eq_true q))]
      exact dz ⟨rfl,rfl,hs'.up (by omega) hless⟩
    ·rintro c st6 ⟨rfl,rfl,hs'⟩
     have e:max m nrem=nrem:=by omega
     rw[e] at hs' ⊢
     exact⟨rfl,nrem,rfl,h1,dv _,hs'⟩
    rintro c st6 ⟨rfl,n5,rfl,q1,q2,q3⟩
    exact dz (h n5 _ kp5 q1 q2 q3)
end
end SrtG
namespace SrtG
local macro_rules | `(tactic| omega) => `(tactic| first | lia | omega)
open PySem PyProof.Rows
variable{rk:Keyed→Int}
abbrev Qc:=Nat×Nat×Nat
def Cov(rk:Keyed→Int)(arr:Array Keyed):Nat→List Qc→Nat→Prop
 |a,[],hi=>a=hi
 |a,e::l,hi=>e.1=a∧0<e.2.1∧Seg rk arr a (a+e.2.1)∧Cov rk arr (a+e.2.1) l hi
theorem Cov.le{arr:Array Keyed}:∀{l:List Qc} {a hi:Nat},Cov rk arr a l hi→a+l.length≤hi
 | [],a,hi,h=>by have:a=hi:=h;simp only[fL];omega
 |e::l,a,hi,h=>by have:=Cov.le h.2.2.2;have:=h.2.1;rw[eD];omega
theorem Cov.app{arr:Array Keyed}:∀{l1:List Qc} {l2:List Qc} {a hi:Nat},Cov rk arr a (l1++l2) hi↔∃m,Cov rk arr a l1 m∧Cov rk arr m l2 hi
 | [],l2,a,hi=> ⟨fun h=> ⟨a,rfl,h⟩,fun⟨m,h1,h2⟩=>by have:a=m:=h1;subst this;exact h2⟩
 |e::l1,l2,a,hi=> ⟨fun⟨h1,h2,h3,h4⟩=>by
   obtain⟨m,q1,q2⟩:=Cov.app.mp h4
   exact⟨m,⟨h1,h2,h3,q1⟩,q2⟩,fun⟨m,⟨h1,h2,h3,h4⟩,q2⟩=> ⟨h1,h2,h3,Cov.app.mpr ⟨m,h4,q2⟩⟩⟩
theorem Cov.cong{arr arr':Array Keyed}:∀{l:List Qc} {a hi:Nat},(∀x,a≤x→x<hi→RK rk arr' x=RK rk arr x)→Cov rk arr a l hi→Cov rk arr' a l hi
 | [],_,_,_,h=>h
 |e::l,a,hi,hx,⟨h1,h2,h3,h4⟩=>by
  have hl:=h4.le
  exact⟨h1,h2,fun x y q1 q2 q3=>by rw[hx x q1 (by omega),hx y (by omega) (by omega)];exact h3 x y q1 q2 q3,h4.cong fun x q1 q2=>hx x (by omega) q2⟩
theorem Wn{p:Array Qc}{i:Nat}(h:i+1<p.size):∃l1 e1 e2 l2,p.toList=l1++e1::e2::l2∧l1.length=i∧p[i]?=some e1∧p[i+1]?=some e2:=by
 have hl:p.toList.length=p.size:=eG
 have h1:i<p.toList.length:=by omega
 have h2:i+1<p.toList.length:=by omega
 refine⟨p.toList.take i,p.toList[i],p.toList[i+1],p.toList.drop (i+2),?_,?_,?_,?_⟩
 ·rw[←iO h2,←iO h1,gW]
 ·rw[fk];omega
 ·rw[←fh];exact dt h1
 ·rw[←fh];exact dt h2
theorem Wo{p:Array Qc}{i:Nat}{e e1 e2:Qc}{l1 l2:List Qc}(hp:p.toList=l1++e1::e2::l2)(hl:l1.length=i):((p.setIfInBounds i e).eraseIdxIfInBounds (i+1)).toList=l1++e::l2:=by
 have hz:i+1<p.size:=by
  rw[←eG,hp,eK,eD,eD];omega
 have hz':i+1< (p.setIfInBounds i e).size:=by rw[Array.size_setIfInBounds];exact hz
 unfold Array.eraseIdxIfInBounds
 rw[dif_pos hz',Array.toList_eraseIdx,Array.toList_setIfInBounds,hp]
 subst hl
 rw[List.set_append_right _ _ (dv _),Nat.sub_self,List.set_cons_zero,List.eraseIdx_append_of_length_le (by omega)]
 have e:l1.length+1-l1.length=1:=by omega
 rw[e]
 rfl
structure Bs(kd:jU)(a₀:Array Keyed)(st:fH):Prop where
 kd:kindOf st=kd
 fl:jA st=none
 perm:(arrOf st).toList.Perm a₀.toList
theorem Bs.size{kd:jU}{a₀:Array Keyed}{st:fH}(b:Bs kd a₀ st):(arrOf st).size=a₀.size:=by
 rw[←eG,←eG];exact b.perm.length_eq
theorem Bs.kp{kd:jU}{a₀:Array Keyed}{st st':fH}{lo hi:Nat}(b:Bs kd a₀ st)(k:Kp st st' lo hi):Bs kd a₀ st':=⟨k.kd.trans b.kd,k.fl.trans b.fl,k.perm.trans b.perm⟩
section
variable{prog:Program}{w:World}{A:eU}{E:Value→a9→Prop}{s:a9}{kd:jU}{U:Keyed→Prop}{a₀:Array Keyed}
theorem EG{i hi:Nat}{st:fH}{Q:Bool→fH→Prop}(C:Pp prog w A E s kd U rk)(hU:AllU U a₀)(b:Bs kd a₀ st)(hc:Cov rk (arrOf st) 0 (pendingOf st).toList hi)(hhi:hi≤a₀.size)(hi1:i+1< (pendingOf st).size)
  (h:∀st',Bs kd a₀ st'→Cov rk (arrOf st') 0 (pendingOf st').toList hi→(pendingOf st').size+1=(pendingOf st).size→(∀x,hi≤x→RK rk (arrOf st') x=RK rk (arrOf st) x)→Q true st'):wpS (model prog w) A E s (mergeAt' i) Q st:=by
 obtain⟨l1,⟨s1,n1,p1⟩,⟨s2,n2,p2⟩,l2,hp,hl,e1,e2⟩:=Wn hi1
 have hc0:=hc
 rw[hp] at hc0
 obtain⟨m,c1,q1,q2,q3,q4,q5,q6,q7⟩:=Cov.app.mp hc0
 dsimp only at q1 q2 q3 q4 q5 q6 q7
 subst q1
 have hle:=q7.le
 have hz:=b.size
 refine LI C b.kd (hU.of_perm b.perm) b.fl e1 e2 q4 q2 q5 (by omega) (by rw[q4];exact q3) (by rw[q4];exact q6) fun st' k1 k2 k3 u=>?_
 have hj:=Wo (e:=(s1,n1+n2,p1)) hp hl
 have c1le:=c1.le
 refine h st' ⟨k1,k2,u.perm.trans b.perm⟩ ?_ ?_ ?_
 ·rw[k3,hj]
  refine Cov.app.mpr ⟨s1,c1.cong fun x _ hx=>Ck (u.out x (.inl hx)),rfl,by show 0<n1+n2;omega,?_,?_⟩
  ·show Seg rk (arrOf st') s1 (s1+(n1+n2))
   have:=u.seg
   rw[q4,nM] at this
   exact this
  ·show Cov rk (arrOf st') (s1+(n1+n2)) l2 hi
   rw[←nM]
   exact q7.cong fun x hx _=>Ck (u.out x (.inr (by omega)))
 ·rw[←eG,←eG,k3,hj,hp,eK,eK,eD,eD,eD]
  omega
 ·intro x hx
  exact Ck (u.out x (.inr (by omega)))
end
end SrtG
namespace SrtG
local macro_rules | `(tactic| omega) => `(tactic| first | lia | omega)
open PySem PyProof.Rows
variable{rk:Keyed→Int}
theorem Cov.shape{arr:Array Keyed}:∀{l l':List Qc} {a hi:Nat},l'.map (fun e=> (e.1,e.2.1))=l.map (fun e=> (e.1,e.2.1))→Cov rk arr a l hi→Cov rk arr a l' hi
 | [],[],_,_,_,h=>h
 |e::l,e'::l',a,hi,hm,⟨h1,h2,h3,h4⟩=>by
  rw[eT,eT] at hm
  injection hm with hm1 hm2
  injection hm1 with q1 q2
  exact⟨q1.trans h1,by rw[q2];exact h2,by rw[q2];exact h3,by rw[q2];exact h4.shape hm2⟩
 | [],_::_,_,_,hm,_=>by cases hm
 |_::_,[],_,_,hm,_=>by cases hm
theorem Cov.power{arr:Array Keyed}{p:Array Qc}{i pw hi:Nat}(h:Cov rk arr 0 p.toList hi):Cov rk arr 0 (p.modify i fun e=> (e.1,e.2.1,pw)).toList hi:=by
 refine h.shape ?_
 apply gI
 intro j
 rw[c9,c9,fh,fh,Array.getElem?_modify]
 split
 ·cases p[j]?<;>rfl
 ·rfl
section
variable{prog:Program}{w:World}{A:eU}{E:Value→a9→Prop}{s:a9}{kd:jU}{U:Keyed→Prop}{a₀:Array Keyed}
theorem Qd{st:fH}{Q:Unit→fH→Prop}(C:Pp prog w A E s kd U rk)(hU:AllU U a₀)(b:Bs kd a₀ st)(hp:pendingOf st= #[])
  (h:∀st',Bs kd a₀ st'→FU rk (arrOf st')→Q () st'):wpS (model prog w) A E s sortRuns' Q st:=by
 rw[sortRuns'_eq]
 refine dy (ke ?_)
 dsimp only
 have hz:=b.size
 refine dy (ig (fS
  (I:=fun x c st'=>∃lo,c=(none,lo)∧x≤lo∧lo≤(arrOf st).size∧Bs kd a₀ st'∧Cov rk (arrOf st') 0 (pendingOf st').toList lo)
  (Q:=fun c st'=>c.1=none∧Bs kd a₀ st'∧Cov rk (arrOf st') 0 (pendingOf st').toList (arrOf st).size) ?step ?fin ⟨0,rfl,dv _,fB _,b,by rw[hp];rfl⟩) ?post)
 case fin=>
  rintro c st' ⟨lo,rfl,h1,h2,bs,cv⟩
  have e:lo=(arrOf st).size:=by omega
  subst e
  exact⟨rfl,bs,cv⟩
 case step=>
  rintro x c st1 _ hx ⟨lo,rfl,h1,h2,bs,cv⟩
  dsimp only
  have hz1:=bs.size
  by_cases cl:lo≥(arrOf st).size
  ·rw[if_pos cl]
   have e:lo=(arrOf st).size:=by omega
   subst e
   exact dz ⟨rfl,bs,cv⟩
  rw[if_neg cl]
  have nextOf:∀(st3:fH) (n:Nat),Bs kd a₀ st3→Cov rk (arrOf st3) 0 (pendingOf st3).toList lo→0<n→lo+n≤(arrOf st).size→Seg rk (arrOf st3) lo (lo+n)→∀{c:Option PUnit×Nat},c=(none,lo+n)→∃lo',c=(none,lo')∧x+1≤lo'∧lo'≤(arrOf st).size∧Bs kd a₀ (lK st3 ((pendingOf st3).push (lo,n,0)))∧Cov rk (arrOf (lK st3 ((pendingOf st3).push (lo,n,0)))) 0 (pendingOf (lK st3 ((pendingOf st3).push (lo,n,0)))).toList lo':=fun st3 n bs3 cv3 hpos hfit sg c hc=>by
   refine⟨lo+n,hc,by omega,hfit,⟨bs3.kd,bs3.fl,bs3.perm⟩,?_⟩
   show Cov rk (arrOf st3) 0 ((pendingOf st3).push (lo,n,0)).toList (lo+n)
   rw[jo]
   exact Cov.app.mpr ⟨lo,cv3,rfl,hpos,sg,rfl⟩
  refine dy (Ma C bs.kd (hU.of_perm bs.perm) (by omega) (by omega) fun n st2 kp2 hn1 hn2 sg2=>?_)
  have bs2:=bs.kp kp2
  have cv2:Cov rk (arrOf st2) 0 (pendingOf st2).toList lo:=by
   rw[kp2.pd]
   exact cv.cong fun x _ hx=>Ck (kp2.out x (.inl hx))
  dsimp only
  by_cases cm:n<nC (arrOf st).size (arrOf st).size 0
  ·rw[if_pos cm]
   refine dy (kX (je ⟨rfl,?_⟩))
   have hz2:=bs2.size
   refine dy (MZ (n:=min ((arrOf st).size-lo) (nC (arrOf st).size (arrOf st).size 0)) C bs2.kd (hU.of_perm bs2.perm) (by omega) (by omega) sg2 fun st3 kp3 sg3=>?_)
   rw[if_neg (by decide)]
   have bs3:=bs2.kp kp3
   have cv3:Cov rk (arrOf st3) 0 (pendingOf st3).toList lo:=by
    rw[kp3.pd]
    exact cv2.cong fun x _ hx=>Ck (kp3.out x (.inl hx))
   have hpos:0<min ((arrOf st).size-lo) (nC (arrOf st).size (arrOf st).size 0):=by omega
   have hfit:lo+min ((arrOf st).size-lo) (nC (arrOf st).size (arrOf st).size 0)≤(arrOf st).size:=by omega
   refine dy (ke ?_)
   cases hb:(pendingOf st3).back? with
   |none=>
    dsimp only
    exact dy (jE (dz (nextOf st3 _ bs3 cv3 hpos hfit sg3 rfl)))
   |some e=>
    obtain⟨s1,n1,p1⟩:=e
    dsimp only
    refine dy (ig (fS (I:=fun _ c st4=>c=(none,())∧Bs kd a₀ st4∧Cov rk (arrOf st4) 0 (pendingOf st4).toList lo∧∀x,lo≤x→RK rk (arrOf st4) x=RK rk (arrOf st3) x)
     (Q:=fun c st4=>c=(none,())∧Bs kd a₀ st4∧Cov rk (arrOf st4) 0 (pendingOf st4).toList lo∧∀x,lo≤x→RK rk (arrOf st4) x=RK rk (arrOf st3) x) ?_ (fun _ _ q=>q) ⟨rfl,bs3,cv3,fun _ _=>rfl⟩) ?_)
    ·rintro y c st4 _ _ ⟨rfl,bs4,cv4,ou4⟩
     refine dy (ke ?_)
     by_cases cp:(pendingOf st4).size>1
     ·rw[if_pos cp]
      obtain⟨o1,o2,o3⟩:=(pendingOf st4)[(pendingOf st4).size-2]
      have hge:(pendingOf st4)[(pendingOf st4).size-2]?=some (pendingOf st4)[(pendingOf st4).size-2]:=getElem?_pos _ _ (by omega)
      rw[hge]
      dsimp only
      by_cases co:(pendingOf st4)[(pendingOf st4).size-2].2.2≤power' (arrOf st).size (2*s1+n1) (2*s1+n1+n1+min ((arrOf st).size-lo) (nC (arrOf st).size (arrOf st).size 0)) (arrOf st).size
      ·rw[if_pos co]
       exact dz ⟨rfl,bs4,cv4,ou4⟩
      ·rw[if_neg co]
       refine dy (EG C hU bs4 cv4 (by omega) (by omega) fun st5 bs5 cv5 _ ou5=>?_)
       rw[if_neg (by decide)]
       exact dz ⟨rfl,bs5,cv5,fun x hx=> (ou5 x hx).trans (ou4 x hx)⟩
     ·rw[if_neg cp]
      exact dz ⟨rfl,bs4,cv4,ou4⟩
    ·rintro c st4 ⟨rfl,bs4,cv4,ou4⟩
     dsimp only
     refine dy (jE ?_)
     refine dy (jE (dz ?_))
     have sg4:Seg rk (arrOf st4) lo (lo+min ((arrOf st).size-lo) (nC (arrOf st).size (arrOf st).size 0)):=fun i j q1 q2 q3=>by rw[ou4 i q1,ou4 j (by omega)];exact sg3 i j q1 q2 q3
     exact nextOf (lK st4 ((pendingOf st4).modify ((pendingOf st4).size-1) fun e=> (e.1,e.2.1,power' (arrOf st).size (2*s1+n1) (2*s1+n1+n1+min ((arrOf st).size-lo) (nC (arrOf st).size (arrOf st).size 0)) (arrOf st).size))) _ ⟨bs4.kd,bs4.fl,bs4.perm⟩ (Cov.power cv4) hpos hfit sg4 rfl
  ·rw[if_neg cm]
   have bs3:=bs2
   have cv3:=cv2
   have sg3:=sg2
   have hpos:0<n:=by omega
   have hfit:lo+n≤(arrOf st).size:=by omega
   refine dy (ke ?_)
   cases hb:(pendingOf st2).back? with
   |none=>
    dsimp only
    exact dy (jE (dz (nextOf st2 _ bs3 cv3 hpos hfit sg3 rfl)))
   |some e=>
    obtain⟨s1,n1,p1⟩:=e
    dsimp only
    refine dy (ig (fS (I:=fun _ c st4=>c=(none,())∧Bs kd a₀ st4∧Cov rk (arrOf st4) 0 (pendingOf st4).toList lo∧∀x,lo≤x→RK rk (arrOf st4) x=RK rk (arrOf st2) x)
     (Q:=fun c st4=>c=(none,())∧Bs kd a₀ st4∧Cov rk (arrOf st4) 0 (pendingOf st4).toList lo∧∀x,lo≤x→RK rk (arrOf st4) x=RK rk (arrOf st2) x) ?_ (fun _ _ q=>q) ⟨rfl,bs3,cv3,fun _ _=>rfl⟩) ?_)
    ·rintro y c st4 _ _ ⟨rfl,bs4,cv4,ou4⟩
     refine dy (ke ?_)
     by_cases cp:(pendingOf st4).size>1
     ·rw[if_pos cp]
      obtain⟨o1,o2,o3⟩:=(pendingOf st4)[(pendingOf st4).size-2]
      have hge:(pendingOf st4)[(pendingOf st4).size-2]?=some (pendingOf st4)[(pendingOf st4).size-2]:=getElem?_pos _ _ (by omega)
      rw[hge]
      dsimp only
      by_cases co:(pendingOf st4)[(pendingOf st4).size-2].2.2≤power' (arrOf st).size (2*s1+n1) (2*s1+n1+n1+n) (arrOf st).size
      ·rw[if_pos co]
       exact dz ⟨rfl,bs4,cv4,ou4⟩
      ·rw[if_neg co]
       refine dy (EG C hU bs4 cv4 (by omega) (by omega) fun st5 bs5 cv5 _ ou5=>?_)
       rw[if_neg (by decide)]
       exact dz ⟨rfl,bs5,cv5,fun x hx=> (ou5 x hx).trans (ou4 x hx)⟩
     ·rw[if_neg cp]
      exact dz ⟨rfl,bs4,cv4,ou4⟩
    ·rintro c st4 ⟨rfl,bs4,cv4,ou4⟩
     dsimp only
     refine dy (jE ?_)
     refine dy (jE (dz ?_))
     have sg4:Seg rk (arrOf st4) lo (lo+n):=fun i j q1 q2 q3=>by rw[ou4 i q1,ou4 j (by omega)];exact sg3 i j q1 q2 q3
     exact nextOf (lK st4 ((pendingOf st4).modify ((pendingOf st4).size-1) fun e=> (e.1,e.2.1,power' (arrOf st).size (2*s1+n1) (2*s1+n1+n1+n) (arrOf st).size))) _ ⟨bs4.kd,bs4.fl,bs4.perm⟩ (Cov.power cv4) hpos hfit sg4 rfl
 case post=>
  rintro⟨c1,c2⟩ st1 ⟨e,bs,cv⟩
  cases e
  dsimp only
  have done:∀st',Bs kd a₀ st'→Cov rk (arrOf st') 0 (pendingOf st').toList (arrOf st).size→(pendingOf st').size≤1→FU rk (arrOf st'):=fun st' bs' cv' hl=>by
   have hz':=bs'.size
   intro i j hij hj
   rw[←eG] at hl
   revert cv' hl
   generalize (pendingOf st').toList=l
   intro cv' hl
   match l,cv',hl with
   | [],cv',_=>
    have:0=(arrOf st).size:=cv'
    omega
   | [e],cv',_=>
    obtain⟨q1,q2,q3,q4⟩:=cv'
    have:0+e.2.1=(arrOf st).size:=q4
    exact q3 i j (by omega) hij (by omega)
   |_::_::_,_,hl=>simp only[eD] at hl;omega
  have hlen:=cv.le
  rw[eG] at hlen
  refine dy (ig (fS (I:=fun x c st'=>c=(none,())∧Bs kd a₀ st'∧Cov rk (arrOf st') 0 (pendingOf st').toList (arrOf st).size∧(pendingOf st').size+x≤(arrOf st).size)
   (Q:=fun c st'=>c=(none,())∧Bs kd a₀ st'∧Cov rk (arrOf st') 0 (pendingOf st').toList (arrOf st).size∧(pendingOf st').size≤1) ?_ ?_ ⟨rfl,bs,cv,by omega⟩) ?_)
  ·rintro x c st2 _ hx ⟨rfl,bs2,cv2,hm⟩
   refine dy (ke ?_)
   by_cases cp:(pendingOf st2).size≤1
   ·rw[if_pos cp]
    exact dz ⟨rfl,bs2,cv2,cp⟩
   ·rw[if_neg cp]
    refine dy (EG C hU bs2 cv2 (by omega) ?_ fun st5 bs5 cv5 hs5 _=>?_)
    ·split<;>split<;>omega
    ·rw[if_neg (by decide)]
     exact dz ⟨rfl,bs5,cv5,by omega⟩
  ·rintro c st2 ⟨rfl,bs2,cv2,hm⟩
   exact⟨rfl,bs2,cv2,by omega⟩
  ·rintro c st2 ⟨rfl,bs2,cv2,hm⟩
   exact dz (h _ bs2 (done _ bs2 cv2 hm))
end
end SrtG
namespace SrtG
open PySem PyProof.Rows
def Mb(h:Heap)(v:Value)(a b:Int):Prop:=∃x o t u n,v=.ref x∧h.get? x=some o∧o.data=.seq #[.int a t,.int b u] n
def Sk(h:Heap)(k:Keyed):Int:=match k.1 with
  | .ref x=>match h.get? x with
    |some o=>match o.data with
     | .seq xs _=>match (xs[0]?:Option Value),(xs[1]?:Option Value) with
      |some (.int a _),some (.int b _)=>65536*a+b
      |_,_=>0
     |_=>0
    |_=>0
  |_=>0
theorem FV{h:Heap}{k:Keyed}{a b:Int}(p:Mb h k.1 a b):Sk h k=65536*a+b:=by
 obtain⟨x,o,t,u,n,e1,e2,e3⟩:=p
 unfold Sk
 rw[e1]
 dsimp only
 rw[e2]
 dsimp only
 rw[e3]
 rfl
def ZL(h:Heap)(k:Keyed):Prop:=∃a b,Mb h k.1 a b∧0≤b∧b<65536
variable{prog:Program}{w:World}{A:eU}{E:Value→a9→Prop}{s:a9}
theorem PH:Pp prog w A E s (tuples' true) (ZL s.heap) (Sk s.heap):=by
 intro st x y Q hk hx hy h
 obtain⟨a,b,px,b0,b1⟩:=hx
 obtain⟨c,d,py,d0,d1⟩:=hy
 rw[FV px,FV py] at h
 obtain⟨p,o,t,u,n,e1,e2,e3⟩:=px
 obtain⟨p',o',t',u',n',e1',e2',e3'⟩:=py
 rw[lt'_eq]
 refine dy (ke ?_)
 rw[hk,e1,e1']
 refine dy (kX (jq ?_))
 refine PySem.W.kat_lt e2 e3 e2' e3' ?_
 have fin:∀r:Bool,r=decide (65536*a+b<65536*c+d)→(s=s∧wpS (model prog w) A E s (match (Except.ok r:Except Value Bool) with
   | .ok b=>pure (some b)
   | .error e=>do
    modify (fun s=>lO (kindOf s) (arrOf s) (pendingOf s) (gallopOf s) (some e))
    pure none) Q st):=fun r hr=> ⟨rfl,by rw[hr];exact dz h⟩
 refine mw (j0 ?_)
 refine m8 (fun e=>?_) (fun e=>?_)
 ·have e':=eq_of_beq e
  refine mO (mw (j0 ?_))
  refine m8 (fun q=>?_) (fun q=>?_)
  ·have q':=eq_of_beq q
   exact mO (PySem.W.kat_nil (fin _ (by rw[e',q'];simp)))
  ·exact m7 (PySem.W.kat_one _ _ (lt_int (fin _ (by congr 1;rw[e'];apply propext;constructor<;>intro<;>omega))))
 ·have e':a≠c:=fun q=>by rw[q] at e;simp at e
  refine m7 (oneLt_int (fin _ ?_))
  congr 1
  apply propext
  constructor<;>intro<;>omega
open PySem.Calls PySem.W
theorem HJ:∀(vs:List Value),vs.zip vs=vs.map fun v=> (v,v)
 | []=>rfl
 |v::vs=>by rw[List.zip_cons_cons,eT,HJ vs]
structure Rk(prog:Program)(w:World)(U:Heap→Value→Prop)(rk:Heap→Value→Int)(T:Value):Prop where
 cmp:∀{A:eU} {E:Value→a9→Prop} {s:a9},Pp prog w A E s (tuples' true) (fun k=>U s.heap k.1) (fun k=>rk s.heap k.1)
 kept:∀{h h':Heap} {v:Value},U h v→(∀b o,o.cls=.type "tuple"→h.get? b=some o→h'.get? b=some o)→U h' v∧rk h' v=rk h v
 kat:∀{h:Heap} {vs:List Value},(∀v∈vs,U h v)→∃fs:List Value,og h vs fs∧fs.length=vs.length∧∀v∈fs,∀M h',Looks M h' (typeOf v) T
 t1:(T==T)=true
 t2:(T !=jH "tuple")=true
section
variable{prog:Program}{w:World}{A:eU}{E:Value→a9→Prop}{s:a9}{U:Heap→Value→Prop}{rk:Heap→Value→Int}{T:Value}
theorem Th{vs:List Value}{Q:fH→a9→Prop}(R:Rk prog w U rk T)(ok:∀v∈vs,U s.heap v)
  (h:∀st',jA st'=none→((arrOf st').map (·.2)).toList.Perm vs→((arrOf st').map (·.2)).toList.Pairwise (fun x y=>rk s.heap x≤rk s.heap y)→Q st' s):
  wpAny (model prog w) A ((sortRuns').run (lO (tuples' true) (vs.toArray.zip vs.toArray) #[] 7 none)) (fun r s'=>Q r.2 s') E s:=by
 have hz:(vs.toArray.zip vs.toArray)=(vs.map fun v=> (v,v)).toArray:=by
  apply jZ
  rw[Array.toList_zip]
  show vs.zip vs=vs.map fun v=> (v,v)
  exact HJ vs
 have hU:AllU (fun k=>U s.heap k.1) (vs.toArray.zip vs.toArray):=fun i p e=>by
  rw[hz] at e
  have e':(vs.map fun v=> ((v,v):Keyed))[i]?=some p:=by rw[←fh] at e;exact e
  obtain⟨v,hv,rfl⟩:=eQ.mp (dw e')
  exact ok v hv
 have hwp:wpS (model prog w) A E s sortRuns' (fun _ st'=>Q st' s) (lO (tuples' true) (vs.toArray.zip vs.toArray) #[] 7 none):=by
  refine Qd (a₀:=vs.toArray.zip vs.toArray) (rk:=fun k=>rk s.heap k.1) R.cmp hU ⟨rfl,rfl,jc.refl _⟩ rfl fun st' b srt=>?_
  have hpm:=b.perm
  rw[hz] at hpm
  have hsame:∀k,k∈(arrOf st').toList→k=(k.2,k.2):=fun k hk=>by
   obtain⟨v,_,rfl⟩:=eQ.mp (hpm.mem_iff.mp hk)
   rfl
  refine h st' b.fl ?_ ?_
  ·rw[mE]
   have:=hpm.map (fun k:Keyed=>k.2)
   rw[show((vs.map fun v=> ((v,v):Keyed)).toArray.toList.map fun k:Keyed=>k.2)=vs from by
    show(vs.map fun v=> ((v,v):Keyed)).map (fun k:Keyed=>k.2)=vs
    rw[fE]
    exact nh vs] at this
   exact this
  ·rw[mE,hC]
   refine fF.mpr fun i j hi hj hij=>?_
   have hi':i< (arrOf st').size:=by rw[←eG];exact hi
   have hj':j< (arrOf st').size:=by rw[←eG];exact hj
   have q:=srt i j (iC hij) hj'
   rw[BC hi',BC hj'] at q
   have e1:=hsame (arrOf st').toList[i] (gF hi)
   have e2:=hsame (arrOf st').toList[j] (gF hj)
   rw[←(show(arrOf st').toList[i].1=(arrOf st').toList[i].2 from congrArg fK e1),←(show(arrOf st').toList[j].1=(arrOf st').toList[j].2 from congrArg fK e2)]
   exact q
 exact jG hwp (fun r s' q=>by rw[q.1];exact q.2) fun _ _ e=>e
theorem LJ{a:Addr}{vs:List Value}{n:Nat}{P:oy→a9→Prop}(ho:s.heap.get? a=some (fU "list" vs.toArray n))(R:Rk prog w U rk T)(ok:∀v∈vs,U s.heap v)(h2:2≤vs.length)(hn:vs.length≤9000000)
  (h:∀out c h',out.Perm vs→out.Pairwise (fun x y=>rk s.heap x≤rk s.heap y)→h'.get? a=some (fU "list" (lF out) c)→(∀b o,b≠a→s.heap.get? b=some o→h'.get? b=some o)→P (.done (.ret .none)) {s with heap:=h'}):
  wpAny (model prog w) A (Builtin.«list.sort» ⟨[.ref a],[]⟩) P E s:=by
 obtain⟨e1,ho1⟩:∃e1,(s.heap.update a (hZ fun _=> (#[]:Array Value))).get? a=some (fU "list" #[] e1):=⟨_,lj ho fun _=> #[]⟩
 have keep:∀b o,b≠a→s.heap.get? b=some o→(((s.heap.update a (hZ fun _=> (#[]:Array Value))).push (fU "tuple" vs.toArray 0)).push (fU "list" #[] 0)).get? b=some o:=fun b o hb e=>
  dm _ (dm _ (by rw[j9 _ _ _ _ hb];exact e))
 have keepT:∀b o,o.cls=.type "tuple"→s.heap.get? b=some o→(((s.heap.update a (hZ fun _=> (#[]:Array Value))).push (fU "tuple" vs.toArray 0)).push (fU "list" #[] 0)).get? b=some o:=fun b o ht e=>by
  refine keep b o (fun q=>?_) e
  rw[q,ho] at e
  cases e
  exact absurd (show jH "list" =jH "tuple" from ht) (by decide)
 have ho3:(((s.heap.update a (hZ fun _=> (#[]:Array Value))).push (fU "tuple" vs.toArray 0)).push (fU "list" #[] 0)).get? a=some (fU "list" #[] e1):=dm _ (dm _ ho1)
 have ok3:∀v∈vs,U _ v:=fun v hv=> (R.kept (ok v hv) keepT).1
 have rk3:∀v∈vs,rk _ v=rk s.heap v:=fun v hv=> (R.kept (ok v hv) keepT).2
 rw[list_sort_plain]
 refine a7 (listItems_at ho rfl ?_)
 refine a7 (ma ho rfl ?_ (by rw[eP,gC];omega) (fB _))
 refine a7 (mW ho1 rfl ?_)
 refine a7 (mV ?_ (by show vs.length≤_;rw[gC];omega))
 refine a7 (l9 ?_ (fB _))
 refine fI ?_
 show wpAny (model prog w) A _ P E {s with heap:=((s.heap.update a (hZ fun _=> (#[]:Array Value))).push (fU "tuple" vs.toArray 0)).push (fU "list" #[] 0)}
 generalize hG:((s.heap.update a (hZ fun _=> (#[]:Array Value))).push (fU "tuple" vs.toArray 0)).push (fU "list" #[] 0)=G at keep ho3 ok3 rk3 ⊢
 dsimp only
 have hn2:¬vs.toArray.size<2:=by rw[eP];omega
 rw[if_neg hn2,if_neg hn2]
 obtain⟨fs,kt,hl,hf⟩:=R.kat ok3
 refine a7 (kat_kind (s:={s with heap:=G}) (T:=T) kt (by omega) (fun v hv=>hf v hv _ _) R.t1 ?_)
 rw[R.t2]
 refine a7 (jG (Th (s:={s with heap:=G}) (Q:=fun st' s'=>s'={s with heap:=G}∧jA st'=none∧((arrOf st').map (·.2)).toList.Perm vs∧((arrOf st').map (·.2)).toList.Pairwise (fun x y=>rk G x≤rk G y)) R ok3 (fun st' a1 a2 a3=> ⟨rfl,a1,a2,a3⟩)) ?_ fun _ _ e=>e)
 rintro⟨⟨⟩,st'⟩ s' ⟨rfl,hfl,hpm,hpw⟩
 dsimp only
 have hsz:((arrOf st').map (·.2)).size=vs.length:=by rw[←eG];exact hpm.length_eq
 obtain⟨c2,hc2⟩:∃c2,(G.update a (hZ fun _=> (arrOf st').map (·.2))).get? a=some (fU "list" ((arrOf st').map (·.2)) c2):=⟨_,lj ho3 fun _=> (arrOf st').map (·.2)⟩
 refine a7 (mW ho3 rfl ?_)
 refine a7 (ma ho3 rfl ?_ (fB _) (fo (Nat.le_of_eq hsz) (by rw[gC];omega)))
 rw[hfl]
 simp only[bne_self_eq_false,e9,if_false]
 refine b9 (h ((arrOf st').map (·.2)).toList c2 _ hpm ?_ hc2 fun b o hb e=>by rw[j9 _ _ _ _ hb];exact keep b o hb e)
 refine gR (fun{x y} hx hy q=>?_) hpw
 rw[rk3 _ (hpm.mem_iff.mp hx),rk3 _ (hpm.mem_iff.mp hy)] at q
 exact q
end
def TupAt(h:Heap)(v:Value)(a b:Int):Prop:=∃x o t u n,v=.ref x∧h.get? x=some o∧o.cls=.type "tuple"∧o.data=.seq #[.int a t,.int b u] n
def TupsOk(h:Heap)(vs:List Value):Prop:=∀v,v∈vs→∃a b,TupAt h v a b∧0≤b∧b<65536
theorem TupAt.pair{h:Heap}{v:Value}{a b:Int}(t:TupAt h v a b):Mb h v a b:=by
 obtain⟨x,o,t,u,n,e1,e2,_,e4⟩:=t
 exact⟨x,o,t,u,n,e1,e2,e4⟩
theorem TupsOk.kat{h:Heap}:∀{vs:List Value},TupsOk h vs→∃fs:List Value,og h vs fs∧fs.length=vs.length∧∀v∈fs,∃a t,v=.int a t
 | [],_=> ⟨[],og.nil,rfl,fun v hv=>by cases hv⟩
 |v::vs,ok=>by
  obtain⟨fs,k,hl,hf⟩:=TupsOk.kat (vs:=vs) fun v hv=>ok v (.tail _ hv)
  obtain⟨a,b,⟨x,o,t,u,n,rfl,e,hc,hd⟩,_,_⟩:=ok v (.head _)
  exact⟨.int a t::fs,og.cons e hc hd rfl k,by rw[eD,eD,hl],fun v hv=>by
   rcases eJ.mp hv with rfl|hv
   ·exact⟨a,t,rfl⟩
   ·exact hf v hv⟩
variable{prog:Program}{w:World}{A:eU}{E:Value→a9→Prop}{s:a9}
theorem TupsOk.kept{h h':Heap}{vs:List Value}(ok:TupsOk h vs)(k:∀b o,o.cls=.type "tuple"→h.get? b=some o→h'.get? b=some o):TupsOk h' vs:=fun v hv=>by
 obtain⟨a,b,⟨x,o,t,u,n,e1,e2,e3,e4⟩,q⟩:=ok v hv
 exact⟨a,b,⟨x,o,t,u,n,e1,k _ _ e3 e2,e3,e4⟩,q⟩
theorem TupsOk.rk{h h':Heap}{vs:List Value}(ok:TupsOk h vs)(k:∀b o,o.cls=.type "tuple"→h.get? b=some o→h'.get? b=some o){v:Value}(hv:v∈vs):Sk h' (v,v)=Sk h (v,v):=by
 obtain⟨a,b,t,q⟩:=ok v hv
 obtain⟨x,o,t',u,n,e1,e2,e3,e4⟩:=t
 rw[FV (k:=(v,v)) (TupAt.pair ⟨x,o,t',u,n,e1,e2,e3,e4⟩),FV (k:=(v,v)) (TupAt.pair ⟨x,o,t',u,n,e1,k _ _ e3 e2,e3,e4⟩)]
theorem Qe:Rk prog w (fun h v=>∃a b,TupAt h v a b∧0≤b∧b<65536) (fun h v=>Sk h (v,v)) (.type "int") where
 cmp:=by
  intro A E s st x y Q hk hx hy h
  obtain⟨a,b,t,q⟩:=hx
  obtain⟨c,d,u,r⟩:=hy
  exact PH st x y Q hk ⟨a,b,t.pair,q⟩ ⟨c,d,u.pair,r⟩ h
 kept:=fun{h h' v} ok k=> ⟨TupsOk.kept (vs:=[v]) (fun u hu=>dr.mp hu▸ok) k v (by simp),TupsOk.rk (vs:=[v]) (fun u hu=>dr.mp hu▸ok) k (by simp)⟩
 kat:=fun{h vs} ok=>by
  obtain⟨fs,kt,hl,hf⟩:=TupsOk.kat ok
  refine⟨fs,kt,hl,fun v hv M h'=>?_⟩
  obtain⟨x,t,rfl⟩:=hf v hv
  exact fun _ _ _ _ _ q=>b9 q
 t1:=rfl
 t2:=rfl
theorem Mc{a:Addr}{vs:List Value}{n:Nat}{P:oy→a9→Prop}(ho:s.heap.get? a=some (fU "list" vs.toArray n))(ok:TupsOk s.heap vs)(h2:2≤vs.length)(hn:vs.length≤4096)
  (h:∀out c h',out.Perm vs→out.Pairwise (fun x y=>Sk s.heap (x,x)≤Sk s.heap (y,y))→h'.get? a=some (fU "list" (lF out) c)→(∀b o,b≠a→s.heap.get? b=some o→h'.get? b=some o)→P (.done (.ret .none)) {s with heap:=h'}):
  wpAny (model prog w) A (Builtin.«list.sort» ⟨[.ref a],[]⟩) P E s:=LJ ho Qe ok h2 (by omega) h
end SrtG
namespace StT
open PySem PySem.SetTable PyProof.Rows
section
variable{prog:Program}{w:World}{A:eU}{E:Value→a9→Prop}{s:a9}
abbrev BG(w:World):Obj:={cls:=.type "set",dict:=none,data:=.set #[] 0 (.fresh 0 0 (!w.params.followText "set-order"))}
theorem LK(a:Value){Q₁:Value→a9→Prop}(h:Q₁ (.ref s.heap.objs.size) {s with heap:=s.heap.push (BG w)}):
  j1 (model prog w) A (.call (.builtin "set.__new__") ⟨[.type "set",a],[]⟩) (wants Q₁ E) s:=by
 refine codeAny_of_tree ?_
 show wpAny _ A.in1 (do mq "set.__new__" ⟨[.type "set",a],[]⟩;again (.builtin "set.__new__" ⟨[.type "set",a],[]⟩)) _ _ s
 refine a7 (kZ (PySem.F.newCall_set_1 a) (b9 ⟨jN PySem.F.plain_set_new _,i6 PySem.F.entry_set_new ?_⟩))
 rw[iY PySem.F.plain_set_new _]
 unfold Builtin.«set.__new__» Builtin.Frozenset.newClass
 have hsub:=sub_set_self
 obtain⟨hp,g,d,tk,os⟩:=s
 dsimp only
 wp_walk
 refine kP (b9 ?_)
 dsimp only
 simp only[newObj]
 refine a7 (wpAny_alloc (b9 ?_))
 exact b9 h
theorem HK{T newId initId:String}{args:List Value}{Q Q₁:Value→a9→Prop}(ft:TypeCalled T newId initId)
  (hct:checkTypeCall T ⟨args,[]⟩=pure ())
  (hnew:j1 (model prog w) A.in1 (.call (.builtin newId) ⟨.type T::args,[]⟩) (wants Q₁ E) s)
  (hnext:∀obj s₁,Q₁ obj s₁→s₁.TypeIs obj T∧j1 (model prog w) A.in1 (.call (.builtin initId) ⟨obj::args,[]⟩) (wants (fun r s₂=>r=.none∧Q obj s₂) E) s₁):
  wpAny (model prog w) A (call (.type T) args) Q E s:=by
 obtain⟨c,tl,hmro⟩:=ft.mro
 have hmade:=ft.made
 have hsub:=ft.sub
 refine mF (codeAny_of_tree ?_)
 show wpAny _ _ (callAny (.type T) _) _ _ _
 refine b9 ⟨Code.quiet_builtin _ (by decide+kernel),i6 PySem.F.entry_type_call ?_⟩
 rw[eU.under_plain (weight_type_call_type T args []) rfl]
 have h1:=ft.notType
 have h2:=ft.canCreate
 repeat (any_goals (first|assumption|wp_step))
 refine lC hnew fun r s₁ hr=>?_
 cases r with
 |error e=>exact hr
 |ok fl=>
  cases fl with
  |ret obj=>
   obtain⟨hT,hsi⟩:=hnext _ _ hr
   have hli:=ft.init.lookup
   have hbi:=ft.init.bind obj
   repeat (any_goals (first|assumption|wp_step))
   refine lC hsi fun r₂ s₂ hr₂=>?_
   cases r₂ with
   |error e=>exact hr₂
   |ok fl₂=>
    cases fl₂ with
    |ret r=>
     obtain⟨rfl,hq⟩:=hr₂
     repeat (any_goals (first|assumption|wp_step))
    |_=>exact hr₂.elim
  |_=>exact hr.elim
theorem HL{l:Addr}{items:Array Value}{ps:List (List Int×Addr)}{Q:Value→a9→Prop}
  (hh:A.handled=none) (hl:s.heap.IsList l items) (hps:items.toList=ps.map fun p=>Value.ref p.2) (hp:∀k x,(k,x)∈ps→IK prog w s.heap k x) (hz:ps.length≤300) (hu:A.units+8<cLine)
  (h:∀(h':Heap) (tk:Nat) (xs:List (List Int×Addr)),SetX prog w h' s.heap.objs.size xs→Jf ps xs→
   (∀b o,b<s.heap.objs.size→s.heap.get? b=some o→h'.get? b=some o)→Q (.ref s.heap.objs.size) {s with heap:=h',toks:=tk}):
  wpAny (model prog w) A (call (.type "set") [.ref l]) Q E s:=by
 refine HK (Q₁:=fun obj s₁=>obj=.ref s.heap.objs.size∧s₁={s with heap:=s.heap.push (BG w)}) kl (PySem.F.typeCall_set_1 _) (LK _ ⟨rfl,rfl⟩) ?_
 rintro obj s₁ ⟨rfl,rfl⟩
 have hS:(s.heap.push (BG w)).get? s.heap.objs.size=some (BG w):=eS _ rfl
 have hT:a9.TypeIs {s with heap:=s.heap.push (BG w)} (.ref s.heap.objs.size) "set":=⟨_,hS,rfl⟩
 refine⟨hT,jk kl.init.plain PySem.F.entry_set_init (check_set_init_1 hT ?_)⟩
 obtain⟨ol,hol,hcl,nl,hdl⟩:=hl
 obtain⟨ocls,odict,odata,oslots⟩:=ol
 simp only at hcl hdl
 subst hcl;subst hdl
 have hol':(s.heap.push (BG w)).get? l=some {cls:=.type "list",dict:=odict,data:=.seq items nl,slots:=oslots}:=dm _ hol
 have hsls:=PySem.F.sub_list_set
 have hslf:=PySem.F.sub_list_frozenset
 have hne:(jH "list" ==jH "dict")=false:=by decide
 have hl1:(s.heap.push (BG w)).IsList l items:=⟨_,hol',rfl,nl,rfl⟩
 unfold Builtin.«set.__init__» noKeywords Builtin.Frozenset.updateFrom
 generalize hPI:mX=PI
 wp_walk
 subst hPI
 refine lU hl1 ?_
 refine a7 (wpAny_runValue ?_)
 have hlS:l<s.heap.objs.size:=eM hol
 have hneI:l≠(s.heap.push (BG w)).objs.size:=by
  rw[fZ];exact fb (gZ hlS)
 have kp:∀b o,s.heap.get? b=some o→((s.heap.push (BG w)).push {cls:=.type "list_iterator",data:=.fields #[.ref l,.int 0 0]}).get? b=some o:=fun b o e=>dm _ (dm _ e)
 refine Td (a:=s.heap.objs.size) (l:=l) (ps:=ps) (by simpa using hh) hneI (by rw[fZ];exact fb (iT _)) (jI hlS) hps hz (by
   show A.in1.in1.units+1<cLine
   exact km (show A.units+1+1+1≤A.units+8 by omega) hu) (ps.length-0) 0 _ [] rfl (fB _)
  ⟨_,eS _ rfl,rfl,rfl⟩ (hl1.push _) (fun k x hx=> ⟨DG (hp k x hx) fun u e=>kp x u e,?_⟩) ⟨BG w,#[],0,_,dm _ hS,⟨rfl,rfl,rfl⟩,rfl,rfl,fun i k x e=>by simp at e,List.nodup_nil,Tb.fresh _ _ _,rfl,(by show 0*5<7*3;decide),rfl⟩ ⟨fun p hp=>by simp at hp,fun k y hy=>by simp at hy,by simp⟩ ?_
 ·obtain⟨o',_,_,ho',_⟩:=hp k x hx
  have:=eM ho'
  rw[fZ]
  exact fb (gZ this)
 ·intro h' tk' xs' kk sx so
  refine b9 ?_
  show wpAny _ _ (ret iS) _ _ _
  refine b9 ⟨rfl,h h' tk' xs' sx so fun b o hb e=>kk b o (fb hb) ?_ (kp b o e)⟩
  rw[fZ];exact fb (gZ hb)
end
open PySem.Calls PySem.W
section
variable{prog:Program}{w:World}{A:eU}{E:Value→a9→Prop}{s:a9}
theorem LL{a:Addr}{vs:List Value}{n:Nat}{P:oy→a9→Prop}(ho:s.heap.get? a=some (fU "list" vs.toArray n))(h2:vs.length<2)
  (h:∀c h',h'.get? a=some (fU "list" vs.toArray c)→(∀b o,b≠a→s.heap.get? b=some o→h'.get? b=some o)→P (.done (.ret .none)) {s with heap:=h'}):
  wpAny (model prog w) A (Builtin.«list.sort» ⟨[.ref a],[]⟩) P E s:=by
 obtain⟨e1,ho1⟩:∃e1,(s.heap.update a (hZ fun _=> (#[]:Array Value))).get? a=some (fU "list" #[] e1):=⟨_,lj ho fun _=> #[]⟩
 have keep:∀b o,b≠a→s.heap.get? b=some o→(((s.heap.update a (hZ fun _=> (#[]:Array Value))).push (fU "tuple" vs.toArray 0)).push (fU "list" #[] 0)).get? b=some o:=fun b o hb e=>
  dm _ (dm _ (by rw[j9 _ _ _ _ hb];exact e))
 have ho3:(((s.heap.update a (hZ fun _=> (#[]:Array Value))).push (fU "tuple" vs.toArray 0)).push (fU "list" #[] 0)).get? a=some (fU "list" #[] e1):=dm _ (dm _ ho1)
 rw[list_sort_plain]
 refine a7 (listItems_at ho rfl ?_)
 refine a7 (ma ho rfl ?_ (by rw[eP,gC];omega) (fB _))
 refine a7 (mW ho1 rfl ?_)
 refine a7 (mV ?_ (by show vs.length≤_;rw[gC];omega))
 refine a7 (l9 ?_ (fB _))
 refine fI ?_
 show wpAny (model prog w) A _ P E {s with heap:=((s.heap.update a (hZ fun _=> (#[]:Array Value))).push (fU "tuple" vs.toArray 0)).push (fU "list" #[] 0)}
 generalize hG:((s.heap.update a (hZ fun _=> (#[]:Array Value))).push (fU "tuple" vs.toArray 0)).push (fU "list" #[] 0)=G at keep ho3 ⊢
 dsimp only
 have hn2:vs.toArray.size<2:=by rw[eP];omega
 rw[if_pos hn2,if_pos hn2]
 refine a7 (b9 ?_)
 refine a7 (b9 ?_)
 dsimp only
 have har:((vs.toArray.zip vs.toArray).map (·.2))=vs.toArray:=by
  apply jZ
  rw[mE,Array.toList_zip]
  show(vs.zip vs).map (·.2)=vs
  rw[SrtG.HJ,fE]
  exact nh vs
 have har':(arrOf (lO general' (vs.toArray.zip vs.toArray) #[] 7 none)).map (·.2)=vs.toArray:=har
 rw[har']
 obtain⟨c2,hc2⟩:∃c2,(G.update a (hZ fun _=>vs.toArray)).get? a=some (fU "list" vs.toArray c2):=⟨_,lj ho3 fun _=>vs.toArray⟩
 refine a7 (mW ho3 rfl ?_)
 refine a7 (ma ho3 rfl ?_ (fB _) (by rw[eP,gC];omega))
 show wpAny _ _ (if(e1 !=e1)=true then _ else _) _ _ _
 rw[if_neg (by simp)]
 exact b9 (h c2 _ hc2 fun b o hb e=>by rw[j9 _ _ _ _ hb];exact keep b o hb e)
theorem By {α β : Type} {f : α → β} {l1 l2 : List β} (h : l1.Perm l2) : ∀ {xs : List α}, l2 = xs.map f → ∃ ys : List α, ys.Perm xs ∧ ys.map f = l1 := by
  induction h with
  | nil => intro xs e; cases xs with
    | nil => exact ⟨[], .refl _, rfl⟩
    | cons x xs => cases e
  | cons x _ ih => intro xs e; cases xs with
    | nil => cases e
    | cons y xs =>
      rw [eT] at e
      injection e with e1 e2
      obtain ⟨ys, h1, h2⟩ := ih e2
      exact ⟨y :: ys, h1.cons y, by rw [eT, h2, e1]⟩
  | swap x y l => intro xs e; match xs, e with
    | a :: b :: xs, e =>
      simp only [eT] at e
      injection e with e1 e2
      injection e2 with e2 e3
      exact ⟨b :: a :: xs, .swap _ _ _, by simp only [eT]; rw [← e1, ← e2, ← e3]⟩
  | trans _ _ ih1 ih2 => intro xs e
                         obtain ⟨ys, h1, h2⟩ := ih2 e
                         obtain ⟨zs, h3, h4⟩ := ih1 h2.symm
                         exact ⟨zs, h3.trans h1, h4⟩
theorem Md{a:Addr}{xs:List (List Int×Addr)}{Q:Value→a9→Prop}(hh:A.handled=none)(S:SetX prog w s.heap a xs)(hz:xs.length≤300)
  (hp:∀k x,(k,x)∈xs→∃p q,k=[p,q]∧0≤q∧q<65536)
  (h:∀(h':Heap) (tk:Nat) (ys:List (List Int×Addr)) (D:Addr) (c:Nat),s.heap.get? D=none→h'.get? D=some (fU "list" (ys.map fun p=>Value.ref p.2).toArray c)→(∀b o,s.heap.get? b=some o→h'.get? b=some o)→
   ys.Perm xs→ys.Pairwise (fun x y=>65536*x.1.getD 0 0+x.1.getD 1 0≤65536*y.1.getD 0 0+y.1.getD 1 0)→Q (.ref D) {s with heap:=h',toks:=tk}):
  wpAny (model prog w) A (call (.builtin "sorted") [.ref a]) Q E s:=by
 obtain⟨o,es,ep,t,S⟩:=S
 refine call_function_entry kind_sorted plain_sorted entry_sorted (args_sorted1 _) ?_
 unfold Builtin.«sorted»
 refine a7 (m:=checkCount "sorted" 1 1 _) (b9 ?_)
 refine a7 (kdu_collect (A:=A.in1) (Te S.wk) hh S.get (by rw[S.size,gC];omega) fun h1 tk1 acc hk1 hacc=>?_)
 have hsz:acc.toList.length=xs.length:=by rw[eG,hacc.1,S.size]
 have hacc2:acc.toList=(EF w a ep es).toList.map (·.2):=by
  apply gI
  intro i
  rw[c9]
  by_cases hi:i<acc.size
  ·have e1:acc[i]?=some acc[i]:=by simp[hi]
   obtain⟨hh',e2⟩:=hacc.2 i _ e1
   have e2':(EF w a ep es).toList[i]?=some (hh',acc[i]):=by simpa using e2
   rw[e2']
   simpa using e1
  ·have h1':acc.toList[i]?=none:=by simp;omega
   have h2':(EF w a ep es).toList[i]?=none:=by
    apply iA
    rw[eG,FS,←hacc.1];omega
   rw[h1',h2'];rfl
 have hperm:acc.toList.Perm (xs.map fun p=>Value.ref p.2):=by
  rw[hacc2]
  refine((Ik w a ep es).map (·.2)).trans ?_
  rw[S.es,Oy,fE]
  exact jc.refl _
 have hIK:∀k x,(k,x)∈xs→IK prog w h1 k x:=fun k x hx=>by
  obtain⟨i,hi⟩:=fM hx
  exact DG (S.key i k x hi) fun u e=>hk1 x u e
 have tupAt:∀k x,(k,x)∈xs→∃p q,k=[p,q]∧SrtG.TupAt h1 (.ref x) p q∧0≤q∧q<65536:=fun k x hx=>by
  obtain⟨p,q,rfl,h0,h1'⟩:=hp k x hx
  obtain⟨o',items,n,ho',hc',hd',hi'⟩:=hIK _ x hx
  refine⟨p,q,rfl,?_,h0,h1'⟩
  generalize hL:items.toList=L at hi'
  cases hi' with
  |cons i1 i2=>
   cases i2 with
   |cons i3 i4=>
    cases i4
    obtain⟨t1,rfl⟩:=FQ i1
    obtain⟨t2,rfl⟩:=FQ i3
    have:items= #[.int p t1,.int q t2]:=by
     apply jZ
     rw[hL]
    exact⟨x,o',t1,t2,n,rfl,ho',hc',by rw[hd',this]⟩
 refine a7 (l9 ?_ (by rw[hsz,gC];omega))
 have hoL:(h1.push (fU "list" acc.toList.toArray 0)).get? h1.objs.size=some (fU "list" acc.toList.toArray 0):=eS _ rfl
 have hDn:s.heap.get? h1.objs.size=none:=by
  cases e:s.heap.get? h1.objs.size with
  |none=>rfl
  |some o'=>exact absurd (eM (hk1 _ _ e)) (gw _)
 have hkp:∀b o,h1.get? b=some o→(h1.push (fU "list" acc.toList.toArray 0)).get? b=some o:=fun b o e=>dm _ e
 obtain⟨ws,hw1,hw2⟩:=By hperm rfl
 have fin:∀(out:List Value) (c:Nat) (h2:Heap),out.Perm acc.toList→out.Pairwise (fun x y=>SrtG.Sk (h1.push (fU "list" acc.toList.toArray 0)) (x,x)≤SrtG.Sk (h1.push (fU "list" acc.toList.toArray 0)) (y,y))→
   h2.get? h1.objs.size=some (fU "list" (lF out) c)→(∀b o,b≠h1.objs.size→(h1.push (fU "list" acc.toList.toArray 0)).get? b=some o→h2.get? b=some o)→Q (.ref h1.objs.size) {s with heap:=h2,toks:=tk1}:=fun out c h2 pm pw hg hk=>by
  obtain⟨ys,y1,y2⟩:=By (pm.trans hperm) rfl
  subst y2
  refine h h2 tk1 ys _ c hDn hg (fun b o e=>?_) y1 ?_
  ·have hlt:=eM (hk1 b o e)
   exact hk b o (fb hlt) (hkp b o (hk1 b o e))
  ·rw[hC] at pw
   refine gR (fun{x y} hx hy q=>?_) pw
   obtain⟨k1,x1⟩:=x
   obtain⟨k2,x2⟩:=y
   obtain⟨p,q',rfl,t1,_⟩:=tupAt k1 x1 (y1.mem_iff.mp hx)
   obtain⟨p2,q2,rfl,t2,_⟩:=tupAt k2 x2 (y1.mem_iff.mp hy)
   have keepT:∀{v:Value} {i j:Int},SrtG.TupAt h1 v i j→SrtG.TupAt (h1.push (fU "list" acc.toList.toArray 0)) v i j:=fun t=>by
    obtain⟨x,o,t,u,n,e1,e2,e3,e4⟩:=t
    exact⟨x,o,t,u,n,e1,hkp _ _ e2,e3,e4⟩
   rw[SrtG.FV (k:=(Value.ref x1,Value.ref x1)) (keepT t1).pair,SrtG.FV (k:=(Value.ref x2,Value.ref x2)) (keepT t2).pair] at q
   exact q
 refine a7 (fI (gz slot_list_sort ⟨_,hoL,rfl⟩ entry_list_sort ?body (args_list_sort _)))
 case body=>
  by_cases hlen:acc.toList.length<2
  ·refine LL (s:={s with heap:=h1.push (fU "list" acc.toList.toArray 0),toks:=tk1}) hoL hlen fun c h2 hg hk=> ⟨_,rfl,b9 ⟨_,rfl,fin acc.toList c h2 (.refl _) ?_ hg hk⟩⟩
   generalize acc.toList=l at hlen
   match l,hlen with
   | [],_=>exact .nil
   | [x],_=>exact i5 _ _
  ·refine SrtG.Mc (s:={s with heap:=h1.push (fU "list" acc.toList.toArray 0),toks:=tk1}) hoL (fun v hv=>?_) (by omega) (by omega) fun out c h2 pm pw hg hk=> ⟨_,rfl,b9 ⟨_,rfl,fin out c h2 pm pw hg hk⟩⟩
   obtain⟨⟨k,x⟩,hx,rfl⟩:=eQ.mp (hperm.mem_iff.mp hv)
   obtain⟨p,q,rfl,⟨x',o',t1,t2,n,e1,e2,e3,e4⟩,h0,h1'⟩:=tupAt k x hx
   exact⟨p,q,⟨x',o',t1,t2,n,e1,hkp _ _ e2,e3,e4⟩,h0,h1'⟩
end
end StT
namespace L2
open PySem PySem.Spec PyProof.Rows
section
variable{X:Cx}{pins:List (Addr×Obj)}{σ:St}{H:Hp}{s:a9}{h':Heap}
theorem Inv.laidF{a:Addr}{o:HO}{t':Nat}(I:Inv X pins σ H s)(k:∀b u,s.heap.get? b=some u→h'.get? b=some u)(hp:s.heap.get? a=none)(new:ObjOk X.prog X.w (upd H a o) h' a o):
  Inv X pins σ (upd H a o) {s with heap:=h',toks:=t'}:=by
 have hn:H a=none:=by
  cases q:H a with
  |none=>rfl
  |some u=>
   obtain⟨ob,e⟩:=(I.hok a u q).obj
   rw[hp] at e;cases e
 have ne:∀b u,s.heap.get? b=some u→b≠a:=fun b u e z=>by rw[z,hp] at e;cases e
 refine I.un ⟨fun b u q _ _ _=>k b u q,fun b u q _ _ _=> ⟨u.slots,k b u q⟩,fun b u q n _=>by rw[AX (ne b u q)];exact n,fun b u q _=> ⟨u,k b u q⟩,fun b xs q=>by rw[AX (AU q hn)];exact q,fun b u xs q=>by rw[AX (AU q hn)];exact q,fun b ps q=> ⟨#[],by rw[AX (AU q hn),q];simp⟩⟩ ?_
 intro b u e
 by_cases hb:b=a
 ·subst hb;rw[AW] at e;cases e;exact new
 ·rw[AX hb] at e
  exact(I.hok b u e).stay (fun c v _ q=>k c v q) (fun c q=>by rw[AX (AU q hn)];exact q) fun c xs q=>by rw[AX (AU q hn)];exact q
def ZM(P:Program)(w:World)(a:Addr)(xs:List (List Int×Addr))(h:Heap):Prop:=∃o es ep t,h.get? a=some o∧o.ExactSet∧o.data=.set es ep t∧es.toList=StT.Oy xs P w∧(xs.map (·.1)).Nodup∧StT.Tb t (xs.map fun p=> (StT.tk P w).hash p.1)∧t.plain=true∧xs.length*5<t.mask*3∧t.led=!w.params.followText "set-order"
def SetO(P:Program)(w:World)(a:Addr)(xs:List (List Int×Addr)):HO:=.ext (ZM P w a xs)
theorem Ti{P:Program}{w:World}{H:Hp}{h:Heap}{a:Addr}{xs:List (List Int×Addr)}(S:StT.SetX P w h a xs):ObjOk P w H h a (SetO P w a xs):=by
 obtain⟨o,es,ep,t,S⟩:=S
 refine⟨⟨o,es,ep,t,S.get,S.ex,S.dat,S.es,S.nd,S.tb,S.pl,S.room,S.led⟩,⟨o,S.get⟩,fun h1 h2 ⟨o,es,ep,t,g,r⟩ hk=> ⟨o,es,ep,t,hk _ g,r⟩⟩
def Qf(K:a8)(H:Hp)(xs:List (List Int×Addr)):Prop:=∀k x,(k,x)∈xs→DV K H x (k.map V.int)
theorem Io{prog:Program}{w:World}:∀{k:List Int} {us:List Value},Vals (k.map V.int) us→ItemsAre (intKind prog w) k us
 | [],us,r=>by rw[kM] at r;cases r;exact .nil
 |n::k,us,r=>by
  rw[eT] at r
  cases r with
  |cons r1 r2=>
   obtain⟨t,rfl⟩:=r1
   exact .cons (intKind_is _ _ _ _) (Io r2)
theorem Inv.ik{x:Addr}{k:List Int}(I:Inv X pins σ H s)(h:DV X.K H x (k.map V.int)):StT.IK X.prog X.w s.heap k x:=by
 obtain⟨its,r,⟨o,ho,hc,n,hd⟩,hz⟩:=I.tuple h
 exact⟨o,its.toArray,n,ho,hc,hd,by simpa using Io r⟩
def bX(X:Cx):List V→Hp→VK→Prop:=fun vs H Q=>∃a ps,vs=[.ref a]∧EY X.K H a (ps.map fun p=>V.ref p.2)∧Qf X.K H ps∧ps.length≤300∧
 ∀p xs,H p=none→StT.Jf ps xs→(xs.map (·.1)).Nodup→Q (.ref p) (upd H p (SetO X.prog X.w p xs))
theorem Ip:∀{ps:List (List Int×Addr)} {us:List Value},Vals (ps.map fun p=>V.ref p.2) us→us=ps.map fun p=>Value.ref p.2
 | [],us,r=>by rw[kM] at r;cases r;rfl
 |p::ps,us,r=>by
  rw[eT] at r
  cases r with
  |cons r1 r2=>
   rw[Ip r2]
   have r1:_=Value.ref p.2:=r1
   rw[r1]
   rfl
theorem PJ(hc:X.calm=true)(hu:X.A.units+8<cLine):Au X (.type "set") (bX X):=by
 intro pins s σ H vs us Q I r h
 obtain⟨a,ps,rfl,hl,hk,hz,q⟩:=h
 obtain⟨u,rfl,ru⟩:=Vals.one r
 cases ru
 obtain⟨its,rv,p,_⟩:=I.list hl
 refine StT.HL (ps:=ps) (I.ok.hd hc) p.isList (by simpa using Ip rv) (fun k x hx=>I.ik (hk k x hx)) hz hu fun h' tk xs sx so kp=>?_
 have hf:H s.heap.objs.size=none:=I.hok.fresh (dv _)
 have nd:(xs.map (·.1)).Nodup:=by obtain⟨_,_,_,_,S⟩:=sx;exact S.nd
 exact⟨.ref s.heap.objs.size,upd H s.heap.objs.size (SetO X.prog X.w s.heap.objs.size xs),I.laid (t':=tk) (fun b u e=>kp b u (eM e) e) (dv _) (Ti sx),rfl,q _ _ hf so nd⟩
def Wp(X:Cx):List V→Hp→VK→Prop:=fun vs H Q=>∃p xs,vs=[.ref p]∧H p=some (SetO X.prog X.w p xs)∧Qf X.K H xs∧xs.length≤300∧(∀k x,(k,x)∈xs→∃i j,k=[i,j]∧0≤j∧j<65536)∧
 ∀(q:Addr) (ys:List (List Int×Addr)),H q=none→ys.Perm xs→ys.Pairwise (fun x y=>65536*x.1.getD 0 0+x.1.getD 1 0≤65536*y.1.getD 0 0+y.1.getD 1 0)→Q (.ref q) (upd H q (.lst (ys.map fun p=>V.ref p.2)))
theorem Iq:∀(ps:List (List Int×Addr)),Vals (ps.map fun p=>V.ref p.2) (ps.map fun p=>Value.ref p.2)
 | []=> .nil
 |p::ps=> .cons rfl (Iq ps)
theorem Ji(hc:X.calm=true):Au X (.builtin "sorted") (Wp X):=by
 intro pins s σ H vs us Q I r h
 obtain⟨p,xs,rfl,hp,hk,hz,h2,q⟩:=h
 obtain⟨u,rfl,ru⟩:=Vals.one r
 cases ru
 obtain⟨⟨o,es,ep,t,g1,g2,g3,g4,g5,g6,g7,g8,g9⟩,_,_⟩:=I.hok p _ hp
 refine StT.Md (xs:=xs) (I.ok.hd hc) ⟨o,es,ep,t,g1,g2,g3,g4,fun i k x e=>I.ik (hk k x (dw e)),g5,g6,g7,g8,g9⟩ hz h2 fun h' tk ys D c hD hg kp pm pw=>?_
 have hf:H D=none:=I.hok.none_of hD
 refine⟨.ref D,upd H D (.lst (ys.map fun p=>V.ref p.2)),I.laidF (t':=tk) kp hD ⟨?_,_,c,Iq ys,hg⟩,rfl,q D ys hf pm pw⟩
 rw[b6,pm.length_eq,gC]
 omega
end
end L2
namespace ZpT
open PySem PySem.Spec PyProof.Rows
structure Nx(prog:Program)(w:World)(I ax:Addr)(items:Array Value)(St:Nat→Heap→Prop):Prop where
 item:∀(A:eU) (i:Nat) (s:a9) (x:Value) (Q:Value→a9→Prop) (E:Value→a9→Prop),St i s.heap→items[i]?=some x→(∀h',St (i+1) h'→iI I s.heap h'→Q x {s with heap:=h'})→wpAny (model prog w) A (fO (.ref I)) Q E s
 fin:∀(A:eU) (i:Nat) (s:a9) (Q:Value→a9→Prop) (E:Value→a9→Prop),A.handled=none→St i s.heap→items[i]?=none→(∀h' e,nr I s.heap h'→(∃o,h'.get? e=some o∧o.cls=.type "StopIteration")→E (.ref e) {s with heap:=h'})→wpAny (model prog w) A (fO (.ref I)) Q E s
 keep:∀(i:Nat) (h h':Heap),St i h→(∀o,h.get? I=some o→h'.get? I=some o)→(∀o,h.get? ax=some o→h'.get? ax=some o)→St i h'
 there:∀(i:Nat) (h:Heap),St i h→I<h.objs.size
section
variable{prog:Program}{w:World}
theorem Qg{A:eU}{E:Value→a9→Prop}{s:a9}{it l:Addr}{i:Nat}{items:Array Value}{x:Value}{Q:Value→a9→Prop}(hit:s.heap.IsTupleIter it l i)(hl:s.heap.IsTuple l items)(hx:items[i]?=some x)
  (hQ:∀h',h'.IsTupleIter it l (i+1)→iI it s.heap h'→Q x {s with heap:=h'}):wpAny (model prog w) A (fO (.ref it)) Q E s:=by
 obtain⟨o,ho,hc,hd⟩:=id hit
 obtain⟨ol,hol,_,nl,hdl⟩:=hl
 have hne:¬((Value.ref l==iS)=true):=eC
 unfold fO
 refine a7 (gu (name:=jm "__next__") hit.typeIs iG ?_)
 refine gz iG hit.typeIs PySem.F.entry_tuple_iterator_next ?_ (PySem.F.args_tuple_iterator_next_1 _)
 show wpAny _ _ (field (.ref it) 0>>=_) _ _ s;refine a7 (gJ ho hd (x:=.ref l) rfl ?_)
 show wpAny _ _ (if(Value.ref l==iS)=true then _ else _) _ _ s;rw[if_neg hne]
 show wpAny _ _ (field (.ref it) 1>>=_) _ _ s;refine a7 (gJ ho hd (x:=.int i 0) rfl ?_)
 show wpAny _ _ (nz (.ref l)>>=_) _ _ s;refine a7 (gO hol hdl ?_)
 simp only[fg,hx]
 refine a7 (wpAny_setField ho hd (by simp) ?_)
 refine b9 ⟨x,rfl,b9 (hQ _ ⟨_,jh _ ho (Obj.isFreed_of_fields (Obj.data_mapFields hd _)),(Obj.cls_mapFields ..).trans hc,?_⟩ (jz ..))⟩
 rw[Obj.data_mapFields hd];simp[kA]
theorem Tj{A:eU}{E:Value→a9→Prop}{s:a9}{it l:Addr}{i:Nat}{items:Array Value}{Q:Value→a9→Prop}(hh:A.handled=none)(hit:s.heap.IsTupleIter it l i)(hl:s.heap.IsTuple l items)(hx:items[i]?=none)
  (hE:∀h' e,nr it s.heap h'→(∃o,h'.get? e=some o∧o.cls=.type "StopIteration")→E (.ref e) {s with heap:=h'}):wpAny (model prog w) A (fO (.ref it)) Q E s:=by
 obtain⟨o,ho,hc,hd⟩:=id hit
 obtain⟨ol,hol,_,nl,hdl⟩:=hl
 have hne:¬((Value.ref l==iS)=true):=eC
 unfold fO
 refine a7 (gu (name:=jm "__next__") hit.typeIs iG ?_)
 refine gz iG hit.typeIs PySem.F.entry_tuple_iterator_next ?_ (PySem.F.args_tuple_iterator_next_1 _)
 show wpAny _ _ (field (.ref it) 0>>=_) _ _ s;refine a7 (gJ ho hd (x:=.ref l) rfl ?_)
 show wpAny _ _ (if(Value.ref l==iS)=true then _ else _) _ _ s;rw[if_neg hne]
 show wpAny _ _ (field (.ref it) 1>>=_) _ _ s;refine a7 (gJ ho hd (x:=.int i 0) rfl ?_)
 show wpAny _ _ (nz (.ref l)>>=_) _ _ s;refine a7 (gO hol hdl ?_)
 simp only[fg,hx]
 refine a7 (je (a7 (wpAny_setField ho hd (by simp) ?_)))
 show wpAny _ _ (newExc (.type "StopIteration") []>>=_) _ _ _
 refine a7 ?_
 simp only[newExc,newTuple]
 refine a7 (fV (a7 (m:=lL _ _) (kZ (a:=iS) (by first|rfl| (simp only[lL];rfl)) ?_)) (by size_fits))
 refine fV ?_ (by size_fits)
 simp only[raiseNew]
 refine a7 (wpAny_handled ?_)
 rw[show A.in1.handled=none from hh]
 exact a7 (b9 (wpAny_throw (hE _ _ (((jz ..).extBut.push _).push _) ⟨_,eS _ rfl,rfl⟩)))
theorem Jj(I ax:Addr)(hne:ax≠I)(items:Array Value):Nx prog w I ax items (fun i h=>h.IsTupleIter I ax i∧h.IsTuple ax items) where
 item:=fun A i s x Q E st hx hQ=>Qg st.1 st.2 hx fun h' hit sb=>hQ h' ⟨hit,st.2.at fun o e=> (sb.2 ax hne).trans e⟩ sb
 fin:=fun A i s Q E hh st hx hE=>Tj hh st.1 st.2 hx hE
 keep:=fun i h h' st h1 h2=> ⟨st.1.at h1,st.2.at h2⟩
 there:=fun i h st=>by obtain⟨_,e,_⟩:=st.1;exact eM e
end
section
variable{prog:Program}{w:World}{A:eU}{E:Value→a9→Prop}{s:a9}
variable{z TI TO i1 i2 l1 l2:Addr}{xs ys:Array Value}{S1 S2:Nat→Heap→Prop}
theorem DS{i:Nat}{I ax b:Addr}{h h':Heap}{items:Array Value}{St:Nat→Heap→Prop}(N:Nx prog w I ax items St)(st:St i h)(hs:nr b h h')(h1:I≠b)(h2:ax≠b):St i h':=N.keep i h h' st (fun o e=>hs I o h1 e) fun o e=>hs ax o h2 e
theorem Qh(D:n6 z TI TO i1 i2 l1 l2)(N1:Nx prog w i1 l1 xs S1)(N2:Nx prog w i2 l2 ys S2){k1 k2:Nat}{x y a b:Value}{Q:Value→a9→Prop}
  (hz:IsZip s.heap z TI TO .none) (hTI:ju s.heap TI (.ref i1) (.ref i2)) (hTO:ju s.heap TO a b) (h1:S1 k1 s.heap) (h2:S2 k2 s.heap) (hx:xs[k1]?=some x) (hy:ys[k2]?=some y)
  (hQ:∀h',IsZip h' z TI TO (kA s.heap.objs.size)→ju h' TO x y→S1 (k1+1) h'→S2 (k2+1) h'→ju h' s.heap.objs.size x y→
   (∀c o,c≠z→c≠TO→c≠i1→c≠i2→s.heap.get? c=some o→h'.get? c=some o)→Q (.ref s.heap.objs.size) {s with heap:=h'}):
  wpAny (model prog w) A (Builtin.«zip.__next__» ⟨[.ref z],[]⟩) (fun fin s'=>∃v,fin=.done (.ret v)∧Q v s') E s:=by
 show wpAny _ _ (field (.ref z) 2>>=_) _ _ _;refine a7 (gJ hz rfl (x:=.bool false) rfl ?_)
 show wpAny _ _ (field (.ref z) 3>>=_) _ _ _;refine a7 (gJ hz rfl (x:=.ref TI) rfl (a7 (gO hTI rfl ?_)))
 show wpAny _ _ (iB (.ref z)>>=_) _ _ _
 refine a7 ?_;unfold iB
 refine a7 (gJ hz rfl (x:=.none) rfl (b9 ?_));simp only[if_true]
 refine a7 (je (a7 (gJ hz rfl (x:=.ref TO) rfl (a7 (hV hz (by simp) fun g1 z1 b1=>?_)))))
 replace z1:IsZip g1 z TI TO .ellipsis:=z1
 refine a7 ?_;simp only[mz,List.zipIdx_nil,lu,ni]
 refine a7 (a7 (l8 ?_));show wpAny _ _ (fO (.ref i1)>>=_) _ _ _
 refine a7 (N1.item _ k1 {s with heap:=g1} x _ _ (DS N1 h1 b1.extBut D.i1z D.l1z) hx fun g2 s12 b2=>b9 ?_)
 have t2:ju g2 TO a b:=b2.extBut _ _ D.TOi1 (b1.extBut _ _ D.TOz hTO)
 refine a7 (gO t2 rfl (a7 (kY (s:={s with heap:=g2}) t2 fun g3 t3 b3=>?_)))
 replace t3:ju g3 TO x b:=t3
 refine a7 (kr (b9 (a7 (a7 (l8 ?_)))));show wpAny _ _ (fO (.ref i2)>>=_) _ _ _
 have s23:S2 k2 g3:=DS N2 (DS N2 (DS N2 h2 b1.extBut D.i2z D.l2z) b2.extBut D.i12.symm D.l2i1) b3.extBut D.TOi2.symm D.l2TO
 refine a7 (N2.item _ k2 {s with heap:=g3} y _ _ s23 hy fun g4 s24 b4=>b9 ?_)
 have t4:ju g4 TO x b:=b4.extBut _ _ D.TOi2 t3
 refine a7 (gO t4 rfl (a7 (kY (s:={s with heap:=g4}) t4 fun g5 t5 b5=>?_)))
 replace t5:ju g5 TO x y:=t5
 refine a7 (kr (b9 (b9 (a7 (gO t5 rfl (a7 (mV ?_)))))))
 have hsz:g5.objs.size=s.heap.objs.size:=by rw[b5.1,b4.1,b3.1,b2.1,b1.1]
 have z5:IsZip g5 z TI TO .ellipsis:=b5.extBut _ _ D.TOz.symm (b4.extBut _ _ D.i2z.symm (b3.extBut _ _ D.TOz.symm (b2.extBut _ _ D.i1z.symm z1)))
 have k5:∀c o,c≠z→c≠TO→c≠i1→c≠i2→s.heap.get? c=some o→g5.get? c=some o:=fun c o c1 c2 c3 c4 e=>b5.extBut _ _ c2 (b4.extBut _ _ c4 (b3.extBut _ _ c2 (b2.extBut _ _ c3 (b1.extBut _ _ c1 e))))
 have s15:S1 (k1+1) g5:=DS N1 (DS N1 (DS N1 s12 b3.extBut D.TOi1.symm D.l1TO) b4.extBut D.i12 D.l1i2) b5.extBut D.TOi1.symm D.l1TO
 have s25:S2 (k2+1) g5:=DS N2 s24 b5.extBut D.TOi2.symm D.l2TO
 have zlt:z<g5.objs.size:=eM z5
 show wpAny _ _ (Builtin.SmallTypes.ownedTupleHandOut (.ref z) (.ref g5.objs.size)>>=_) _ _ _
 refine a7 ?_;unfold Builtin.SmallTypes.ownedTupleHandOut
 have z6:IsZip (g5.push {cls:=.type "tuple",data:=.seq #[x,y]}) z TI TO .ellipsis:=dm _ z5
 refine a7 (hV z6 (by simp) fun g7 z7 b7=>?_)
 replace z7:IsZip g7 z TI TO (kA g5.objs.size):=z7
 refine hV (s:={s with heap:=g7}) z7 (by simp) fun g8 z8 b8=>?_
 replace z8:IsZip g8 z TI TO (kA g5.objs.size):=z8
 have up:∀c o,c≠z→g5.get? c=some o→g8.get? c=some o:=fun c o c1 e=>b8.extBut _ _ c1 (b7.extBut _ _ c1 (dm _ e))
 have t8:ju g8 g5.objs.size x y:=b8.extBut _ _ (jI zlt) (b7.extBut _ _ (jI zlt) (eS _ rfl))
 rw[hsz] at z8 t8
 refine b9 ⟨_,rfl,?_⟩
 show Q (.ref g5.objs.size) _
 rw[hsz]
 exact hQ g8 z8 (up _ _ D.TOz t5) (N1.keep _ _ _ s15 (fun o e=>up _ o D.i1z e) fun o e=>up _ o D.l1z e) (N2.keep _ _ _ s25 (fun o e=>up _ o D.i2z e) fun o e=>up _ o D.l2z e) t8 fun c o c1 c2 c3 c4 e=>up c o c1 (k5 c o c1 c2 c3 c4 e)
theorem Tn(hh:A.handled=none)(D:n6 z TI TO i1 i2 l1 l2)(N1:Nx prog w i1 l1 xs S1)(N2:Nx prog w i2 l2 ys S2){k1 k2:Nat}{a b:Value}{Q:oy→a9→Prop}
  (hz:IsZip s.heap z TI TO .none) (hTI:ju s.heap TI (.ref i1) (.ref i2)) (hTO:ju s.heap TO a b) (h1:S1 k1 s.heap) (h2:S2 k2 s.heap) (hend:xs[k1]?=none∨ys[k2]?=none)
  (hE:∀h' e,(∀c o,c≠z→c≠TO→c≠i1→c≠i2→s.heap.get? c=some o→h'.get? c=some o)→(∃o,h'.get? e=some o∧o.cls=.type "StopIteration")→E (.ref e) {s with heap:=h'}):
  wpAny (model prog w) A (Builtin.«zip.__next__» ⟨[.ref z],[]⟩) Q E s:=by
 show wpAny _ _ (field (.ref z) 2>>=_) _ _ _;refine a7 (gJ hz rfl (x:=.bool false) rfl ?_)
 show wpAny _ _ (field (.ref z) 3>>=_) _ _ _;refine a7 (gJ hz rfl (x:=.ref TI) rfl (a7 (gO hTI rfl ?_)))
 show wpAny _ _ (iB (.ref z)>>=_) _ _ _
 refine a7 ?_;unfold iB
 refine a7 (gJ hz rfl (x:=.none) rfl (b9 ?_));simp only[if_true]
 refine a7 (je (a7 (gJ hz rfl (x:=.ref TO) rfl (a7 (hV hz (by simp) fun g1 z1 b1=>?_)))))
 replace z1:IsZip g1 z TI TO .ellipsis:=z1
 refine a7 ?_;simp only[mz,List.zipIdx_nil,lu,ni]
 refine a7 (a7 (l8 ?_));show wpAny _ _ (fO (.ref i1)>>=_) _ _ _
 have s11:=DS N1 h1 b1.extBut D.i1z D.l1z
 cases hx:xs[k1]? with
 |none=>
  refine a7 (N1.fin _ k1 {s with heap:=g1} _ _ hh s11 hx fun g2 e b2 ⟨oe,hoe,hce⟩=>?_)
  have z2:IsZip g2 z TI TO .ellipsis:=b2 _ _ D.i1z.symm z1
  have hez:e≠z:=fun q=>by rw[q,z2] at hoe;cases hoe;simp at hce
  exact hV (s:={s with heap:=g2}) z2 (by simp) fun g3 _ b3=>hE g3 e (fun c o c1 _ c3 _ q=>b3.extBut _ _ c1 (b2 _ _ c3 (b1.extBut _ _ c1 q))) ⟨oe,b3.extBut _ _ hez hoe,hce⟩
 |some x=>
  have hy:ys[k2]?=none:=hend.resolve_left (by rw[hx];simp)
  refine a7 (N1.item _ k1 {s with heap:=g1} x _ _ s11 hx fun g2 s12 b2=>b9 ?_)
  have t2:ju g2 TO a b:=b2.extBut _ _ D.TOi1 (b1.extBut _ _ D.TOz hTO)
  refine a7 (gO t2 rfl (a7 (kY (s:={s with heap:=g2}) t2 fun g3 t3 b3=>?_)))
  refine a7 (kr (b9 (a7 (a7 (l8 ?_)))));show wpAny _ _ (fO (.ref i2)>>=_) _ _ _
  have s23:S2 k2 g3:=DS N2 (DS N2 (DS N2 h2 b1.extBut D.i2z D.l2z) b2.extBut D.i12.symm D.l2i1) b3.extBut D.TOi2.symm D.l2TO
  refine a7 (N2.fin _ k2 {s with heap:=g3} _ _ hh s23 hy fun g4 e b4 ⟨oe,hoe,hce⟩=>?_)
  have z4:IsZip g4 z TI TO .ellipsis:=b4 _ _ D.i2z.symm (b3.extBut _ _ D.TOz.symm (b2.extBut _ _ D.i1z.symm z1))
  have hez:e≠z:=fun q=>by rw[q,z4] at hoe;cases hoe;simp at hce
  exact hV (s:={s with heap:=g4}) z4 (by simp) fun g5 _ b5=>hE g5 e (fun c o c1 c2 c3 c4 q=>b5.extBut _ _ c1 (b4 _ _ c4 (b3.extBut _ _ c2 (b2.extBut _ _ c3 (b1.extBut _ _ c1 q))))) ⟨oe,b5.extBut _ _ hez hoe,hce⟩
theorem FT(D:n6 z TI TO i1 i2 l1 l2)(N1:Nx prog w i1 l1 xs S1)(N2:Nx prog w i2 l2 ys S2){k1 k2:Nat}{x y a b:Value}{Q:Option Value→a9→Prop}
  (hz:IsZip s.heap z TI TO .none) (hTI:ju s.heap TI (.ref i1) (.ref i2)) (hTO:ju s.heap TO a b) (h1:S1 k1 s.heap) (h2:S2 k2 s.heap) (hx:xs[k1]?=some x) (hy:ys[k2]?=some y)
  (hQ:∀h',IsZip h' z TI TO (kA s.heap.objs.size)→ju h' TO x y→S1 (k1+1) h'→S2 (k2+1) h'→ju h' s.heap.objs.size x y→
   (∀c o,c≠z→c≠TO→c≠i1→c≠i2→s.heap.get? c=some o→h'.get? c=some o)→Q (some (.ref s.heap.objs.size)) {s with heap:=h'}):wpAny (model prog w) A (ki (.ref z)) Q E s:=by
 have hT:s.TypeIs (.ref z) "zip":=⟨_,hz,rfl⟩
 unfold ki
 refine a7 (jq (gu (name:=jm "__next__") hT jQ ?_))
 refine gz jQ hT PySem.F.entry_zip_next (Qh D N1 N2 hz hTI hTO h1 h2 hx hy fun h' a1 a2 a3 a4 a5 a6=>?_) (PySem.F.args_zip_next_1 _)
 exact b9 (hQ h' a1 a2 a3 a4 a5 a6)
theorem HH(hh:A.handled=none)(D:n6 z TI TO i1 i2 l1 l2)(N1:Nx prog w i1 l1 xs S1)(N2:Nx prog w i2 l2 ys S2){k1 k2:Nat}{a b:Value}{Q:Option Value→a9→Prop}
  (hz:IsZip s.heap z TI TO .none) (hTI:ju s.heap TI (.ref i1) (.ref i2)) (hTO:ju s.heap TO a b) (h1:S1 k1 s.heap) (h2:S2 k2 s.heap) (hend:xs[k1]?=none∨ys[k2]?=none)
  (hQ:∀h',(∀c o,c≠z→c≠TO→c≠i1→c≠i2→s.heap.get? c=some o→h'.get? c=some o)→Q none {s with heap:=h'}):wpAny (model prog w) A (ki (.ref z)) Q E s:=by
 have hT:s.TypeIs (.ref z) "zip":=⟨_,hz,rfl⟩
 unfold ki
 refine a7 (jq (gu (name:=jm "__next__") hT jQ ?_))
 refine gz jQ hT PySem.F.entry_zip_next (Tn (A:=A.in1) hh D N1 N2 hz hTI hTO h1 h2 hend fun h' e hk ⟨o,ho,hc⟩=>?_) (PySem.F.args_zip_next_1 _)
 exact a7 (mj (T:="StopIteration") (b:=true) ⟨o,ho,hc⟩ isSubtype_stop (b9 (hQ _ hk)))
theorem Qi{t u:Addr}{xs ys:Array Value}{Q:Value→a9→Prop}(ht:s.heap.IsTuple t xs)(hu:s.heap.IsTuple u ys)
  (h:∀h' n,n=s.heap.objs.size→IsZip h' (n+4) (n+2) (n+3) .none→ju h' (n+2) (.ref n) (.ref (n+1))→ju h' (n+3) .none .none→h'.IsTupleIter n t 0→h'.IsTupleIter (n+1) u 0→
   (∀c o,s.heap.get? c=some o→h'.get? c=some o)→Q (.ref (n+4)) {s with heap:=h'}):wpAny (model prog w) A (call (.type "zip") [.ref t,.ref u]) Q E s:=by
 have M:Meets (Builtin.«zip.__new__» ⟨[.type "zip",.ref t,.ref u],[]⟩) (fun _ R s=>s.heap.IsTuple t xs∧s.heap.IsTuple u ys∧
   ∀h',h'=((((s.heap.push {cls:=.type "tuple_iterator",data:=.fields #[.ref t,.int 0 0]}).push {cls:=.type "tuple_iterator",data:=.fields #[.ref u,.int 0 0]}).push {cls:=.type "tuple",data:=.seq #[.ref s.heap.objs.size,.ref (s.heap.objs.size+1)]}).push {cls:=.type "tuple",data:=.seq #[.none,.none]}).push
     {cls:=.type "zip",data:=.fields #[.none,.bool false,.bool false,.ref (s.heap.objs.size+2),.ref (s.heap.objs.size+3)]}→R (.ok (.ret (.ref (s.heap.objs.size+4)))) {s with heap:=h'}):=
  .of_wp fun prog w A R s h=>by
   obtain⟨hp,g,d,tk,os⟩:=s
   obtain⟨hl1,hl2,h⟩:=h
   have hsub:=sub_zip
   have hL1:Heap.IsTuple (a9.heap ⟨hp,g,d,tk,os⟩) t xs:=hl1
   have hL2:Heap.IsTuple (a9.heap ⟨hp.push {cls:=.type "tuple_iterator",data:=.fields #[.ref t,.int 0 0]},g,d,tk,os⟩) u ys:=hl2.at fun o e=>dm _ e
   wp_walk using jF hL1,jF hL2
   simp only[fZ] at h ⊢
   exact⟨_,rfl,h _ rfl⟩
 refine callType_new PySem.F.called_zip (by decide) (PySem.F.typeCall_zip_2 _ _) (PySem.F.newCall_zip_2 _ _) (fun obj=>PySem.F.args_object_init_3 obj _ _) PySem.F.entry_zip_new M ⟨ht,hu,?_⟩
 rintro h' rfl
 have sz:∀(h:Heap) (o:Obj),(h.push o).objs.size=h.objs.size+1:=fun h o=>fZ ..
 have up:∀{h:Heap} {c:Addr} {o o':Obj},h.get? c=some o→(h.push o').get? c=some o:=fun e=>dm _ e
 have g0:∀(h:Heap) (o:Obj) (n:Nat),h.objs.size=n→o.isFreed=false→(h.push o).get? n=some o:=fun h o n e f=>by rw[←e];exact eS _ f
 refine⟨⟨_,g0 _ _ _ (by simp[sz]) rfl,rfl⟩,h _ _ rfl (g0 _ _ _ (by simp[sz]) rfl) (up (up (g0 _ _ _ (by simp[sz]) rfl))) (up (g0 _ _ _ (by simp[sz]) rfl)) ⟨_,up (up (up (up (g0 _ _ _ rfl rfl)))),rfl,rfl⟩ ⟨_,up (up (up (g0 _ _ _ (by simp[sz]) rfl))),rfl,rfl⟩ fun c o e=>up (up (up (up (up e))))⟩
end
end ZpT
namespace L2
open PySem PySem.Spec PyProof.Rows
def bZ(K:a8)(t u:Addr):It:=⟨fun i H=>∃xs ys x y,DV K H t xs∧DV K H u ys∧xs[i]?=some x∧ys[i]?=some y,
 fun i H v H'=>∃p x y,H p=none∧v=.ref p∧H'=upd H p (.tup [x,y])∧(∀xs,DV K H t xs→xs[i]?=some x)∧∀ys,DV K H u ys→ys[i]?=some y,fun i H=>∃xs ys,DV K H t xs∧DV K H u ys∧(xs.length≤i∨ys.length≤i)⟩
section
variable{X:Cx}
theorem Inv.turns{pins:List (Addr×Obj)}{σ:St}{H:Hp}{s:a9}{h':Heap}{t':Nat}{ch:List Addr}(I:Inv X pins σ H s)(hf:∀b∈ch,Gh X pins H b)(k:∀b o,b∉ch→s.heap.get? b=some o→h'.get? b=some o):Inv X pins σ H {s with heap:=h',toks:=t'}:=by
 refine I.call' (s':={s with heap:=h',toks:=t'}) (ch:=ch) rfl ⟨fun b o e _ _ hb=>k b o hb e,fun b o e _ _ hb=> ⟨o.slots,k b o hb e⟩,fun _ _ _ n _=>n,fun b o e hb=> ⟨o,k b o hb e⟩,fun _ _ e=>e,fun _ _ _ e=>e,fun b ps e=> ⟨#[],by rw[e];simp⟩⟩ (I.hok.by_keep fun b o hb e=>k b o (fun z=>hb (hf b z).1) e) I.bare fun b hb=>?_
 obtain⟨_,q2,q3,q4,q5,q6⟩:=hf b hb
 exact⟨q4,q2,q5,q6⟩
theorem Qj{P:Program}{w:World}{K:a8}{es:List Expr}{k:Nat}{pos:Pos}{z TI TO i1 i2 t u:Addr}(D:n6 z TI TO i1 i2 t u):
  Turn P w K (.Tuple es k pos) (bZ K t u) [z,TI,TO,i1,i2] z (fun i h=>IsZip h z TI TO .none∧ju h TI (.ref i1) (.ref i2)∧(∃a b,ju h TO a b)∧h.IsTupleIter i1 t i∧h.IsTupleIter i2 u i) where
 mem:=by simp
 obj:=fun i h st b hb=>by
  obtain⟨s1,s2,⟨a,c,s3⟩,⟨o4,e4,c4,d4⟩,⟨o5,e5,c5,d5⟩⟩:=st
  simp only[eJ,fW,or_false] at hb
  rcases hb with rfl|rfl|rfl|rfl|rfl
  ·exact⟨_,s1,fun v q=>by have q:Data.fields _=oz v:=q;cases q⟩
  ·exact⟨_,s2,fun v q=>by have q:Data.seq _ _=oz v:=q;cases q⟩
  ·exact⟨_,s3,fun v q=>by have q:Data.seq _ _=oz v:=q;cases q⟩
  ·exact⟨o4,e4,fun v q=>by rw[d4] at q;cases q⟩
  ·exact⟨o5,e5,fun v q=>by rw[d5] at q;cases q⟩
 keep:=fun i h h' st kk=>by
  obtain⟨s1,s2,⟨a,c,s3⟩,s4,s5⟩:=st
  exact⟨kk z (by simp) _ s1,kk TI (by simp) _ s2,⟨a,c,kk TO (by simp) _ s3⟩,s4.at fun o e=>kk i1 (by simp) o e,s5.at fun o e=>kk i2 (by simp) o e⟩
 item:=by
  intro X hP hw hK hc i pins s σ H E I hf st hg
  subst hP hw hK
  obtain⟨xs,ys,x,y,hq1,hq2,hx,hy⟩:=hg
  obtain⟨its,rv,p,hz⟩:=I.tuple hq1
  obtain⟨its2,rv2,p2,hz2⟩:=I.tuple hq2
  obtain⟨a,ha,ra⟩:=rv.get hx
  obtain⟨b,hb,rb⟩:=rv2.get hy
  obtain⟨s1,s2,⟨c,d,s3⟩,s4,s5⟩:=st
  refine ZpT.FT D (ZpT.Jj i1 t D.l1i1 its.toArray) (ZpT.Jj i2 u D.l2i2 its2.toArray) s1 s2 s3 ⟨s4,p⟩ ⟨s5,p2⟩ (by simpa using ha) (by simpa using hb) fun h1 z1 to1 a1 a2 n1 k1=>?_
  refine⟨_,rfl,wpAny_letOwnedTupleGo_zip (s:={s with heap:=h1}) z1 fun h2 z2 sb2=>?_⟩
  have hlt:∀v o,s.heap.get? v=some o→v≠s.heap.objs.size:=fun v o e=>fb (eM e)
  have zs:z≠s.heap.objs.size:=hlt z _ s1
  have up2:∀v o,v≠z→h1.get? v=some o→h2.get? v=some o:=fun v o hv e=> (sb2.2 v hv).trans e
  have hT:H s.heap.objs.size=none:=I.hok.fresh (dv _)
  have kk:∀v o,v∉[z,TI,TO,i1,i2]→s.heap.get? v=some o→h2.get? v=some o:=fun v o hv e=>by
   simp only[eJ,fW,or_false,not_or] at hv
   exact up2 v o hv.1 (k1 v o hv.1 hv.2.2.1 hv.2.2.2.1 hv.2.2.2.2 e)
  have I1:Inv X pins σ (upd H s.heap.objs.size (.tup [x,y])) {s with heap:=h2}:=by
   have ne:∀v o,s.heap.get? v=some o→upd H s.heap.objs.size (.tup [x,y]) v=H v:=fun v o e=>AX (hlt v o e)
   refine I.call' (s':={s with heap:=h2}) (ch:=[z,TI,TO,i1,i2]) rfl ⟨fun v o e _ _ hv=>kk v o hv e,fun v o e _ _ hv=> ⟨o.slots,kk v o hv e⟩,fun v o e n _=>by rw[ne v o e];exact n,fun v o e hv=> ⟨o,kk v o hv e⟩,fun v xs e=>?_,fun v o xs e=>?_,fun v ps e=>?_⟩ ?_ I.bare fun v hv=>?_
   ·rw[AX (AU e hT)];exact e
   ·rw[AX (AU e hT)];exact e
   ·exact⟨#[],by rw[AX (AU e hT),e];simp⟩
   ·intro v o e
    by_cases hv:v=s.heap.objs.size
    ·subst hv
     rw[AW] at e;cases e
     exact⟨by show 2≤sizeLine;decide,[a,b],.cons ra (.cons rb .nil),⟨_,up2 _ _ (Ne.symm zs) n1,rfl,_,rfl⟩⟩
    ·rw[AX hv] at e
     refine(I.hok v o e).stay (fun c w' hc' q=>kk c w' (fun hm=>?_) q) (fun c q=>by rw[AX (AU q hT)];exact q) fun c xs q=>by rw[AX (AU q hT)];exact q
     have hn:=(hf c hm).1
     rcases hc' with rfl|hc'
     ·rw[e] at hn;cases hn
     ·rw[hc'] at hn;cases hn
   ·obtain⟨_,q2,q3,q4,q5,q6⟩:=hf v hv
    exact⟨q4,q2,q5,q6⟩
  refine⟨.ref s.heap.objs.size,_,I1,rfl,⟨_,x,y,hT,rfl,rfl,fun xs' q=>by rw[I.tuple_inj q hq1];exact hx,fun ys' q=>by rw[I.tuple_inj q hq2];exact hy⟩,⟨z2,up2 TI _ D.TIz (k1 TI _ D.TIz D.TITO D.TIi1 D.TIi2 s2),⟨_,_,up2 TO _ D.TOz to1⟩,a1.1.at fun o e=>up2 i1 o D.i1z e,a2.1.at fun o e=>up2 i2 o D.i2z e⟩,fun v hv=>?_⟩
  have hvo:∃o,s.heap.get? v=some o:=by
   simp only[eJ,fW,or_false] at hv
   rcases hv with rfl|rfl|rfl|rfl|rfl
   ·exact⟨_,s1⟩
   ·exact⟨_,s2⟩
   ·exact⟨_,s3⟩
   ·obtain⟨o,e,_⟩:=s4;exact⟨o,e⟩
   ·obtain⟨o,e,_⟩:=s5;exact⟨o,e⟩
  obtain⟨o,e⟩:=hvo
  rw[AX (hlt v o e)]
  exact(hf v hv).1
 done:=by
  intro X hP hw hK hc i pins s σ H E I hf st hg
  subst hP hw hK
  obtain⟨xs,ys,hq1,hq2,hl⟩:=hg
  obtain⟨its,rv,p,hz⟩:=I.tuple hq1
  obtain⟨its2,rv2,p2,hz2⟩:=I.tuple hq2
  have l1:=rv.length
  have l2:=rv2.length
  obtain⟨s1,s2,⟨c,d,s3⟩,s4,s5⟩:=st
  refine ZpT.HH (I.ok.hd hc) D (ZpT.Jj i1 t D.l1i1 its.toArray) (ZpT.Jj i2 u D.l2i2 its2.toArray) s1 s2 s3 ⟨s4,p⟩ ⟨s5,p2⟩ (hl.imp (fun q=>by simp;omega) fun q=>by simp;omega) fun h' k1=> ⟨rfl,I.turns (t':=s.toks) hf fun v o hv e=>?_⟩
  simp only[eJ,fW,or_false,not_or] at hv
  exact k1 v o hv.1 hv.2.2.1 hv.2.2.2.1 hv.2.2.2.2 e
 self:=fun _ _ _ _ _ st h=>wpAny_pyIter_zip st.1 h
theorem Qk:fw "zip" =some (.type "zip"):=by decide+kernel
def ba(K:a8)(ta:TA):TI:=fun σ H R=>ta σ H fun vs H1=>∃t u,vs=[.ref t,.ref u]∧(∃xs,DV K H1 t xs)∧(∃ys,DV K H1 u ys)∧R (bZ K t u) H1
theorem Wq{a b:Expr}{ta:TA}{p pos tpos:Pos}{es:List Expr}{k:Nat}(hg:Gl X "zip")(hm:X.mg "zip" =none)(ha:PA X [a,b] ta)(hs:du [a,b] X.env=[(false,eval a X.env),(false,eval b X.env)]:=by rfl)(hs2:du [b] X.env=[(false,eval b X.env)]:=by rfl):
  PI X (.Tuple es k tpos) (.Call (.Name "zip" p) [a,b] [] pos) (ba X.K ta):=by
 intro pins s σ H R I h
 refine Call_ (EC I hg hm Qk (i9 (BB (ha pos pins s σ H _ I h) fun us s1 ⟨vs,H1,I1,r1,q1⟩=>?_) (by rw[hs,hs2]) (by rw[hs2];rfl)))
 obtain⟨t,u,rfl,⟨xs,h1⟩,⟨ys,h2⟩,q⟩:=q1
 obtain⟨v1,v2,rfl,e1,e2⟩:=NM r1
 cases e1;cases e2
 obtain⟨its,rv,p1,_⟩:=I1.tuple h1
 obtain⟨its2,rv2,p2,_⟩:=I1.tuple h2
 have a1:t<s1.heap.objs.size:=by obtain⟨_,e,_⟩:=p1;exact eM e
 have a2:u<s1.heap.objs.size:=by obtain⟨_,e,_⟩:=p2;exact eM e
 refine ZpT.Qi (xs:=its.toArray) (ys:=its2.toArray) p1 p2 fun h' n hn z1 z2 z3 z4 z5 kp=>?_
 subst hn
 refine wpAny_pyIter_zip z1 ?_
 refine⟨_,_,_,_,H1,rfl,I1.kept (t':=s1.toks) kp,Qj (zipApart_new a1 a2),⟨z1,z2,⟨_,_,z3⟩,z4,z5⟩,fun b hb=>?_,q⟩
 have hge:s1.heap.objs.size≤b:=by
  simp only[eJ,fW,or_false] at hb
  rcases hb with rfl|rfl|rfl|rfl|rfl<;>omega
 exact I1.fpOk hge (I1.hok.fresh hge)
end
open PySem.Calls
section
variable{X:Cx}
def Wr(K:a8)(H:Hp)(a:Addr)(xs:List V):Prop:=EY K H a xs∨DV K H a xs
theorem Inv.walk{pins:List (Addr×Obj)}{σ:St}{H:Hp}{s:a9}{a:Addr}{xs:List V}(I:Inv X pins σ H s)(hq:Wr X.K H a xs):∃its:List Value,Vals xs its∧a<s.heap.objs.size∧∀(A:eU) (E:Value→a9→Prop) (Q:Value→a9→Prop),A.handled=none→
  (∀(o:Obj) (St:Nat→Heap→Prop),Walks X.prog X.w A s.heap.objs.size [s.heap.objs.size,a] [s.heap.objs.size] its.length (fun i v=>its[i]?=some v) St→St 0 (s.heap.push o)→Q (.ref s.heap.objs.size) {s with heap:=s.heap.push o})→wpAny (model X.prog X.w) A (mX (.ref a)) Q E s:=by
 rcases hq with hq|hq
 ·obtain⟨its,rv,p,_⟩:=I.list hq
  have lt:a<s.heap.objs.size:=by obtain⟨_,_,e,_⟩:=p;exact eM e
  refine⟨its,rv,lt,fun A E Q hh h=>lU p.isList ?_⟩
  have W:=Walks.list (prog:=X.prog) (w:=X.w) (A:=A) hh s.heap.objs.size a (fb lt) its.toArray
  have W':Walks X.prog X.w A s.heap.objs.size [s.heap.objs.size,a] [s.heap.objs.size] its.length (fun i v=>its[i]?=some v) (fun i h=>h.IsListIter s.heap.objs.size a i∧h.IsList a its.toArray):=by simpa using W
  exact h _ _ W' ⟨⟨_,eS _ rfl,rfl,rfl⟩,p.isList.push _⟩
 ·obtain⟨its,rv,p,_⟩:=I.tuple hq
  have lt:a<s.heap.objs.size:=by obtain⟨_,e,_⟩:=p;exact eM e
  refine⟨its,rv,lt,fun A E Q hh h=>jF (items:=its.toArray) p ?_⟩
  have W:=Walks.tuple (prog:=X.prog) (w:=X.w) (A:=A) hh s.heap.objs.size a (fb lt) its.toArray
  have W':Walks X.prog X.w A s.heap.objs.size [s.heap.objs.size,a] [s.heap.objs.size] its.length (fun i v=>its[i]?=some v) (fun i h=>h.IsTupleIter s.heap.objs.size a i∧h.IsTuple a its.toArray):=by simpa using W
  have p':s.heap.IsTuple a its.toArray:=p
  exact h _ _ W' ⟨⟨_,eS _ rfl,rfl,rfl⟩,p'.at fun o e=>dm _ e⟩
theorem FW{s:a9}{o:Obj}{h':Heap}(hk:∀b x,b∉[s.heap.objs.size]→(s.heap.push o).get? b=some x→h'.get? b=some x):∀b x,s.heap.get? b=some x→h'.get? b=some x:=fun b x e=>
 hk b x (by simpa using fb (eM e)) (dm _ e)
theorem To{bs:List Bool}:∀{us:List Value},Vals (bs.map V.bl) us→us=bs.map lN:=by
 induction bs with
 |nil=>intro us r;rw[kM] at r;cases r;rfl
 |cons b bs ih=>
  intro us r
  rw[eT] at r
  cases r with
  |cons r1 r2=>
   cases r1
   rw[ih r2];rfl
theorem LM(bs:List Bool):((eW bs.length).all fun i=> (bs[i]?).getD true)=bs.all id:=LSm.range_all bs
theorem Ql(hc:X.calm=true):Au X (.builtin "all") (fun vs H Q=>∃(a:Addr) (bs:List Bool),vs=[.ref a]∧Wr X.K H a (bs.map V.bl)∧Q (.bl (bs.all id)) H):=by
 intro pins s σ H vs us Q I r h
 obtain⟨a,bs,rfl,hq,q⟩:=h
 obtain⟨u,rfl,ru⟩:=DP r
 cases ru
 obtain⟨its,rv,lt,wk⟩:=I.walk hq
 have e:=To rv
 refine call_all_walk (wk X.A.in1 _ _ (I.ok.hd hc) fun o St W st=> ⟨_,_,_,_,_,_,fun i=> (bs[i]?).getD true,rfl,W,st,fun i v s' Q' E' hP hQ=>?_,fun h' tk hk=>?_⟩)
 ·rw[e,c9] at hP
  cases hb:bs[i]? with
  |none=>rw[hb] at hP;cases hP
  |some b=>
   rw[hb] at hP
   cases hP
   simp only[hb,Option.getD_some] at hQ
   exact iZ hQ
 ·have e2:its.length=bs.length:=by rw[e,b6]
  rw[e2,LM]
  exact⟨.bl _,H,I.kept (t':=tk) (FW hk),rfl,q⟩
theorem CI{ns:List Int}{us:List Value}(r:Vals (ns.map V.int) us)(i:Nat)(v:Value)(h:us[i]?=some v):∃t,v=.int (ns.getD i 0) t:=by
 have hl:=r.length
 have hi:i<ns.length:=by
  have:=(eB.mp h).1
  rw[b6] at hl;omega
 obtain⟨u,e,t,rfl⟩:=r.get (i:=i) (x:=.int ns[i]) (by simp[hi])
 rw[h] at e;cases e
 exact⟨t,by simp[gQ,hi]⟩
def Qm(ns:List Int)(m:Int):Prop:=m∈ns∧∀n∈ns,m≤n
def ZN(ns:List Int)(m:Int):Prop:=m∈ns∧∀n∈ns,n≤m
theorem HM{ns:List Int}{i:Nat}(h:i<ns.length):ns.getD i 0∈ns:=by simp[gQ,h]
theorem PK(hc:X.calm=true):Au X (.builtin "min") (fun vs H Q=>∃(a:Addr) (ns:List Int),vs=[.ref a]∧Wr X.K H a (ns.map V.int)∧0<ns.length∧∀m,Qm ns m→Q (.int m) H):=by
 intro pins s σ H vs us Q I r h
 obtain⟨a,ns,rfl,hq,h0,q⟩:=h
 obtain⟨u,rfl,ru⟩:=DP r
 cases ru
 obtain⟨its,rv,lt,wk⟩:=I.walk hq
 have hl:its.length=ns.length:=by have:=rv.length;rw[b6] at this;exact this.symm
 refine call_min_walk (wk X.A.in1 _ _ (I.ok.hd hc) fun o St W st=> ⟨_,_,_,_,_,_,_,rfl,W,st,fun b hb=>?_,by omega,CmpOf.ints_lt (fun i=>ns.getD i 0) (fun i v hv=>CI rv i v hv),fun v h' tk hP hk=>?_⟩)
 ·show b< (s.heap.push o).objs.size
  rw[fZ]
  simp only[eJ,fW,or_false] at hb
  rcases hb with rfl|rfl
  ·exact iT _
  ·exact gZ lt
 ·obtain⟨t,rfl⟩:=CI rv _ v hP
  obtain⟨b1,b2⟩:=argBest_lt (fun i=>ns.getD i 0) (its.length-1)
  exact⟨.int _,H,I.kept (t':=tk) (FW hk),⟨t,rfl⟩,q _ ⟨HM (by omega),fun n hn=>by
   obtain⟨j,hj,rfl⟩:=iq hn
   have:=b2 j (by omega)
   simpa[gQ,hj] using this⟩⟩
theorem PL(hc:X.calm=true):Au X (.builtin "max") (fun vs H Q=>∃(a:Addr) (ns:List Int),vs=[.ref a]∧Wr X.K H a (ns.map V.int)∧0<ns.length∧∀m,ZN ns m→Q (.int m) H):=by
 intro pins s σ H vs us Q I r h
 obtain⟨a,ns,rfl,hq,h0,q⟩:=h
 obtain⟨u,rfl,ru⟩:=DP r
 cases ru
 obtain⟨its,rv,lt,wk⟩:=I.walk hq
 have hl:its.length=ns.length:=by have:=rv.length;rw[b6] at this;exact this.symm
 refine call_max_walk (wk X.A.in1 _ _ (I.ok.hd hc) fun o St W st=> ⟨_,_,_,_,_,_,_,rfl,W,st,fun b hb=>?_,by omega,CmpOf.ints_gt (fun i=>ns.getD i 0) (fun i v hv=>CI rv i v hv),fun v h' tk hP hk=>?_⟩)
 ·show b< (s.heap.push o).objs.size
  rw[fZ]
  simp only[eJ,fW,or_false] at hb
  rcases hb with rfl|rfl
  ·exact iT _
  ·exact gZ lt
 ·obtain⟨t,rfl⟩:=CI rv _ v hP
  obtain⟨b1,b2⟩:=argBest_gt (fun i=>ns.getD i 0) (its.length-1)
  exact⟨.int _,H,I.kept (t':=tk) (FW hk),⟨t,rfl⟩,q _ ⟨HM (by omega),fun n hn=>by
   obtain⟨j,hj,rfl⟩:=iq hn
   have:=b2 j (by omega)
   simpa[gQ,hj] using this⟩⟩
theorem Fv:Au X (.type "tuple") (fun vs H Q=>∃a xs,vs=[.ref a]∧EY X.K H a xs∧∀p,H p=none→Q (.ref p) (upd H p (.tup xs))):=by
 intro pins s σ H vs us Q I r h
 obtain⟨a,xs,rfl,hq,q⟩:=h
 obtain⟨u,rfl,ru⟩:=DP r
 cases ru
 obtain⟨its,rv,p,hz⟩:=I.list hq
 have hl:=rv.length
 refine call_tuple_list p.isList (fun h' hk=>?_) (by simpa[←hl] using hz)
 have hn:s.heap.get? h'.objs.size=none:=by
  cases e:s.heap.get? h'.objs.size with
  |none=>rfl
  |some o=>exact absurd (eM (hk _ _ e)) (gw _)
 exact⟨.ref h'.objs.size,upd H h'.objs.size (.tup xs),I.laidF (t':=s.toks) (fun b u e=>dm _ (hk b u e)) hn ⟨hz,its,rv,⟨_,eS _ rfl,rfl,_,rfl⟩⟩,rfl,q _ (I.hok.none_of hn)⟩
theorem EH:Au X (.type "list") (fun vs H Q=>∃a xs,vs=[.ref a]∧Wr X.K H a xs∧∀p,H p=none→Q (.ref p) (upd H p (.lst xs))):=by
 intro pins s σ H vs us Q I r h
 obtain⟨a,xs,rfl,hq,q⟩:=h
 obtain⟨u,rfl,ru⟩:=DP r
 cases ru
 have hf:H s.heap.objs.size=none:=I.hok.fresh (dv _)
 have fin:∀(its:List Value) (h':Heap) (c:Nat),Vals xs its→xs.length≤sizeLine→(∀b o',s.heap.get? b=some o'→h'.get? b=some o')→h'.get? s.heap.objs.size=some {cls:=.type "list",dict:=none,data:=.seq its.toArray c,slots:=#[]}→EP X pins σ Q (.ref s.heap.objs.size) {s with heap:=h'}:=fun its h' c rv hz hk hD=>
  ⟨.ref s.heap.objs.size,upd H s.heap.objs.size (.lst xs),I.laid (t':=s.toks) hk (dv _) ⟨hz,its,c,rv,hD⟩,rfl,q _ hf⟩
 rcases hq with hq|hq
 ·obtain⟨its,rv,⟨o,n,ho,hc,hd,hdt⟩,hz⟩:=I.list hq
  have hl:=rv.length
  exact call_list_seq (hsz:=by simpa[←hl] using hz) a (.inl rfl) ho hc hdt fun h' c' hk hD=>fin its h' c' rv hz hk hD
 ·obtain⟨its,rv,⟨o,ho,hc,n,hdt⟩,hz⟩:=I.tuple hq
  have hl:=rv.length
  exact call_list_seq (hsz:=by simpa[←hl] using hz) a (.inr rfl) ho hc hdt fun h' c' hk hD=>fin its h' c' rv hz hk hD
theorem LN:Au X (.type "range") (fun vs H Q=>∃k:Int,vs=[.int k]∧∀p,H p=none→Q (.ref p) (upd H p (.rng 0 k))):=by
 intro pins s σ H vs us Q I r h
 obtain⟨k,rfl,q⟩:=h
 obtain⟨u,rfl,t,rfl⟩:=DP r
 have hf:H s.heap.objs.size=none:=I.hok.fresh (dv _)
 exact call_range_1 ⟨.ref s.heap.objs.size,upd H s.heap.objs.size (.rng 0 k),I.laid (fun b u e=>dm _ e) (dv _) ⟨_,_,_,eS _ rfl⟩,rfl,q _ hf⟩
theorem Me(hc:X.calm=true):Au X (.type "list") (fun vs H Q=>∃(a:Addr) (k:Int),vs=[.ref a]∧H a=some (.rng 0 k)∧0≤k∧k≤1000∧∀p,H p=none→Q (.ref p) (upd H p (.lst ((eW k.toNat).map fun(i:Nat)=>V.int i)))):=by
 intro pins s σ H vs us Q I r h
 obtain⟨a,k,rfl,ha,k0,k1,q⟩:=h
 obtain⟨u,rfl,ru⟩:=DP r
 cases ru
 obtain⟨t,u,v,hr⟩:=I.hok a _ ha
 have hf:H s.heap.objs.size=none:=I.hok.fresh (dv _)
 have hn:Builtin.Range.rangeSize 0 k 1=k.toNat:=by rw[rangeSize_one];split<;>omega
 refine call_list_range (I.ok.hd hc) hr (small_one (by omega) (by omega) (by omega) (by omega)) hn (by omega) fun h' tk acc c hk hD hacc=>?_
 refine⟨.ref s.heap.objs.size,_,I.laid (o:=.lst ((eW k.toNat).map fun(i:Nat)=>V.int i)) (t':=tk) hk (dv _) ⟨?_,acc.toList,c,?_,by rw[Array.toArray_toList];exact hD⟩,rfl,q _ hf⟩
 ·rw[b6,gH,gC];omega
 ·have all:∀(l:List Value) (n m:Nat),l.length=n→(∀i v,l[i]?=some v→∃t,v=kR ((m+i:Nat):Int) t)→Vals ((List.range' m n).map fun(i:Nat)=>V.int i) l:=by
   intro l
   induction l with
   |nil=>intro n m e _;subst e;exact .nil
   |cons x l ih=>
    intro n m e hv
    subst e
    rw[eD,List.range'_succ,eT]
    refine .cons ?_ (ih l.length (m+1) rfl fun i v e=>?_)
    ·obtain⟨t,e⟩:=hv 0 x rfl
     exact⟨t,by rw[e];simp⟩
    ·obtain⟨t,e'⟩:=hv (i+1) v (by simpa using e)
     exact⟨t,by rw[e'];congr 1;omega⟩
  rw[List.range_eq_range']
  refine all acc.toList _ 0 (by rw[eG];exact hacc.1) fun i v e=>?_
  obtain⟨t,e'⟩:=hacc.2 i v (by rw[←fh];exact e)
  exact⟨t,by rw[e'];congr 1;omega⟩
theorem Qn(hu:X.A.units<cLine):DD X (gM .NotEq) (fun x y H Q=>∃a b xs,x=.ref a∧y=.ref b∧EY X.K H a xs∧EY X.K H b []∧Q (.bl (!xs.isEmpty)) H):=by
 intro pins s σ H x y v u Q I rx ry h
 obtain⟨a,b,xs,rfl,rfl,ha,hb,q⟩:=h
 cases rx;cases ry
 obtain⟨its,r1,p1,_⟩:=I.list ha
 obtain⟨its2,r2,p2,_⟩:=I.list hb
 cases r2
 cases xs with
 |nil=>
  cases r1
  exact SeqAt.RcNeAt.lists (e:=fun _=>true) p1.isList p2.isList rfl hu (fun j h1 _=>by simp at h1) _ _ _ _ ⟨.bl _,H,I,rfl,q⟩
 |cons x xs=>
  have hl:=r1.length
  exact SeqAt.RcNeAt.lists_lengths p1.isList p2.isList (by simp;intro e;rw[e] at hl;simp at hl) hu _ _ _ _ ⟨.bl _,H,I,rfl,q⟩
end
end L2
namespace HT
open PySem PySem.Spec PyProof.Rows
section
open PySem.SeqAt
open PySem.AutoSeq1 (wpAny_loadPart')
open PySem.MeetsSeq PySem.MeetsSeq2 PySem.MeetsSeq3
end
section
variable{prog:Program}{w:World}{A:eU}{E:Value→a9→Prop}{s:a9}
theorem LO(l b:Addr)(items items2:Array Value)(n n2:Nat)(dd dd2:Option Addr)(sl sl2:Array (Option Value))(hc0:items.isEmpty=true):
  Meets (Builtin.«tuple.__add__» ⟨[.ref l,.ref b],[]⟩) (fun _ R s=>s.heap.get? l=some ⟨.type "tuple",dd,.seq items n,sl⟩∧s.heap.get? b=some ⟨.type "tuple",dd2,.seq items2 n2,sl2⟩∧R (.ok (.ret (Value.ref b))) s):=
 .of_wp fun prog w A R s h=>by
  obtain⟨hp,g,d,tk,os⟩:=s
  obtain⟨hl,hb,h⟩:=h
  have f2:=AutoSeq1.sub_tuple_tuple
  wp_walk using AutoSeq1.wpAny_loadPart' hl,AutoSeq1.wpAny_loadPart' hb
  exact⟨_,rfl,h⟩
theorem Qo{t b:Addr}{ws:List Value}{Q:Value→a9→Prop}(ht:IsTup s.heap t #[])(hb:IsTup s.heap b ws.toArray)(h1:Q (.ref b) s):wpAny (model prog w) A (jl .Add (.ref t) (.ref b)) Q E s:=by
 obtain⟨⟨cls,dd,data,sl⟩,ho,hc,n,hd⟩:=id ht
 obtain⟨⟨cls2,dd2,data2,sl2⟩,ho2,hc2,n2,hd2⟩:=id hb
 simp only at hc hd hc2 hd2
 subst hc hd hc2 hd2
 exact nY ⟨_,ho,rfl⟩ ⟨_,ho2,rfl⟩ mn nI kI kv (kb _ _) (LO t b _ ws.toArray n n2 dd dd2 sl sl2 rfl) ⟨ho,ho2,h1⟩
theorem Dv{t sl:Addr}{items:Array Value}{vl vu:Value}{lo hi:Option Int}{Q:Value→a9→Prop}(ht:IsTup s.heap t items)(hs:s.heap.IsSliceOf sl vl vu .none)(pl:mM vl lo)(pu:mM vu hi)
  (h1:BO items.size 0 lo=0) (h2:BO items.size items.size hi=items.size) (h:Q (.ref t) s):wpAny (model prog w) A (lW (.ref t) (.ref sl)) Q E s:=by
 obtain⟨os,hos,hcs,hds⟩:=id hs
 have hTs:s.TypeIs (.ref sl) "slice":=⟨os,hos,hcs⟩
 unfold lW
 try with_reducible refine fI ?_
 first|refine a7 (b9 ?_)|skip
 refine a7 (lT ht.typeIs (by decide) ?_)
 refine a7 (gu (name:=jm "__getitem__") ht.typeIs fA
  (gz fA ht.typeIs lz ?_ (lM _ _)))
 show wpAny _ _ (jX (.ref t)>>=_) _ _ s
 refine a7 (nE ht ?_)
 refine a7 (ky hTs ?_)
 rw[if_pos (by decide)]
 refine a7 (Cs hs pl pu ?_)
 rw[h1,h2]
 show wpAny _ _ (if(((0:Nat):Int)==0&&(1:Int)==1&&(items.size-0)==items.size)=true then _ else _) _ _ s
 rw[if_pos (by simp)]
 unfold Builtin.Tuple.tupleIsExact
 refine a7 (a7 (ky ht.typeIs (b9 ?_)))
 rw[if_pos (by decide)]
 exact a7 (je (b9 ⟨_,rfl,b9 h⟩))
theorem Ek{t sl:Addr}{items:Array Value}{tk:Tok}{Q:Value→a9→Prop}(ht:IsTup s.heap t items)(hs:s.heap.IsSliceOf sl .none .none (.int (-1) tk))
  (h:Q (.ref s.heap.objs.size) {s with heap:=s.heap.push {cls:=.type "tuple",data:=.seq items.toList.reverse.toArray}}) (hsz:items.size≤sizeLine):wpAny (model prog w) A (lW (.ref t) (.ref sl)) Q E s:=by
 obtain⟨os,hos,hcs,hds⟩:=id hs
 have hTs:s.TypeIs (.ref sl) "slice":=⟨os,hos,hcs⟩
 unfold lW
 try with_reducible refine fI ?_
 first|refine a7 (b9 ?_)|skip
 refine a7 (lT ht.typeIs (by decide) ?_)
 refine a7 (gu (name:=jm "__getitem__") ht.typeIs fA
  (gz fA ht.typeIs lz ?_ (lM _ _)))
 show wpAny _ _ (jX (.ref t)>>=_) _ _ s
 refine a7 (nE ht ?_)
 refine a7 (ky hTs ?_)
 rw[if_pos (by decide)]
 refine a7 ?_
 unfold jY Builtin.Slice.sliceFields
 refine a7 (a7 (gJ hos hds (x:=.none) rfl (a7 (gJ hos hds (x:=.none) rfl (a7 (gJ hos hds (x:=.int (-1) tk) rfl (b9 ?_)))))))
 refine a7 (slicePart_int ?_)
 show wpAny _ _ (if((-1:Int)==0)=true then _ else _) _ _ s
 rw[if_neg (by decide)]
 refine a7 (lJ (a7 (lJ (a7 (b9 ?_)))))
 have e1:gx none none (-1) (items.size:Int)=((items.size:Int)-1,-1):=by
  unfold gx
  simp
 have e2:gN ((items.size:Int)-1) (-1) (-1)=items.size:=by
  unfold gN
  rw[if_neg (by decide)]
  simp only[Int.neg_neg,Int.ediv_one]
  split<;>omega
 show wpAny _ _ (pure ((gx none none (-1) (items.size:Int)).1,(-1:Int),gN (gx none none (-1) (items.size:Int)).1 (gx none none (-1) (items.size:Int)).2 (-1))) _ _ s
 rw[e1]
 dsimp only
 rw[e2]
 refine b9 ?_
 have hno:¬((((items.size:Int)-1)==0&&(-1:Int)==1&&items.size==items.size)=true):=by simp
 show wpAny _ _ (if(((items.size:Int)-1)==0&&(-1:Int)==1&&items.size==items.size)=true then _ else _) _ _ s
 rw[if_neg hno]
 have e3:((eW items.size).filterMap fun(k:Nat)=>items[(((items.size:Int)-1)+(k:Int)*(-1)).toNat]?)=items.toList.reverse:=by
  have:∀n,n≤items.size→((eW n).filterMap fun(k:Nat)=>items[(((items.size:Int)-1)+(k:Int)*(-1)).toNat]?)=(items.toList.drop (items.size-n)).reverse:=by
   intro n
   induction n with
   |zero=>intro _;simp
   |succ n ih=>
    intro hn
    rw[List.range_succ,List.filterMap_append,ih (by omega)]
    have hk:(((items.size:Int)-1)+(n:Int)*(-1)).toNat=items.size- (n+1):=by omega
    have hlt:items.size- (n+1)<items.size:=by omega
    have hd:items.toList.drop (items.size- (n+1))=items[items.size- (n+1)]::items.toList.drop (items.size-n):=by
     rw[iO (by simpa using hlt)]
     congr 2
     omega
    rw[hd,iw]
    congr 1
    rw[gD,hk,Array.getElem?_eq_getElem hlt]
    rfl
  have:=this items.size (dv _)
  rw[this]
  simp
 rw[e3]
 have hz:sizeOk (.seq items.toList.reverse.toArray):=by
  show items.toList.reverse.toArray.size≤sizeLine
  simpa using hsz
 first
  |exact a7 (m:=gS _) (fV (b9 ⟨_,rfl,b9 h⟩) hz)
  |exact a7 (a7 (m:=gS _) (fV (b9 (b9 ⟨_,rfl,b9 h⟩)) hz))
  |exact a7 (a7 (m:=gS _) (fV (b9 ⟨_,rfl,b9 h⟩) hz))
end
end HT
namespace L2
open PySem PySem.Spec PyProof.Rows
section
variable{X:Cx}{e:Expr}{te:TE}{pos p2 p3 p4:Pos}
def ZO(K:a8):V→Option Int→Option Int→Hp→VK→Prop:=fun x lo hi H Q=>∃a xs,x=.ref a∧DV K H a xs∧∀p H',((p=a∧H'=H∧FO xs lo hi=xs)∨(H p=none∧H'=upd H p (.tup (FO xs lo hi))))→Q (.ref p) H'
theorem Na:ag X (ZO X.K):=by
 intro pins s σ H x v vl vu lo hi sl Q I rx hs pl pu h
 obtain⟨a,xs,rfl,hx,q⟩:=h
 cases rx
 by_cases hw:HT.BO xs.length 0 lo=0∧HT.BO xs.length xs.length hi=xs.length
 ·obtain⟨its,r,ht,hz⟩:=I.tuple hx
  have hlen:its.toArray.size=xs.length:=by rw[eP];exact r.length.symm
  refine⟨"tuple",_,fA.lookup,ht.typeIs,HT.Dv ht hs pl pu (by rw[hlen];exact hw.1) (by rw[hlen];exact hw.2) ⟨.ref a,H,I,rfl,q a H (.inl ⟨rfl,rfl,?_⟩)⟩⟩
  unfold FO
  rw[hw.1,hw.2]
  simp
 ·exact WX pins s σ H (.ref a) (.ref a) vl vu lo hi sl Q I rfl hs pl pu ⟨a,xs,rfl,hx,hw,fun p hp=>q p _ (.inr ⟨hp,rfl⟩)⟩
theorem Tp(he:PE X e te):PE X (.Subscript e (.Slice none none (some (.UnaryOp .USub (.Constant (.int 1) 0 p3) p4)) p2) pos) (fun σ H Q=>te σ H fun x H1=>∃a xs,x=.ref a∧DV X.K H1 a xs∧∀p,H1 p=none→Q (.ref p) (upd H1 p (.tup xs.reverse))):=by
 intro pins s σ H Q I h
 refine Subscript_ (BB (he pins s σ H _ I h) fun v s1 ⟨x,H1,I1,r1,q1⟩=>?_)
 obtain⟨a,xs,rfl,hx,q⟩:=q1
 cases r1
 refine wpAny_Slice ?_
 rw[nJ]
 refine b9 ?_
 refine b9 ?_
 rw[evalPart_some]
 refine BB (VD Pz ME pins s1 σ H1 (fun x H'=>x=.int (-1)∧H'=H1) I1 ⟨1,rfl,rfl,rfl⟩) fun st s2 ⟨x2,H2,I2,r2,ex,eH⟩=>?_
 subst ex eH
 obtain⟨tk,rfl⟩:=r2
 have I4:Inv X pins σ H2 {s2 with heap:=s2.heap.push {cls:=.type "slice",data:=.fields #[.none,.none,.int (-1) tk]}}:=I2.kept (t':=s2.toks) fun b ob q=>dm _ q
 obtain⟨its,r,ht,hz⟩:=I4.tuple hx
 have hl:=r.length
 show wpAny (model X.prog X.w) X.A (nH e (.Slice none none (some (.UnaryOp .USub (.Constant (.int 1) 0 p3) p4)) p2) (.ref a) (.ref s2.heap.objs.size)) (EP X pins σ Q) X.xe {s2 with heap:=s2.heap.push {cls:=.type "slice",data:=.fields #[.none,.none,.int (-1) tk]}}
 refine tail_any (ops:=[.ref a,.ref s2.heap.objs.size]) ht.typeIs fA.lookup (HT.Ek ht (Heap.IsSliceOf.new ..) ?_ (by simpa[←hl] using hz)) (by with_unfolding_all rfl)
 have hf:=I4.hok.fresh (dv _)
 have rr:Vals xs.reverse its.reverse:=by
  have:∀{xs:List V} {us:List Value},Vals xs us→Vals xs.reverse us.reverse:=by
   intro xs us r
   induction r with
   |nil=>exact .nil
   |cons r1 _ ih=>rw[iw,iw];exact ih.append (.cons r1 .nil)
  exact this r
 exact⟨.ref _,_,I4.laid (o:=.tup xs.reverse) (fun b ob q=>dm _ q) (dv _) ⟨by rw[j6];exact hz,_,rr,⟨_,eS _ rfl,rfl,_,rfl⟩⟩,rfl,q _ hf⟩
def ZP(K:a8):R2:=fun x y H Q=>∃a b xs ys,x=.ref a∧y=.ref b∧DV K H a xs∧DV K H b ys∧xs.length+ys.length≤sizeLine∧∀p H',((p=a∧H'=H∧ys=[])∨(p=b∧H'=H∧xs=[])∨(H p=none∧H'=upd H p (.tup (xs++ys))))→Q (.ref p) H'
theorem Tq:DD X (jl .Add) (ZP X.K):=by
 intro pins s σ H x y v u Q I rx ry h
 obtain⟨a,b,xs,ys,rfl,rfl,ha,hb,hz,q⟩:=h
 cases xs with
 |cons x xs=>exact TH pins s σ H _ _ v u Q I rx ry ⟨a,b,x::xs,ys,rfl,rfl,ha,hb,by simp,hz,fun e=>q a H (.inl ⟨rfl,rfl,e⟩),fun _ p hp=>q p _ (.inr (.inr ⟨hp,rfl⟩))⟩
 |nil=>
  cases rx;cases ry
  obtain⟨its,r1,p1,_⟩:=I.tuple ha
  obtain⟨its2,r2,p2,_⟩:=I.tuple hb
  cases r1
  exact HT.Qo p1 p2 ⟨.ref b,H,I,rfl,q b H (.inr (.inl ⟨rfl,rfl,rfl⟩))⟩
end
end L2
namespace L2.TL
open PySem PySem.Spec PyProof.Rows
inductive T where
 |non|bl (b:Bool)|int (i:Int)|str (x:Str)|tup (ts:List T)|lst (ts:List T)|frz (ts:List T)|dct|raw (v:V)
abbrev AI:=Addr→Option (List T)
def AZ(O:AI)(a:Addr)(ts:List T):AI:=fun b=>if b=a then some ts else O b
def CW(O:AI)(a:Addr):AI:=fun b=>if b=a then none else O b
theorem AF{O:AI}{a:Addr}{ts:List T}:AZ O a ts a=some ts:=by unfold AZ;rw[if_pos rfl]
theorem AQ{O:AI}{a b:Addr}{ts:List T}(h:b≠a):AZ O a ts b=O b:=by unfold AZ;rw[if_neg h]
theorem BE{O:AI}{a:Addr}{ts us:List T}:AZ (AZ O a ts) a us=AZ O a us:=by
 funext b;unfold AZ;split<;>rfl
theorem DI{O:AI}{a:Addr}:CW O a a=none:=by unfold CW;rw[if_pos rfl]
theorem Dc{O:AI}{a b:Addr}(h:b≠a):CW O a b=O b:=by unfold CW;rw[if_neg h]
mutual
inductive Rep (K:a8) (O:AI) (H:Hp):V→T→Prop
 |non:Rep K O H .non .non
 |bl (b:Bool):Rep K O H (.bl b) (.bl b)
 |int (i:Int):Rep K O H (.int i) (.int i)
 |str (x:Str):Rep K O H (.str x) (.str x)
 |tup {a:Addr} {xs:List V} {ts:List T}:H a=some (.tup xs)→Reps K O H xs ts→Rep K O H (.ref a) (.tup ts)
 |lst {a:Addr} {xs:List V} {ts:List T}:H a=some (.lst xs)→O a=none→Reps K O H xs ts→Rep K O H (.ref a) (.lst ts)
 |frz {a:Addr} {o:Obj} {xs:List V} {ts:List T}:H a=some (.frz o (.lst xs))→Reps K O H xs ts→Rep K O H (.ref a) (.frz ts)
 |dct {a:Addr}:H a=some (.dK [])→Rep K O H (.ref a) .dct
 |raw (v:V):Rep K O H v (.raw v)
inductive Reps (K:a8) (O:AI) (H:Hp):List V→List T→Prop
 |nil:Reps K O H [] []
 |cons {v:V} {t:T} {vs:List V} {ts:List T}:Rep K O H v t→Reps K O H vs ts→Reps K O H (v::vs) (t::ts)
end
section
variable{K:a8}{O O' O1:AI}{H H' H1:Hp}
mutual
theorem Rep.mono (hT:∀a o,H a=some o→(∀xs,o≠.lst xs)→H' a=some o) (hL:∀a xs,H a=some (.lst xs)→O a=none→H' a=some (.lst xs)∧O' a=none):∀{v:V} {t:T},Rep K O H v t→Rep K O' H' v t
 |_,_,.non=> .non
 |_,_,.bl b=> .bl b
 |_,_,.int i=> .int i
 |_,_,.str x=> .str x
 |_,_,.tup h r=> .tup (hT _ _ h fun _ z=>by cases z) (Reps.mono hT hL r)
 |_,_,.lst h o r=> .lst (hL _ _ h o).1 (hL _ _ h o).2 (Reps.mono hT hL r)
 |_,_,.frz h r=> .frz (hT _ _ h fun _ z=>by cases z) (Reps.mono hT hL r)
 |_,_,.dct h=> .dct (hT _ _ h fun _ z=>by cases z)
 |_,_,.raw v=> .raw v
theorem Reps.mono (hT:∀a o,H a=some o→(∀xs,o≠.lst xs)→H' a=some o) (hL:∀a xs,H a=some (.lst xs)→O a=none→H' a=some (.lst xs)∧O' a=none):∀{v:List V} {t:List T},Reps K O H v t→Reps K O' H' v t
 |_,_,.nil=> .nil
 |_,_,.cons h r=> .cons (Rep.mono hT hL h) (Reps.mono hT hL r)
end
theorem Reps.length:∀{vs:List V} {ts:List T},Reps K O H vs ts→vs.length=ts.length
 |_,_,.nil=>rfl
 |_,_,.cons _ r=>congrArg (· +1) r.length
theorem Reps.get:∀{vs:List V} {ts:List T} {i:Nat} {t:T},Reps K O H vs ts→ts[i]?=some t→∃v,vs[i]?=some v∧Rep K O H v t
 |_,_,_,_,.nil,e=>by simp at e
 |_,_,0,_,.cons h _,e=>by simp at e;subst e;exact⟨_,rfl,h⟩
 |_,_,i+1,t,.cons _ r,e=>by
  obtain⟨u,h1,h2⟩:=Reps.get (i:=i) (t:=t) r (by simpa using e)
  exact⟨u,by simpa using h1,h2⟩
theorem Reps.append:∀{vs ws:List V} {ts us:List T},Reps K O H vs ts→Reps K O H ws us→Reps K O H (vs++ws) (ts++us)
 |_,_,_,_,.nil,s=>s
 |_,_,_,_,.cons h r,s=> .cons h (r.append s)
theorem Reps.take:∀{vs:List V} {ts:List T} (n:Nat),Reps K O H vs ts→Reps K O H (vs.take n) (ts.take n)
 |_,_,0,_=> .nil
 |_,_,_+1,.nil=> .nil
 |_,_,n+1,.cons h r=> .cons h (r.take n)
theorem Reps.drop:∀{vs:List V} {ts:List T} (n:Nat),Reps K O H vs ts→Reps K O H (vs.drop n) (ts.drop n)
 |_,_,0,r=>r
 |_,_,_+1,.nil=> .nil
 |_,_,n+1,.cons h r=>r.drop n
theorem Reps.set{x:V}{t:T}(h:Rep K O H x t):∀{vs:List V} {ts:List T} (i:Nat),Reps K O H vs ts→Reps K O H (vs.set i x) (ts.set i t)
 |_,_,_,.nil=> .nil
 |_,_,0,.cons _ r=> .cons h r
 |_,_,i+1,.cons q r=> .cons q (Reps.set h i r)
theorem Reps.one{v:V}{t:T}(h:Rep K O H v t):Reps K O H [v] [t]:=.cons h .nil
theorem Reps.rev:∀{vs:List V} {ts:List T},Reps K O H vs ts→Reps K O H vs.reverse ts.reverse
 |_,_,.nil=> .nil
 |_,_,.cons h r=>by
  rw[iw,iw]
  exact r.rev.append (.one h)
theorem Reps.eraseIdx:∀{vs:List V} {ts:List T} (i:Nat),Reps K O H vs ts→Reps K O H (vs.eraseIdx i) (ts.eraseIdx i)
 |_,_,_,.nil=> .nil
 |_,_,0,.cons _ r=>r
 |_,_,i+1,.cons q r=> .cons q (Reps.eraseIdx i r)
def Kp(O:AI)(H:Hp)(O':AI)(H':Hp):Prop:=∀b o,H b=some o→O b=none→H' b=some o∧O' b=none
def OwnOk(K:a8)(O:AI)(H:Hp):Prop:=∀a ts,O a=some ts→∃xs,H a=some (.lst xs)∧Reps K O H xs ts
theorem OwnOk.free(w:OwnOk K O H){a:Addr}{o:HO}(h:H a=some o)(hn:∀xs,o≠.lst xs):O a=none:=by
 cases e:O a with
 |none=>rfl
 |some ts=>
  obtain⟨xs,e',_⟩:=w a ts e
  rw[h] at e'
  exact absurd (gc.inj e') (hn xs)
theorem OwnOk.none_of(w:OwnOk K O H){a:Addr}(h:H a=none):O a=none:=by
 cases e:O a with
 |none=>rfl
 |some ts=>
  obtain⟨xs,e',_⟩:=w a ts e
  rw[h] at e';cases e'
theorem Kp.refl:Kp O H O H:=fun _ _ h n=> ⟨h,n⟩
theorem Kp.trans(a:Kp O H O1 H1)(b:Kp O1 H1 O' H'):Kp O H O' H':=fun c o h n=>b c o (a c o h n).1 (a c o h n).2
theorem Kp.oth(k:Kp O H O' H')(w:OwnOk K O H){a:Addr}{o:HO}(h:H a=some o)(hn:∀xs,o≠.lst xs):H' a=some o:=(k a _ h (w.free h hn)).1
theorem Kp.lst(k:Kp O H O' H'){a:Addr}{xs:List V}(h:H a=some (.lst xs))(n:O a=none):H' a=some (.lst xs)∧O' a=none:=k a _ h n
theorem Rep.kp(k:Kp O H O' H')(w:OwnOk K O H){v:V}{t:T}(r:Rep K O H v t):Rep K O' H' v t:=r.mono (fun _ _ h hn=>k.oth w h hn) fun _ _=>k.lst
theorem Reps.kp(k:Kp O H O' H')(w:OwnOk K O H){v:List V}{t:List T}(r:Reps K O H v t):Reps K O' H' v t:=r.mono (fun _ _ h hn=>k.oth w h hn) fun _ _=>k.lst
structure Frm(K:a8)(O:AI)(H:Hp)(O':AI)(H':Hp):Prop where
 kp:Kp O H O' H'
 own:∀b ts,O b=some ts→∃ts',O' b=some ts'
 ok:OwnOk K O' H'
theorem Frm.refl(w:OwnOk K O H):Frm K O H O H:=⟨.refl,fun _ ts e=> ⟨ts,e⟩,w⟩
theorem Frm.trans(a:Frm K O H O1 H1)(b:Frm K O1 H1 O' H'):Frm K O H O' H':=⟨a.kp.trans b.kp,fun c ts e=>by
 obtain⟨t1,e1⟩:=a.own c ts e
 exact b.own c t1 e1,b.ok⟩
theorem BP{p:Addr}{o:HO}(w:OwnOk K O H)(hp:H p=none):Kp O H O (upd H p o):=fun b u h n=> ⟨by rw[AX (AU h hp)];exact h,n⟩
theorem Frm.new{p:Addr}{o:HO}(w:OwnOk K O H)(hp:H p=none):Frm K O H O (upd H p o) where
 kp:=BP w hp
 own:=fun _ ts e=> ⟨ts,e⟩
 ok:=fun a ts e=>by
  obtain⟨xs,h,r⟩:=w a ts e
  exact⟨xs,by rw[AX (AU h hp)];exact h,r.kp (BP w hp) w⟩
theorem Jk{p:Addr}{o:HO}{ts:List T}(w:OwnOk K O H)(hp:H p=none):Kp O H (AZ O p ts) (upd H p o):=fun b u h n=>by
 have:=AU h hp
 rw[AX this,AQ this]
 exact⟨h,n⟩
theorem Frm.newO{p:Addr}{xs:List V}{ts:List T}(w:OwnOk K O H)(hp:H p=none)(r:Reps K O H xs ts):Frm K O H (AZ O p ts) (upd H p (.lst xs)) where
 kp:=Jk w hp
 own:=fun b us e=>by
  by_cases hb:b=p
  ·exact⟨ts,by rw[hb,AF]⟩
  ·exact⟨us,by rw[AQ hb];exact e⟩
 ok:=fun a us e=>by
  by_cases hb:a=p
  ·subst hb
   rw[AF] at e;cases e
   exact⟨xs,AW,r.kp (Jk w hp) w⟩
  ·rw[AQ hb] at e
   obtain⟨ys,h,q⟩:=w a us e
   exact⟨ys,by rw[AX hb];exact h,q.kp (Jk w hp) w⟩
theorem Jl{a:Addr}{o:HO}{ts us:List T}(ha:O a=some ts):Kp O H (AZ O a us) (upd H a o):=fun b u h n=>by
 have:b≠a:=fun z=>by rw[z,ha] at n;cases n
 rw[AX this,AQ this]
 exact⟨h,n⟩
theorem Frm.put{a:Addr}{xs:List V}{ts us:List T}(w:OwnOk K O H)(ha:O a=some ts)(r:Reps K O H xs us):Frm K O H (AZ O a us) (upd H a (.lst xs)) where
 kp:=Jl ha
 own:=fun b vs e=>by
  by_cases hb:b=a
  ·exact⟨us,by rw[hb,AF]⟩
  ·exact⟨vs,by rw[AQ hb];exact e⟩
 ok:=fun b vs e=>by
  by_cases hb:b=a
  ·subst hb
   rw[AF] at e;cases e
   exact⟨xs,AW,r.kp (Jl ha) w⟩
  ·rw[AQ hb] at e
   obtain⟨ys,h,q⟩:=w b vs e
   exact⟨ys,by rw[AX hb];exact h,q.kp (Jl ha) w⟩
theorem CY{a:Addr}:Kp O H (CW O a) H:=fun b u h n=> ⟨h,by
 by_cases hb:b=a
 ·rw[hb,DI]
 ·rw[Dc hb];exact n⟩
theorem OwnOk.drop{a:Addr}(w:OwnOk K O H):OwnOk K (CW O a) H:=fun b ts e=>by
 by_cases hb:b=a
 ·rw[hb,DI] at e;cases e
 ·rw[Dc hb] at e
  obtain⟨xs,h,r⟩:=w b ts e
  exact⟨xs,h,r.kp CY w⟩
theorem OwnOk.rep{a:Addr}{ts:List T}(w:OwnOk K O H)(e:O a=some ts):Rep K (CW O a) H (.ref a) (.lst ts):=by
 obtain⟨xs,h,r⟩:=w a ts e
 exact .lst h DI (r.kp CY w)
end
def Rl(K:a8)(O:AI)(H:Hp)(σ:St)(ρ:List (Option T)):Prop:=σ.length=ρ.length∧∀(i:Nat) (t:T),ρ[i]?=some (some t)→∃v,σ[i]?=some (some v)∧Rep K O H v t
section
variable{K:a8}{O O':AI}{H H':Hp}{σ:St}{ρ:List (Option T)}
theorem Rl.kp(k:Kp O H O' H')(w:OwnOk K O H)(r:Rl K O H σ ρ):Rl K O' H' σ ρ:=⟨r.1,fun i t e=>by
 obtain⟨v,h1,h2⟩:=r.2 i t e
 exact⟨v,h1,h2.kp k w⟩⟩
theorem Rl.set{i:Nat}{v:V}{t:T}(r:Rl K O H σ ρ)(h:Rep K O H v t):Rl K O H (σ.set i (some v)) (ρ.set i (some t)):=⟨by simpa using r.1,fun j u e=>by
 by_cases hj:j=i
 ·subst hj
  have hl:j<ρ.length:=by
   have:=(eB.mp e).1
   simpa using this
  rw[eZ hl] at e
  cases e
  exact⟨v,by rw[eZ (by rw[r.1];exact hl)],h⟩
 ·rw[fc (Ne.symm hj)] at e ⊢
  exact r.2 j u e⟩
end
structure Zx where
 X:Cx
 Oe:AI
 He:Hp
 Xi:Value→AI→Prop
abbrev Zx.K(Z:Zx):a8:=Z.X.K
def Zx.W(Z:Zx):St→XK:=fun _ cls d H'=>d=none∧∃O',Z.Xi cls O'∧Frm Z.K Z.Oe Z.He O' H'
structure Asr(Z:Zx)(ρ:List (Option T))(O:AI)(σ:St)(H:Hp):Prop where
 rl:Rl Z.K O H σ ρ
 fr:Frm Z.K Z.Oe Z.He O H
section
variable{Z:Zx}{ρ:List (Option T)}{O O':AI}{σ:St}{H H':Hp}
theorem Asr.ok(a:Asr Z ρ O σ H):OwnOk Z.K O H:=a.fr.ok
theorem Asr.step(a:Asr Z ρ O σ H)(f:Frm Z.K O H O' H'):Asr Z ρ O' σ H':=⟨a.rl.kp f.kp a.ok,a.fr.trans f⟩
theorem Asr.refl(a:Asr Z ρ O σ H):Frm Z.K O H O H:=.refl a.ok
end
abbrev BW:=T→AI→Prop
abbrev Mf:=List T→AI→Prop
abbrev LP:=Bool→AI→Prop
def Acc(K:a8)(O:AI)(H:Hp)(Φ:BW)(Q:VK):Prop:=∀v H' t O',Φ t O'→Frm K O H O' H'→Rep K O' H' v t→Q v H'
def bb(K:a8)(O:AI)(H:Hp)(Φ:Mf)(Q:List V→Hp→Prop):Prop:=∀vs H' ts O',Φ ts O'→Frm K O H O' H'→Reps K O' H' vs ts→Q vs H'
def AccT(K:a8)(O:AI)(H:Hp)(Φ:LP)(Q:Bool→Hp→Prop):Prop:=∀b H' O',Φ b O'→Frm K O H O' H'→Q b H'
def tW(Z:Zx)(ρ:List (Option T))(O:AI)(Φ:BW):TE:=fun σ H Q=>Asr Z ρ O σ H∧Acc Z.K O H Φ Q
def cP(Z:Zx)(ρ:List (Option T))(O:AI)(Φ:Mf):TA:=fun σ H Q=>Asr Z ρ O σ H∧bb Z.K O H Φ Q
def YT(Z:Zx)(ρ:List (Option T))(O:AI)(Φ:LP):TT:=fun σ H Q=>Asr Z ρ O σ H∧AccT Z.K O H Φ Q
def WE(Z:Zx)(ρ:List (Option T))(O:AI)(e:Expr)(Φ:BW):Prop:=PE Z.X e (tW Z ρ O Φ)
def WA(Z:Zx)(ρ:List (Option T))(O:AI)(es:List Expr)(Φ:Mf):Prop:=PA Z.X es (cP Z ρ O Φ)
def WT(Z:Zx)(ρ:List (Option T))(O:AI)(e:Expr)(Φ:LP):Prop:=PT Z.X e (YT Z ρ O Φ)
def WW(Z:Zx)(ρ:List (Option T))(O:AI)(e:Expr)(Φ:LP):Prop:=PW Z.X e (YT Z ρ O Φ)
def ET(Z:Zx)(ρ:List (Option T))(O:AI)(e:Expr)(t:T):Prop:=∀Φ:BW,Φ t O→WE Z ρ O e Φ
def EA(Z:Zx)(ρ:List (Option T))(O:AI)(es:List Expr)(ts:List T):Prop:=∀Φ:Mf,Φ ts O→WA Z ρ O es Φ
def EB(Z:Zx)(ρ:List (Option T))(O:AI)(e:Expr)(b:Bool):Prop:=∀Φ:LP,Φ b O→WT Z ρ O e Φ
theorem PE.weak{X:Cx}{e:Expr}{t t':TE}(h:PE X e t)(w:∀σ H Q,t' σ H Q→t σ H Q):PE X e t':=fun pins s σ H Q I q=>h pins s σ H Q I (w σ H Q q)
theorem PA.weak{X:Cx}{e:List Expr}{t t':TA}(h:PA X e t)(w:∀σ H Q,t' σ H Q→t σ H Q):PA X e t':=fun pos pins s σ H Q I q=>h pos pins s σ H Q I (w σ H Q q)
theorem PT.weak{X:Cx}{e:Expr}{t t':TT}(h:PT X e t)(w:∀σ H Q,t' σ H Q→t σ H Q):PT X e t':=fun pins s σ H Q I q=>h pins s σ H Q I (w σ H Q q)
theorem PW.weak{X:Cx}{e:Expr}{t t':TT}(h:PW X e t)(w:∀σ H Q,t' σ H Q→t σ H Q):PW X e t':=fun whole pins s σ H Q I q=>h whole pins s σ H Q I (w σ H Q q)
theorem PS.weak{X:Cx}{e:Stmt}{t t':TS}(h:PS X e t)(w:∀D σ H,t' D σ H→t D σ H):PS X e t':=fun pins s σ H D I q=>h pins s σ H D I (w D σ H q)
theorem PSs.weak{X:Cx}{e:List Stmt}{t t':TS}(h:PSs X e t)(w:∀D σ H,t' D σ H→t D σ H):PSs X e t':=fun pins s σ H D I q=>h pins s σ H D I (w D σ H q)
def tX(Z:Zx)(ρ:List (Option T))(e:Expr):TE:=fun σ H Q=>∃O Φ,WE Z ρ O e Φ∧tW Z ρ O Φ σ H Q
theorem BM{Z:Zx}{ρ:List (Option T)}{e:Expr}:PE Z.X e (tX Z ρ e):=fun pins s σ H Q I ⟨_,_,w,q⟩=>w pins s σ H Q I q
def cw(Z:Zx)(ρ:List (Option T))(e:List Expr):TA:=fun σ H Q=>∃O Φ,WA Z ρ O e Φ∧cP Z ρ O Φ σ H Q
theorem Jm{Z:Zx}{ρ:List (Option T)}{e:List Expr}:PA Z.X e (cw Z ρ e):=fun pos pins s σ H Q I ⟨_,_,w,q⟩=>w pos pins s σ H Q I q
def dA(Z:Zx)(ρ:List (Option T))(e:Expr):TT:=fun σ H Q=>∃O Φ,WW Z ρ O e Φ∧YT Z ρ O Φ σ H Q
theorem ZQ{Z:Zx}{ρ:List (Option T)}{e:Expr}:PW Z.X e (dA Z ρ e):=fun whole pins s σ H Q I ⟨_,_,w,q⟩=>w whole pins s σ H Q I q
section
variable{Z:Zx}{ρ:List (Option T)}{O:AI}{e a b:Expr}{es:List Expr}{Φ Φ':BW}{pos:Pos}{t ta tb:T}{ts:List T}
theorem Acc.mono{K:a8}{H:Hp}{Q:VK}(h:Acc K O H Φ' Q)(w:∀t O',Φ t O'→Φ' t O'):Acc K O H Φ Q:=fun v H' t O' p=>h v H' t O' (w t O' p)
theorem Acc.step{K:a8}{H H1:Hp}{O1:AI}{Q:VK}(h:Acc K O H Φ Q)(f:Frm K O H O1 H1):Acc K O1 H1 Φ Q:=fun v H' t O' p f' r=>h v H' t O' p (f.trans f') r
theorem AccT.step{K:a8}{H H1:Hp}{O1:AI}{Φ:LP}{Q:Bool→Hp→Prop}(h:AccT K O H Φ Q)(f:Frm K O H O1 H1):AccT K O1 H1 Φ Q:=fun v H' O' p f'=>h v H' O' p (f.trans f')
theorem Do(h:WE Z ρ O e Φ)(w:∀t O',Φ t O'→Φ' t O'):WE Z ρ O e Φ':=PE.weak h fun _ _ _ q=> ⟨q.1,q.2.mono w⟩
theorem ET.we(h:ET Z ρ O e t)(p:Φ t O):WE Z ρ O e Φ:=h Φ p
theorem Ws{i:Nat}{x:Str}(hN:Z.X.N[i]?=some x)(hv:YR Z.X.env.scope x)(e:ρ[i]?=some (some t))(p:Φ t O)(hd:(x==("__debug__" :Str))=false:=by decide)(hcd:(x==("__classdict__" :Str))=false:=by decide):WE Z ρ O (.Name x pos) Φ:=
 PE.weak (Pt hN hv hd hcd) fun σ H Q q=>by
  obtain⟨v,h1,h2⟩:=q.1.rl.2 i t e
  exact⟨v,h1,q.2 v H t O p q.1.refl h2⟩
theorem ev(i:Nat){x:Str}(e:ρ[i]?=some (some t):=by rfl)(hN:Z.X.N[i]?=some x:=by rfl)(hv:YR Z.X.env.scope x:=by first|exact mh rfl|exact lP (mh rfl)|exact lP (lP rfl))(hd:(x==("__debug__" :Str))=false:=by decide)
  (hcd:(x==("__classdict__" :Str))=false:=by decide):ET Z ρ O (.Name x pos) t:=fun _ p=>Ws hN hv e p hd hcd
theorem PM{v:V}(h:PE Z.X e (tC v))(r:∀O H,Rep Z.K O H v t):ET Z ρ O e t:=fun _ p=>PE.weak h fun _ H _ q=>q.2 v H _ O p q.1.refl (r O H)
theorem AB{i:Int}{j:Nat}:ET Z ρ O (.Constant (.int i) j pos) (.int i):=PM ME fun _ _=> .int i
theorem El{i:Bool}{j:Nat}:ET Z ρ O (.Constant (.bool i) j pos) (.bl i):=PM YW fun _ _=> .bl i
theorem CJ{j:Nat}:ET Z ρ O (.Constant .none j pos) .non:=PM Vm fun _ _=> .non
theorem Wt{x:Str}{j:Nat}:ET Z ρ O (.Constant (.str x) j pos) (.str x):=PM Vn fun _ _=> .str x
theorem Tr{x:Str}{i:Int}(hm:∃t:Tok,Z.X.mg x=some (.int i t))(hg:Gl Z.X x:=by rfl)(hd:(x==("__debug__" :Str))=false:=by decide):ET Z ρ O (.Name x pos) (.int i):=by
 cases hm with
 |intro t hm=>exact PM (So (v:=.int i) hg hm ⟨t,rfl⟩ hd) fun _ _=> .int i
theorem ZR{x:Str}{n:String}(hm:Z.X.mg x=none)(hv:fw x=some (.type n))(hg:Gl Z.X x:=by rfl)(hn:x≠"__name__":=by decide)(hd:(x==("__debug__" :Str))=false:=by decide):ET Z ρ O (.Name x pos) (.raw (.ty n)):=
 PM (Sq (v:=.ty n) hg hm hv rfl hn hd) fun _ _=> .raw _
def RT(K:a8)(r:R2)(ta tb:T)(O:AI)(Φ:BW):Prop:=∀H v w Q,OwnOk K O H→Rep K O H v ta→Rep K O H w tb→Acc K O H Φ Q→r v w H Q
def RP(K:a8)(r:R2)(ta tb:T)(O:AI)(t:T):Prop:=∀Φ:BW,Φ t O→RT K r ta tb O Φ
theorem Jn{r:R2}{σ:St}{H:Hp}{Q:VK}(q:tW Z ρ O Φ σ H Q)(h:WE Z ρ O a fun ta O1=>WE Z ρ O1 b fun tb O2=>RT Z.K r ta tb O2 Φ):Ym r (tX Z ρ a) (tX Z ρ b) σ H Q:=
 ⟨O,_,h,q.1,fun v H1 ta O1 p f1 r1=> ⟨O1,_,p,q.1.step f1,fun w H2 tb O2 p2 f2 r2=>p2 H2 v w Q f2.ok (r1.kp f2.kp f1.ok) r2 (q.2.step (f1.trans f2))⟩⟩
theorem DT{op:ng}{r:R2}(ho:DD Z.X (jl op) r)(h:WE Z ρ O a fun ta O1=>WE Z ρ O1 b fun tb O2=>RT Z.K r ta tb O2 Φ):WE Z ρ O (.BinOp a op b pos) Φ:=
 PE.weak (Yn ho BM BM) fun _ _ _ q=>Jn q h
theorem Wu{op:CmpOp}{r:R2}(ho:DD Z.X (gM op) r)(hm:behindInMarks op b=false)(h:WE Z ρ O a fun ta O1=>WE Z ρ O1 b fun tb O2=>RT Z.K r ta tb O2 Φ):WE Z ρ O (.Compare a [op] [b] pos) Φ:=
 PE.weak (Sz ho BM BM hm) fun _ _ _ q=>Jn q h
theorem Fw{op:ng}{r:R2}(ho:DD Z.X (jl op) r)(hp:RP Z.K r ta tb O t)(ha:ET Z ρ O a ta)(hb:ET Z ρ O b tb):ET Z ρ O (.BinOp a op b pos) t:=fun Φ p=>DT ho (ha _ (hb _ (hp Φ p)))
theorem Jo{op:CmpOp}{r:R2}(ho:DD Z.X (gM op) r)(hm:behindInMarks op b=false)(hp:RP Z.K r ta tb O t)(ha:ET Z ρ O a ta)(hb:ET Z ρ O b tb):ET Z ρ O (.Compare a [op] [b] pos) t:=fun Φ p=>Wu ho hm (ha _ (hb _ (hp Φ p)))
theorem Nb{r:R2}(ho:Yz Z.X r)(hs:Dm b)(h:WE Z ρ O a fun ta O1=>WE Z ρ O1 b fun tb O2=>RT Z.K r ta tb O2 Φ):WE Z ρ O (.Subscript a b pos) Φ:=
 PE.weak (VE ho BM BM hs) fun _ _ _ q=>Jn q h
theorem Qp{r:R2}(ho:Yz Z.X r)(hs:Dm b)(hp:RP Z.K r ta tb O t)(ha:ET Z ρ O a ta)(hb:ET Z ρ O b tb):ET Z ρ O (.Subscript a b pos) t:=fun Φ p=>Nb ho hs (ha _ (hb _ (hp Φ p)))
theorem Al{Φ:Mf}(p:Φ [] O):WA Z ρ O [] Φ:=PA.weak Gm fun _ H _ q=>q.2 [] H [] O p q.1.refl .nil
theorem Bg{Φ:Mf}(h:WE Z ρ O e fun t O1=>WA Z ρ O1 es fun ts O2=>Φ (t::ts) O2)(hs:du (e::es) Z.X.env=(false,eval e Z.X.env)::du es Z.X.env:=by rfl):WA Z ρ O (e::es) Φ:=
 PA.weak (Eb BM Jm hs) fun σ H Q q=> ⟨O,_,h,q.1,fun v H1 t O1 p f1 r1=> ⟨O1,_,p,q.1.step f1,fun vs H2 ts O2 p2 f2 r2=>q.2 _ H2 _ O2 p2 (f1.trans f2) (.cons (r1.kp f2.kp f1.ok) r2)⟩⟩
theorem AC:EA Z ρ O [] []:=fun _ p=>Al p
theorem AJ(h:ET Z ρ O e t)(hr:EA Z ρ O es ts)(hs:du (e::es) Z.X.env=(false,eval e Z.X.env)::du es Z.X.env:=by rfl):EA Z ρ O (e::es) (t::ts):=fun Φ p=>Bg (h _ (hr _ p)) hs
theorem Cm{x1}(h:WA Z ρ O es fun ts O1=>ts.length≤sizeLine∧Φ (.tup ts) O1):WE Z ρ O (.Tuple es x1 pos) Φ:=
 PE.weak (WU h) fun σ H Q q=> ⟨q.1,fun vs H1 ts O1 p f r=> ⟨by rw[r.length];exact p.1,fun a ha=>q.2 _ _ _ O1 p.2 (f.trans (.new f.ok ha)) (.tup AW (r.kp (BP f.ok ha) f.ok))⟩⟩
theorem BU{x1}(h:EA Z ρ O es ts)(hl:ts.length≤sizeLine:=by first| (show 1≤sizeLine;decide)| (show 2≤sizeLine;decide)| (show 3≤sizeLine;decide)| (show 0≤sizeLine;decide)):ET Z ρ O (.Tuple es x1 pos) (.tup ts):=fun _ p=>Cm (h _ ⟨hl,p⟩)
theorem Jp(h:WA Z ρ O es fun ts O1=>ts.length≤sizeLine∧Φ (.lst ts) O1):WE Z ρ O (.List es pos) Φ:=
 PE.weak (QF h) fun σ H Q q=> ⟨q.1,fun vs H1 ts O1 p f r=> ⟨by rw[r.length];exact p.1,fun a ha=>q.2 _ _ _ O1 p.2 (f.trans (.new f.ok ha)) (.lst AW (f.ok.none_of ha) (r.kp (BP f.ok ha) f.ok))⟩⟩
theorem BH(h:EA Z ρ O es ts)(hl:ts.length≤sizeLine):ET Z ρ O (.List es pos) (.lst ts):=fun _ p=>Jp (h _ ⟨hl,p⟩)
theorem Dp(h:WA Z ρ O es fun ts O1=>ts.length≤sizeLine∧∀a,O1 a=none→Φ (.raw (.ref a)) (AZ O1 a ts)):WE Z ρ O (.List es pos) Φ:=
 PE.weak (QF h) fun σ H Q q=> ⟨q.1,fun vs H1 ts O1 p f r=> ⟨by rw[r.length];exact p.1,fun a ha=>q.2 _ _ _ _ (p.2 a (f.ok.none_of ha)) (f.trans (.newO f.ok ha r)) (.raw _)⟩⟩
end
section
variable{K:a8}{O:AI}{H:Hp}{v:V}
theorem Rep.int_inv{i:Int}(r:Rep K O H v (.int i)):v=.int i:=by cases r;rfl
theorem Rep.bl_inv{i:Bool}(r:Rep K O H v (.bl i)):v=.bl i:=by cases r;rfl
theorem Rep.non_inv(r:Rep K O H v .non):v=.non:=by cases r;rfl
theorem Rep.str_inv{i:Str}(r:Rep K O H v (.str i)):v=.str i:=by cases r;rfl
theorem Rep.raw_inv{i:V}(r:Rep K O H v (.raw i)):v=i:=by cases r;rfl
theorem Rep.tup_inv{ts:List T}(r:Rep K O H v (.tup ts)):∃a xs,v=.ref a∧H a=some (.tup xs)∧Reps K O H xs ts:=by
 cases r with
 |tup h r=>exact⟨_,_,rfl,h,r⟩
theorem Rep.lst_inv{ts:List T}(r:Rep K O H v (.lst ts)):∃a xs,v=.ref a∧H a=some (.lst xs)∧O a=none∧Reps K O H xs ts:=by
 cases r with
 |lst h o r=>exact⟨_,_,rfl,h,o,r⟩
theorem Reps.cons_inv{vs:List V}{t:T}{ts:List T}(r:Reps K O H vs (t::ts)):∃v vs',vs=v::vs'∧Rep K O H v t∧Reps K O H vs' ts:=by
 cases r with
 |cons h r=>exact⟨_,_,rfl,h,r⟩
theorem Reps.nil_inv{vs:List V}(r:Reps K O H vs []):vs=[]:=by cases r;rfl
theorem Reps.one_inv{vs:List V}{t:T}(r:Reps K O H vs [t]):∃v,vs=[v]∧Rep K O H v t:=by
 obtain⟨v,vs',rfl,h,r⟩:=r.cons_inv
 cases r.nil_inv
 exact⟨v,rfl,h⟩
theorem Reps.two_inv{vs:List V}{t u:T}(r:Reps K O H vs [t,u]):∃v w,vs=[v,w]∧Rep K O H v t∧Rep K O H w u:=by
 obtain⟨v,vs',rfl,h,r⟩:=r.cons_inv
 obtain⟨w,rfl,h2⟩:=r.one_inv
 exact⟨v,w,rfl,h,h2⟩
theorem Reps.ints:∀{vs:List V} {ns:List Int},Reps K O H vs (ns.map T.int)→vs=ns.map V.int
 |_,[],r=>r.nil_inv
 |_,n::ns,r=>by
  obtain⟨v,vs',rfl,h,r⟩:=Reps.cons_inv r
  rw[h.int_inv,Reps.ints r]
  rfl
end
section
variable{Z:Zx}{ρ:List (Option T)}{O:AI}{e a b c:Expr}{es:List Expr}{Φ Φ':BW}{pos:Pos}{t ta tb:T}{ts:List T}{K:a8}{i j:Int}
theorem HN{g:Int→Int→Int}:RP K (Si fun i j=> .int (g i j)) (.int i) (.int j) O (.int (g i j)):=fun Φ p H v w Q ok r1 r2 q=> ⟨i,j,r1.int_inv,r2.int_inv,q _ H _ O p (.refl ok) (.int _)⟩
theorem HP{g:Int→Int→Bool}:RP K (Si fun i j=> .bl (g i j)) (.int i) (.int j) O (.bl (g i j)):=fun Φ p H v w Q ok r1 r2 q=> ⟨i,j,r1.int_inv,r2.int_inv,q _ H _ O p (.refl ok) (.bl _)⟩
theorem Qq{C:Int→Int→Prop}{g:Int→Int→Int}(hc:C i j):RP K (rI C fun i j=> .int (g i j)) (.int i) (.int j) O (.int (g i j)):=fun Φ p H v w Q ok r1 r2 q=> ⟨i,j,r1.int_inv,r2.int_inv,hc,q _ H _ O p (.refl ok) (.int _)⟩
theorem Ba(ha:ET Z ρ O a (.int i))(hb:ET Z ρ O b (.int j)):ET Z ρ O (.BinOp a .Add b pos) (.int (i+j)):=Fw FN HN ha hb
theorem CK(ha:ET Z ρ O a (.int i))(hb:ET Z ρ O b (.int j)):ET Z ρ O (.BinOp a .Sub b pos) (.int (i-j)):=Fw WK HN ha hb
theorem Jq(ha:ET Z ρ O a (.int i))(hb:ET Z ρ O b (.int j))(h:CMul i j):ET Z ρ O (.BinOp a .Mult b pos) (.int (i*j)):=Fw WL (Qq h) ha hb
theorem Em(ha:ET Z ρ O a (.int i))(hb:ET Z ρ O b (.int j))(h:Yp i j):ET Z ρ O (.BinOp a .FloorDiv b pos) (.int (i/j)):=Fw Sx (Qq h) ha hb
theorem FX(ha:ET Z ρ O a (.int i))(hb:ET Z ρ O b (.int j))(h:0<j):ET Z ρ O (.BinOp a .Mod b pos) (.int (i%j)):=Fw Py (Qq h) ha hb
theorem Wv(ha:ET Z ρ O a (.int i))(hb:ET Z ρ O b (.int j))(h:Yq i j):ET Z ρ O (.BinOp a .Pow b pos) (.int (i^j.toNat)):=Fw WM (Qq h) ha hb
theorem VL(ha:ET Z ρ O a (.int i))(hb:ET Z ρ O b (.int j)):ET Z ρ O (.Compare a [.Lt] [b] pos) (.bl (decide (i<j))):=Jo QB (Av _) HP ha hb
theorem ZS(ha:ET Z ρ O a (.int i))(hb:ET Z ρ O b (.int j)):ET Z ρ O (.Compare a [.GtE] [b] pos) (.bl (decide (j≤i))):=Jo Yt (Av _) HP ha hb
theorem Mh:RP K cJ (.int i) (.int j) O (.bl (decide (i=j))):=fun Φ p H v w Q ok r1 r2 q=>by
 cases r1.int_inv;cases r2.int_inv
 refine⟨rfl,?_⟩
 have:decide (V.int i=V.int j)=decide (i=j):=by simp
 rw[this]
 exact q _ H _ O p (.refl ok) (.bl _)
theorem Ww:RP K af (.int i) (.int j) O (.bl (!decide (i=j))):=fun Φ p H v w Q ok r1 r2 q=>by
 cases r1.int_inv;cases r2.int_inv
 refine⟨rfl,?_⟩
 have:decide (V.int i=V.int j)=decide (i=j):=by simp
 rw[this]
 exact q _ H _ O p (.refl ok) (.bl _)
theorem Wx{x y:Bool}:RP K af (.bl x) (.bl y) O (.bl (!(x==y))):=fun Φ p H v w Q ok r1 r2 q=>by
 cases r1.bl_inv;cases r2.bl_inv
 refine⟨rfl,?_⟩
 have:decide (V.bl x=V.bl y)=(x==y):=MH
 rw[this]
 exact q _ H _ O p (.refl ok) (.bl _)
theorem ZT{op:UnaryOp}{g:Int→Int}(ho:ab Z.X (unaryOp op) (rU fun i=> .int (g i)))(h:ET Z ρ O a (.int i)):ET Z ρ O (.UnaryOp op a pos) (.int (g i)):=fun Φ p=>
 PE.weak (VD ho BM) fun σ H Q q=> ⟨O,_,h (fun t O'=>t=.int i∧O'=O) ⟨rfl,rfl⟩,q.1,fun v H1 t O1 ⟨e1,e2⟩ f r=>by
  subst e1;subst e2
  exact⟨i,r.int_inv,q.2 _ H1 _ _ p f (.int _)⟩⟩
theorem HQ(h:ET Z ρ O a (.int i)):ET Z ρ O (.UnaryOp .USub a pos) (.int (-i)):=ZT Pz h
theorem Qr{op op':CmpOp}{r r':R2}{tc:T}{x y:Bool}(ho:DD Z.X (gM op) r)(ho':DD Z.X (gM op') r')(hp:RP Z.K r ta tb O (.bl x))(hp':x=true→RP Z.K r' tb tc O (.bl y))
  (ha:ET Z ρ O a ta) (hb:ET Z ρ O b tb) (hc:x=true→ET Z ρ O c tc) (hm:lastMarks [op,op'] [b,c]=false:=by with_unfolding_all rfl):ET Z ρ O (.Compare a [op,op'] [b,c] pos) (.bl (x&&y)):=fun Φ p=>
 by
 refine PE.weak (QD ho ho' (BM (ρ:=ρ)) (BM (ρ:=ρ)) (BM (ρ:=ρ)) hm) fun σ H Q q=>?_
 refine⟨O,_,ha (fun t O'=>t=ta∧O'=O) ⟨rfl,rfl⟩,q.1,?_⟩
 rintro v H1 _ _ ⟨rfl,rfl⟩ f1 r1
 refine⟨_,_,hb (fun t O'=>t=tb∧O'=_) ⟨rfl,rfl⟩,q.1.step f1,?_⟩
 rintro w H2 _ _ ⟨rfl,rfl⟩ f2 r2
 refine hp (fun t O'=>t=.bl x∧O'=_) ⟨rfl,rfl⟩ H2 v w _ f2.ok (r1.kp f2.kp f1.ok) r2 ?_
 rintro z H3 _ _ ⟨rfl,rfl⟩ f3 r3
 refine⟨x,r3.bl_inv,?_⟩
 cases x with
 |false=>exact TK (q.2 _ H3 _ _ p (f1.trans (f2.trans f3)) (.bl _))
 |true=>
  refine GH ⟨_,_,hc rfl (fun t O'=>t=tc∧O'=_) ⟨rfl,rfl⟩,q.1.step (f1.trans (f2.trans f3)),?_⟩
  rintro w' H4 _ _ ⟨rfl,rfl⟩ f4 r4
  exact hp' rfl _ p H4 w w' _ f4.ok (r2.kp (f3.trans f4).kp f2.ok) r4 (q.2.step (f1.trans (f2.trans (f3.trans f4))))
def TruT(O:AI):T→Bool→Prop
 | .non,k=>k=false
 | .bl b,k=>k=b
 | .int i,k=>k=(i !=0)
 | .str y,k=>y.length≤sizeLine∧k=((y.length:Int) !=0)
 | .tup ts,k=>k=!ts.isEmpty
 | .lst ts,k=>k=!ts.isEmpty
 | .frz ts,k=>k=!ts.isEmpty
 | .dct,_=>False
 | .raw (.ref a),k=>∃ts,O a=some ts∧k=!ts.isEmpty
 | .raw _,_=>False
theorem Reps.isEmpty{vs:List V}{ts:List T}{H:Hp}(r:Reps K O H vs ts):vs.isEmpty=ts.isEmpty:=by cases r<;>rfl
theorem TruT.v{H:Hp}{v:V}{k:Bool}(h:TruT O t k)(r:Rep K O H v t)(ok:OwnOk K O H):WQ K v H k:=by
 cases r with
 |non=>exact h
 |bl=>exact h
 |int=>exact h
 |str=>exact h
 |tup h1 r=>
  have h:k=!_:=h
  exact .inr (.inl ⟨_,.inl (.inl h1),by rw[h,r.isEmpty]⟩)
 |lst h1 o r=>
  have h:k=!_:=h
  exact .inl ⟨_,.inl (.inl h1),by rw[h,r.isEmpty]⟩
 |frz h1 r=>
  have h:k=!_:=h
  exact .inl ⟨_,.inl (.inr ⟨_,h1⟩),by rw[h,r.isEmpty]⟩
 |dct=>exact h.elim
 |raw v=>
  cases v with
  |ref a=>
   obtain⟨ts,e,h⟩:=h
   obtain⟨xs,h1,r⟩:=ok a ts e
   exact .inl ⟨xs,.inl (.inl h1),by rw[h,r.isEmpty]⟩
  |_=>exact h.elim
theorem Qs{Φ:LP}(h:WE Z ρ O e fun t O'=>∃k,TruT O' t k∧Φ k O')(he:∀whole,isTrue e Z.X.env whole=(do let v←whole;standAt e.pos;holding [v] (truthy v)):=by intro _;rfl):WT Z ρ O e Φ:=
 PT.weak (QE BM he) fun σ H Q q=> ⟨O,_,h,q.1,fun v H1 t O1 ⟨k,tr,p⟩ f r=> ⟨k,tr.v r f.ok,q.2 k H1 O1 p f⟩⟩
theorem HR{k:Bool}(h:ET Z ρ O e t)(tr:TruT O t k)(he:∀whole,isTrue e Z.X.env whole=(do let v←whole;standAt e.pos;holding [v] (truthy v)):=by intro _;rfl):EB Z ρ O e k:=fun Φ p=>Qs (h _ ⟨k,tr,p⟩) he
theorem Qt{k:Bool}(h:ET Z ρ O e (.bl k))(he:∀whole,isTrue e Z.X.env whole=(do let v←whole;standAt e.pos;holding [v] (truthy v)):=by intro _;rfl):EB Z ρ O e k:=HR h rfl he
theorem Mi{Φ:LP}{op:CmpOp}{r:R2}(ho:DD Z.X (gM op) r)(hm:behindInMarks op b=false)(h:WE Z ρ O a fun ta O1=>WE Z ρ O1 b fun tb O2=>RT Z.K r ta tb O2 fun t O3=>∃k,t=.bl k∧Φ k O3):WT Z ρ O (.Compare a [op] [b] pos) Φ:=
 PT.weak (NL ho BM BM hm) fun σ H Q q=>Jn (Φ:=fun t O3=>∃k,t=.bl k∧Φ k O3) ⟨q.1,fun v H' t O' ⟨k,e,p⟩ f r=>by
  subst e
  exact⟨k,r.bl_inv,q.2 k H' O' p f⟩⟩ h
theorem BF{op:CmpOp}{r:R2}{k:Bool}(ho:DD Z.X (gM op) r)(hm:behindInMarks op b=false)(hp:RP Z.K r ta tb O (.bl k))(ha:ET Z ρ O a ta)(hb:ET Z ρ O b tb):EB Z ρ O (.Compare a [op] [b] pos) k:=fun Φ p=>
 Mi ho hm (ha _ (hb _ (hp _ ⟨k,rfl,p⟩)))
theorem Nc(ha:ET Z ρ O a (.int i))(hb:ET Z ρ O b (.int j)):EB Z ρ O (.Compare a [.Lt] [b] pos) (decide (i<j)):=BF QB (Av _) HP ha hb
theorem ZU(ha:ET Z ρ O a (.int i))(hb:ET Z ρ O b (.int j)):EB Z ρ O (.Compare a [.LtE] [b] pos) (decide (i≤j)):=BF QC (Av _) HP ha hb
theorem Nd(ha:ET Z ρ O a (.int i))(hb:ET Z ρ O b (.int j)):EB Z ρ O (.Compare a [.Gt] [b] pos) (decide (j<i)):=BF Ys (Av _) HP ha hb
theorem EJ(ha:ET Z ρ O a (.int i))(hb:ET Z ρ O b (.int j)):EB Z ρ O (.Compare a [.Eq] [b] pos) (decide (i=j)):=BF QA (Av _) Mh ha hb
theorem Qu(ha:ET Z ρ O a (.int i))(hb:ET Z ρ O b (.int j)):EB Z ρ O (.Compare a [.NotEq] [b] pos) (!decide (i=j)):=BF Km (Av _) Ww ha hb
theorem Qv{x y:Bool}(ha:ET Z ρ O a (.bl x))(hb:ET Z ρ O b (.bl y)):EB Z ρ O (.Compare a [.NotEq] [b] pos) (!(x==y)):=BF Km (Av _) Wx ha hb
theorem Ts{k:Int}(ha:ET Z ρ O a (.int i))(hb:ET Z ρ O b (.int j))(hc:ET Z ρ O c (.int k))(hm:lastMarks [CmpOp.LtE,.LtE] [b,c]=false:=by with_unfolding_all rfl):ET Z ρ O (.Compare a [.LtE,.LtE] [b,c] pos) (.bl (decide (i≤j)&&decide (j≤k))):=Qr QC QC HP (fun _=>HP) ha hb (fun _=>hc) hm
theorem Wy{Φ:LP}(h:WT Z ρ O a fun k O'=>Φ (!k) O'):WT Z ρ O (.UnaryOp .Not a pos) Φ:=PT.weak (Vq h) fun σ H Q q=> ⟨q.1,fun k H1 O1 p f=>q.2 _ H1 O1 p f⟩
theorem Dd{k:Bool}(h:EB Z ρ O a k):EB Z ρ O (.UnaryOp .Not a pos) (!k):=fun Φ p=>Wy (h _ p)
def EW(Z:Zx)(ρ:List (Option T))(O:AI)(e:Expr)(b:Bool):Prop:=∀Φ:LP,Φ b O→WW Z ρ O e Φ
theorem EW.eb{k:Bool}(h:EW Z ρ O e k):EB Z ρ O e k:=fun Φ p=> (h Φ p).pt
theorem Tt{Φ:LP}(h:WT Z ρ O a Φ):WW Z ρ O (.BoolOp .And [a] pos) Φ:=Sr h
theorem Wz{Φ:LP}(h:WT Z ρ O a Φ):WW Z ρ O (.BoolOp .Or [a] pos) Φ:=Vo h
theorem XA{Φ:LP}(h:WT Z ρ O a fun k O1=>if k=true then WW Z ρ O1 (.BoolOp .And (b::es) pos) Φ else Φ false O1):WW Z ρ O (.BoolOp .And (a::b::es) pos) Φ:=
 PW.weak (Vp h ZQ) fun σ H Q q=> ⟨q.1,fun k H1 O1 p f=>by
  cases k with
  |true=>rw[if_pos rfl] at p ⊢;exact⟨O1,_,p,q.1.step f,q.2.step f⟩
  |false=>rw[if_neg eC] at p ⊢;exact q.2 _ H1 O1 p f⟩
theorem ZV{Φ:LP}(h:WT Z ρ O a fun k O1=>if k=true then Φ true O1 else WW Z ρ O1 (.BoolOp .Or (b::es) pos) Φ):WW Z ρ O (.BoolOp .Or (a::b::es) pos) Φ:=
 PW.weak (YX h ZQ) fun σ H Q q=> ⟨q.1,fun k H1 O1 p f=>by
  cases k with
  |true=>rw[if_pos rfl] at p ⊢;exact q.2 _ H1 O1 p f
  |false=>rw[if_neg eC] at p ⊢;exact⟨O1,_,p,q.1.step f,q.2.step f⟩⟩
theorem CZ{k:Bool}(h:EB Z ρ O a k):EW Z ρ O (.BoolOp .And [a] pos) k:=fun Φ p=>Tt (h _ p)
theorem FY{k:Bool}(h:EB Z ρ O a k):EW Z ρ O (.BoolOp .Or [a] pos) k:=fun Φ p=>Wz (h _ p)
theorem De{x y:Bool}(ha:EB Z ρ O a x)(hb:x=true→EW Z ρ O (.BoolOp .And (b::es) pos) y):EW Z ρ O (.BoolOp .And (a::b::es) pos) (x&&y):=fun Φ p=>XA (ha _ (by
 cases x with
 |true=>rw[if_pos rfl];exact hb rfl _ p
 |false=>rw[if_neg eC];exact p))
theorem En{x y:Bool}(ha:EB Z ρ O a x)(hb:x=false→EW Z ρ O (.BoolOp .Or (b::es) pos) y):EW Z ρ O (.BoolOp .Or (a::b::es) pos) (x||y):=fun Φ p=>ZV (ha _ (by
 cases x with
 |true=>rw[if_pos rfl];exact p
 |false=>rw[if_neg eC];exact hb rfl _ p))
theorem XB{op}(h:ET Z ρ O a t):ET Z ρ O (.BoolOp op [a] pos) t:=fun Φ p=>Vr (h Φ p)
theorem XC{x y:Bool}(ha:ET Z ρ O a (.bl x))(hb:x=true→ET Z ρ O (.BoolOp .And (b::es) pos) (.bl y)):ET Z ρ O (.BoolOp .And (a::b::es) pos) (.bl (x&&y)):=fun Φ p=>
 by
 refine PE.weak (Vs (BM (ρ:=ρ)) (BM (ρ:=ρ))) fun σ H Q q=>?_
 refine⟨O,_,ha (fun t O'=>t=.bl x∧O'=O) ⟨rfl,rfl⟩,q.1,?_⟩
 rintro v H1 _ _ ⟨rfl,rfl⟩ f r
 refine⟨x,r.bl_inv,?_⟩
 cases x with
 |true=>exact GH ⟨_,_,hb rfl _ p,q.1.step f,q.2.step f⟩
 |false=>exact TK (q.2 _ H1 _ _ p f (.bl _))
theorem XD{x:Bool}(ha:ET Z ρ O a (.bl x)):ET Z ρ O (.UnaryOp .Not a pos) (.bl (!x)):=fun Φ p=>
 PE.weak (Vt BM) fun σ H Q q=> ⟨O,_,ha (fun t O'=>t=.bl x∧O'=O) ⟨rfl,rfl⟩,q.1,fun v H1 t O1 ⟨e1,e2⟩ f r=>by
  subst e1;subst e2
  exact⟨x,r.bl_inv,q.2 _ H1 _ _ p f (.bl _)⟩⟩
theorem ZW(h:WT Z ρ O c fun k O1=>if k=true then WE Z ρ O1 a Φ else WE Z ρ O1 b Φ):WE Z ρ O (.IfExp c a b pos) Φ:=
 PE.weak (Pu h BM BM) fun σ H Q q=> ⟨q.1,fun k H1 O1 p f=>by
  cases k with
  |true=>rw[if_pos rfl] at p ⊢;exact⟨O1,_,p,q.1.step f,q.2.step f⟩
  |false=>rw[if_neg eC] at p ⊢;exact⟨O1,_,p,q.1.step f,q.2.step f⟩⟩
theorem Ir{x:Bool}(hc:EB Z ρ O c x)(ha:x=true→ET Z ρ O a ta)(hb:x=false→ET Z ρ O b tb):ET Z ρ O (.IfExp c a b pos) (if x=true then ta else tb):=fun Φ p=>ZW (hc _ (by
 cases x with
 |true=>rw[if_pos rfl] at p ⊢;exact ha rfl _ p
 |false=>rw[if_neg eC] at p ⊢;exact hb rfl _ p))
theorem Reps.atI{vs:List V}{H:Hp}(r:Reps K O H vs ts)(e:L2.atI ts i=some t):∃v,L2.atI vs i=some v∧Rep K O H v t:=by
 unfold L2.atI at e ⊢
 rw[r.length]
 cases hx:Os ts.length i with
 |none=>rw[hx] at e;cases e
 |some j=>rw[hx] at e;exact r.get e
theorem XE(e:atI ts i=some t):RP K (ZA K) (.tup ts) (.int i) O t:=fun Φ p H v w Q ok r1 r2 q=>by
 obtain⟨a,xs,rfl,h1,r1⟩:=r1.tup_inv
 obtain⟨x,ex,rx⟩:=r1.atI e
 exact⟨a,xs,i,x,rfl,r2.int_inv,.inl (.inl h1),ex,q _ H _ O p (.refl ok) rx⟩
theorem Jr(e:atI ts i=some t):RP K (WY K) (.lst ts) (.int i) O t:=fun Φ p H v w Q ok r1 r2 q=>by
 obtain⟨a,xs,rfl,h1,o1,r1⟩:=r1.lst_inv
 obtain⟨x,ex,rx⟩:=r1.atI e
 exact⟨a,xs,i,x,rfl,r2.int_inv,.inl (.inl h1),ex,q _ H _ O p (.refl ok) rx⟩
theorem XF{a:Addr}(ha:O a=some ts)(e:atI ts i=some t):RP K (WY K) (.raw (.ref a)) (.int i) O t:=fun Φ p H v w Q ok r1 r2 q=>by
 cases r1.raw_inv
 obtain⟨xs,h1,r1⟩:=ok a ts ha
 obtain⟨x,ex,rx⟩:=r1.atI e
 exact⟨a,xs,i,x,rfl,r2.int_inv,.inl (.inl h1),ex,q _ H _ O p (.refl ok) rx⟩
theorem Ae(ha:ET Z ρ O a (.tup ts))(hb:ET Z ρ O b (.int i))(e:atI ts i=some t:=by rfl)(hs:Dm b:=by exact fun _ _=>rfl):ET Z ρ O (.Subscript a b pos) t:=Qp WZ hs (XE e) ha hb
theorem CM(ha:ET Z ρ O a (.lst ts))(hb:ET Z ρ O b (.int i))(e:atI ts i=some t:=by rfl)(hs:Dm b:=by exact fun _ _=>rfl):ET Z ρ O (.Subscript a b pos) t:=Qp Dn hs (Jr e) ha hb
theorem Bb{p:Addr}(hp:O p=some ts)(ha:ET Z ρ O a (.raw (.ref p)))(hb:ET Z ρ O b (.int i))(e:atI ts i=some t:=by rfl)(hs:Dm b:=by exact fun _ _=>rfl):ET Z ρ O (.Subscript a b pos) t:=Qp Dn hs (XF hp e) ha hb
end
abbrev Df:=List T→AI→BW→(Value→AI→Prop)→Prop
def EK(K:a8)(s:Df):Sp:=fun vs H Q E=>∃ts O Φ Ξ,Reps K O H vs ts∧OwnOk K O H∧s ts O Φ Ξ∧Acc K O H Φ Q∧∀cls O' H',Ξ cls O'→Frm K O H O' H'→E cls none H'
structure FnT(P:Program)(w:World)(K:a8)(mg:Str→Option Value)(base:Heap)(x:Str)(k:Nat)(ps:List Str)(s:Df):Prop where
 ex:∃f fd,FnOk P w K mg base (CXe P w) k f fd ps (EK K s)∧mg x=some (.ref f)∧jg K (.ref f)=true∧Binds K fd ps []
def LQ(φ:List T→T→Prop):Df:=fun ts O Φ _=>∃t,φ ts t∧Φ t O
section
variable{Z:Zx}{ρ:List (Option T)}{O:AI}{e a b c:Expr}{es:List Expr}{Φ Φ':BW}{pos p:Pos}{t ta tb:T}{ts:List T}{K:a8}{i j:Int}{x:Str}
theorem Ar{k:Nat}{ps:List Str}{s:Df}(G:FnT Z.X.prog Z.X.w Z.X.K Z.X.mg Z.X.base x k ps s)(hr:Room k Z.X.A)(xf:XFly Z.X Z.W)(h:WA Z ρ O (e::es) fun ts O1=>s ts O1 Φ Z.Xi)(hg:Gl Z.X x:=by rfl)
  (hdb:(x==("__debug__" :Str))=false:=by decide) (he:du (e::es) Z.X.env=(false,eval e Z.X.env)::du es Z.X.env:=by rfl) (hpl:(i7 pos (du es Z.X.env)).any (·.1)=false:=by rfl):WE Z ρ O (.Call (.Name x p) (e::es) [] pos) Φ:=by
 obtain⟨f,fd,F,hm,hk,hb⟩:=G.ex
 refine PE.weak (Kv xf F hr hg hm hk hb (Jm (ρ:=ρ)) hdb he hpl) fun σ H Q q=>?_
 exact⟨O,_,h,q.1,fun vs H1 ts O1 p f r=> ⟨ts,O1,Φ,Z.Xi,r,f.ok,p,q.2.step f,fun cls O' H' x f'=> ⟨rfl,O',x,(q.1.fr.trans f).trans f'⟩⟩⟩
theorem Tu{k:Nat}{ps:List Str}{s:Df}(G:FnT Z.X.prog Z.X.w Z.X.K Z.X.mg Z.X.base x k ps s)(hr:Room k Z.X.A)(xf:XFly Z.X Z.W)(h:EA Z ρ O (e::es) ts)(hs:∀Φ:BW,Φ t O→s ts O Φ Z.Xi)(hg:Gl Z.X x:=by rfl)
  (hdb:(x==("__debug__" :Str))=false:=by decide) (he:du (e::es) Z.X.env=(false,eval e Z.X.env)::du es Z.X.env:=by rfl) (hpl:(i7 pos (du es Z.X.env)).any (·.1)=false:=by rfl):ET Z ρ O (.Call (.Name x p) (e::es) [] pos) t:=
 fun Φ p=>Ar G hr xf (h _ (hs Φ p)) hg hdb he hpl
theorem BN{k:Nat}{ps:List Str}{φ:List T→T→Prop}(G:FnT Z.X.prog Z.X.w Z.X.K Z.X.mg Z.X.base x k ps (LQ φ))(hr:Room k Z.X.A)(xf:XFly Z.X Z.W)(h:EA Z ρ O (e::es) ts)(hs:φ ts t)(hg:Gl Z.X x:=by rfl)
  (hdb:(x==("__debug__" :Str))=false:=by decide) (he:du (e::es) Z.X.env=(false,eval e Z.X.env)::du es Z.X.env:=by rfl) (hpl:(i7 pos (du es Z.X.env)).any (·.1)=false:=by rfl):ET Z ρ O (.Call (.Name x p) (e::es) [] pos) t:=
 Tu G hr xf h (fun Φ p=> ⟨t,hs,p⟩) hg hdb he hpl
def CT(K:a8)(r:List V→Hp→VK→Prop)(ts:List T)(O:AI)(Φ:BW):Prop:=∀H vs Q,OwnOk K O H→Reps K O H vs ts→Acc K O H Φ Q→r vs H Q
def CP(K:a8)(r:List V→Hp→VK→Prop)(ts:List T)(O:AI)(t:T):Prop:=∀Φ:BW,Φ t O→CT K r ts O Φ
theorem LR{id:String}{r:List V→Hp→VK→Prop}(hc:Au Z.X (.builtin id) r)(hm:Z.X.mg x=none)(hv:fw x=some (.builtin id))(h:WA Z ρ O (e::es) fun ts O1=>CT Z.K r ts O1 Φ)(hg:Gl Z.X x:=by rfl)(hn:x≠"__name__":=by decide)(hdb:(x==("__debug__" :Str))=false:=by decide)
  (he:du (e::es) Z.X.env=(false,eval e Z.X.env)::du es Z.X.env:=by rfl) (hpl:(i7 pos (du es Z.X.env)).any (·.1)=false:=by rfl):WE Z ρ O (.Call (.Name x p) (e::es) [] pos) Φ:=
 PE.weak (Ec hc hg hm hv (Jm (ρ:=ρ)) hn hdb he hpl) fun σ H Q q=> ⟨O,_,h,q.1,fun vs H1 ts O1 p f r=>p H1 vs Q f.ok r (q.2.step f)⟩
theorem Dq{id:String}{r:List V→Hp→VK→Prop}(hc:Au Z.X (.type id) r)(hm:Z.X.mg x=none)(hv:fw x=some (.type id))(h:WA Z ρ O (e::es) fun ts O1=>CT Z.K r ts O1 Φ)(hg:Gl Z.X x:=by rfl)(hn:x≠"__name__":=by decide)(hdb:(x==("__debug__" :Str))=false:=by decide)
  (he:du (e::es) Z.X.env=(false,eval e Z.X.env)::du es Z.X.env:=by rfl) (hpl:(i7 pos (du es Z.X.env)).any (·.1)=false:=by rfl):WE Z ρ O (.Call (.Name x p) (e::es) [] pos) Φ:=
 PE.weak (Cr hc hg hm hv (Jm (ρ:=ρ)) hn hdb he hpl) fun σ H Q q=> ⟨O,_,h,q.1,fun vs H1 ts O1 p f r=>p H1 vs Q f.ok r (q.2.step f)⟩
theorem Ax{id:String}{r:List V→Hp→VK→Prop}(hc:Au Z.X (.builtin id) r)(hm:Z.X.mg x=none)(hv:fw x=some (.builtin id))(h:EA Z ρ O (e::es) ts)(hp:CP Z.K r ts O t)(hg:Gl Z.X x:=by rfl)(hn:x≠"__name__":=by decide)(hdb:(x==("__debug__" :Str))=false:=by decide)
  (he:du (e::es) Z.X.env=(false,eval e Z.X.env)::du es Z.X.env:=by rfl) (hpl:(i7 pos (du es Z.X.env)).any (·.1)=false:=by rfl):ET Z ρ O (.Call (.Name x p) (e::es) [] pos) t:=fun Φ q=>LR hc hm hv (h _ (hp Φ q)) hg hn hdb he hpl
theorem FZ{id:String}{r:List V→Hp→VK→Prop}(hc:Au Z.X (.type id) r)(hm:Z.X.mg x=none)(hv:fw x=some (.type id))(h:EA Z ρ O (e::es) ts)(hp:CP Z.K r ts O t)(hg:Gl Z.X x:=by rfl)(hn:x≠"__name__":=by decide)(hdb:(x==("__debug__" :Str))=false:=by decide)
  (he:du (e::es) Z.X.env=(false,eval e Z.X.env)::du es Z.X.env:=by rfl) (hpl:(i7 pos (du es Z.X.env)).any (·.1)=false:=by rfl):ET Z ρ O (.Call (.Name x p) (e::es) [] pos) t:=fun Φ q=>Dq hc hm hv (h _ (hp Φ q)) hg hn hdb he hpl
def MT(K:a8)(ty:String)(r:V→List V→Hp→VK→Prop)(t:T)(ts:List T)(O:AI)(Φ:BW):Prop:=∀H v vs Q,OwnOk K O H→Rep K O H v t→Reps K O H vs ts→Acc K O H Φ Q→r v vs H Q
def cQ(K:a8)(ty:String)(O:AI)(t:T):Prop:=∀H v,OwnOk K O H→Rep K O H v t→bT K ty v H
theorem VM{o:Expr}{name:Str}{apos cpos:Pos}{ty id:String}{r:V→List V→Hp→VK→Prop}(pa:PlainAttrs ty)(slot:Slot ty name id)(hty:typeOf (.builtin id)=pure (.type "method_descriptor"))(hm:cL Z.X id r)
  (h:WE Z ρ O o fun t O1=>cQ Z.K ty O1 t∧WA Z ρ O1 (e::es) fun ts O2=>MT Z.K ty r t ts O2 Φ)
  (hbase:md o name Z.X.env (eval o Z.X.env)=eval o Z.X.env:=by rfl)
  (hfew:((i7 cpos (du (e::es) Z.X.env)).all (fun x=>!x.1)&&(oI cpos (mZ [] Z.X.env)).all (fun x=>x.1.isSome)
   &&decide ((e::es).length+([]:List l7).length+(if([]:List l7).isEmpty then 0 else 1)<30))=true:=by rfl)
  (hline:(apos.endLine==cpos.line)=true:=by rfl) (hs:du (e::es) Z.X.env=(false,eval e Z.X.env)::du es Z.X.env:=by rfl) (hplain:(i7 cpos (du es Z.X.env)).any (·.1)=false:=by rfl):WE Z ρ O (.Call (.Attribute o name apos) (e::es) [] cpos) Φ:=
 PE.weak (ZD pa slot hty hm (BM (ρ:=ρ)) (Jm (ρ:=ρ)) hbase hfew hline hs hplain) fun σ H Q q=> ⟨O,_,h,q.1,fun v H1 t O1 ⟨ty,p⟩ f1 r1=> ⟨ty H1 v f1.ok r1,O1,_,p,q.1.step f1,fun vs H2 ts O2 p2 f2 r2=>
  p2 H2 v vs Q f2.ok (r1.kp f2.kp f1.ok) r2 (q.2.step (f1.trans f2))⟩⟩
theorem Nf{a:Addr}(ha:O a=some ts):cQ K "list" O (.raw (.ref a)):=fun H v ok r=>by
 cases r.raw_inv
 obtain⟨xs,h,_⟩:=ok a ts ha
 exact .inl ⟨rfl,xs,.inl (.inl h)⟩
theorem Mj{a:Addr}{u:T}(ha:O a=some ts)(hl:ts.length<sizeLine)(p:Φ .non (AZ O a (ts++[u]))):MT K "list" NP (.raw (.ref a)) [u] O Φ:=fun H v vs Q ok r1 r2 q=>by
 cases r1.raw_inv
 obtain⟨w,rfl,r3⟩:=r2.one_inv
 obtain⟨xs,h,r⟩:=ok a ts ha
 exact⟨a,xs,w,rfl,rfl,h,by rw[r.length];exact hl,q _ _ _ _ p (.put ok ha (r.append (.one r3))) .non⟩
theorem Be{o:Expr}{apos cpos:Pos}(h:WE Z ρ O o fun t O1=>∃a,t=.raw (.ref a)∧(∃ts,O1 a=some ts)∧WE Z ρ O1 e fun u O2=>∃ts,O2 a=some ts∧ts.length<sizeLine∧Φ .non (AZ O2 a (ts++[u])))
  (hbase:md o "append" Z.X.env (eval o Z.X.env)=eval o Z.X.env:=by rfl)
  (hfew:((i7 cpos (du [e] Z.X.env)).all (fun x=>!x.1)&&(oI cpos (mZ [] Z.X.env)).all (fun x=>x.1.isSome)
   &&decide ([e].length+([]:List l7).length+(if([]:List l7).isEmpty then 0 else 1)<30))=true:=by rfl)
  (hline:(apos.endLine==cpos.line)=true:=by rfl) (hs:du [e] Z.X.env=(false,eval e Z.X.env)::du [] Z.X.env:=by rfl) (hplain:(i7 cpos (du [] Z.X.env)).any (·.1)=false:=by rfl):WE Z ρ O (.Call (.Attribute o "append" apos) [e] [] cpos) Φ:=by
 refine VM PySem.F.plainAttrs_list PySem.F.slot_list_append PySem.F.type_list_append Ib (Do h ?_) hbase hfew hline hs hplain
 rintro t O1 ⟨a,rfl,⟨ts,hts⟩,w⟩
 refine⟨Nf hts,Bg (Do w ?_) hs⟩
 rintro u O2 ⟨us,h1,h2,p⟩
 exact Al (Mj h1 h2 p)
end
abbrev Fy:=List (Option T)→AI→Prop
structure Es where
 nx:Fy
 rt:BW
 bk:Fy:=fun _ _=>False
 ct:Fy:=fun _ _=>False
def AccN(Z:Zx)(O:AI)(H:Hp)(N:Fy)(D:St→Hp→Prop):Prop:=∀ρ' O' σ' H',N ρ' O'→Asr Z ρ' O' σ' H'→Kp O H O' H'→D σ' H'
structure AccS(Z:Zx)(O:AI)(H:Hp)(Ψ:Es)(D:Ends):Prop where
 nx:AccN Z O H Ψ.nx D.nx
 rt:∀v H' t O',Ψ.rt t O'→Frm Z.K Z.Oe Z.He O' H'→Rep Z.K O' H' v t→D.rt v H'
 bk:AccN Z O H Ψ.bk D.bk
 ct:AccN Z O H Ψ.ct D.ct
def tS(Z:Zx)(ρ:List (Option T))(O:AI)(Ψ:Es):TS:=fun D σ H=>Asr Z ρ O σ H∧AccS Z O H Ψ D
def WS(Z:Zx)(ρ:List (Option T))(O:AI)(s:Stmt)(Ψ:Es):Prop:=PS Z.X s (tS Z ρ O Ψ)
def Eo(Z:Zx)(ρ:List (Option T))(O:AI)(s:List Stmt)(Ψ:Es):Prop:=PSs Z.X s (tS Z ρ O Ψ)
def dB(Z:Zx)(ss:List Stmt):TS:=fun D σ H=>∃ρ O Ψ,Eo Z ρ O ss Ψ∧tS Z ρ O Ψ D σ H
theorem LS{Z:Zx}{ss:List Stmt}:PSs Z.X ss (dB Z ss):=fun pins s σ H D I ⟨_,_,_,w,q⟩=>w pins s σ H D I q
section
variable{Z:Zx}{ρ:List (Option T)}{O O1:AI}{e a b c:Expr}{es:List Expr}{Ψ:Es}{pos p:Pos}{t ta tb:T}{ts:List T}{i j:Nat}{x:Str}{s:Stmt}{ss:List Stmt}{H H1:Hp}{D:Ends}
theorem AccN.step{N:Fy}{D:St→Hp→Prop}(h:AccN Z O H N D)(k:Kp O H O1 H1):AccN Z O1 H1 N D:=fun ρ' O' σ' H' n a k'=>h ρ' O' σ' H' n a (k.trans k')
theorem AccS.step(h:AccS Z O H Ψ D)(k:Kp O H O1 H1):AccS Z O1 H1 Ψ D:=⟨h.nx.step k,h.rt,h.bk.step k,h.ct.step k⟩
theorem BI(h:Ψ.nx ρ O):Eo Z ρ O [] Ψ:=PSs.weak NH fun D σ H q=>q.2.nx ρ O σ H h q.1 .refl
theorem AD(h:WS Z ρ O s {Ψ with nx:=fun ρ' O'=>Eo Z ρ' O' ss Ψ}):Eo Z ρ O (s::ss) Ψ:=
 PSs.weak (Ki h LS) fun D σ H q=> ⟨q.1,fun ρ' O' σ' H' w a k=> ⟨ρ',O',Ψ,w,a,q.2.step k⟩,q.2.rt,q.2.bk,q.2.ct⟩
theorem AH(h:WS Z ρ O s Ψ):Eo Z ρ O [s] Ψ:=PSs.weak (JR h) fun _ _ _ q=>q
theorem Ng{Ψ':Es}(h:WS Z ρ O s Ψ)(n:∀ρ' O',Ψ.nx ρ' O'→Ψ'.nx ρ' O')(r:∀t O',Ψ.rt t O'→Ψ'.rt t O')(bk:∀ρ' O',Ψ.bk ρ' O'→Ψ'.bk ρ' O')(ct:∀ρ' O',Ψ.ct ρ' O'→Ψ'.ct ρ' O'):WS Z ρ O s Ψ':=
 PS.weak h fun D σ H q=> ⟨q.1,fun ρ' O' σ' H' w=>q.2.nx ρ' O' σ' H' (n ρ' O' w),fun v H' t O' w=>q.2.rt v H' t O' (r t O' w),fun ρ' O' σ' H' w=>q.2.bk ρ' O' σ' H' (bk ρ' O' w),fun ρ' O' σ' H' w=>q.2.ct ρ' O' σ' H' (ct ρ' O' w)⟩
theorem Bn{p:Addr}{n:Nat}(hp:O p=some ts)(he:Z.Oe p=none)(hn:ρ[n]?=some (some (.raw (.ref p))))(h:Eo Z (ρ.set n (some (.lst ts))) (CW O p) ss Ψ):Eo Z ρ O ss Ψ:=PSs.weak h fun D σ H q=>by
 refine⟨⟨?_,⟨q.1.fr.kp.trans CY,fun b us e=>?_,q.1.ok.drop⟩⟩,q.2.step CY⟩
 ·have r1:=q.1.rl.kp (CY (a:=p)) q.1.ok
  obtain⟨v,e1,e2⟩:=q.1.rl.2 n _ hn
  cases e2.raw_inv
  have r2:=r1.set (i:=n) (q.1.ok.rep hp)
  have:σ.set n (some (.ref p))=σ:=by
   apply gI
   intro m
   by_cases hm:m=n
   ·subst hm
    have hl:m<σ.length:=(eB.mp e1).1
    rw[eZ hl,e1]
   ·rw[fc (Ne.symm hm)]
  rw[this] at r2
  exact r2
 ·obtain⟨us',e'⟩:=q.1.fr.own b us e
  have:b≠p:=fun z=>by rw[z,he] at e;cases e
  exact⟨us',by rw[Dc this];exact e'⟩
theorem AR(h:WE Z ρ O e Ψ.rt):WS Z ρ O (.Return (some e) pos) Ψ:=PS.weak (JS h) fun D σ H q=> ⟨q.1,fun v H' t O' p f r=>q.2.rt v H' t O' p (q.1.fr.trans f) r⟩
theorem Ca(h:WE Z ρ O e fun _ O'=>Ψ.nx ρ O')(hs:kQ e none pos.line Z.X.env=pure false:=by rfl):WS Z ρ O (.Expr e pos) Ψ:=
 PS.weak (Ss h hs) fun D σ H q=> ⟨q.1,fun v H' t O' p f r=>q.2.nx ρ O' σ H' p (q.1.step f) f.kp⟩
theorem AM(i:Nat)(h:WE Z ρ O e fun t O'=>Ψ.nx (ρ.set i (some t)) O')(hN:Z.X.N.Nodup){pos':Pos}(hi:Z.X.N[i]?=some x:=by rfl)(hx:Po Z.X.env.scope x:=by first|exact mh rfl|exact lP rfl)(hs:kQ e (some (.Name x pos')) pos.line Z.X.env=pure false:=by rfl)
  (hf:Z.X.fn x=true∨Z.X.env.scope.names.lookup x=some .local:=by first|exact .inl rfl|exact .inr rfl):WS Z ρ O (.Assign [.Name x pos'] e pos) Ψ:=
 PS.weak (Vy hN hi hx h hs hf) fun D σ H q=> ⟨q.1,fun v H' t O' p f r=>q.2.nx _ O' _ H' p ⟨(q.1.step f).rl.set r,(q.1.step f).fr⟩ f.kp⟩
theorem XG{op:ng}{ti:Ye}(i:Nat){pos':Pos}(ho:bE Z.X op ti)(hρ:ρ[i]?=some (some ta))(h:WE Z ρ O e fun tb O1=>RT Z.K ti ta tb O1 fun t O2=>Ψ.nx (ρ.set i (some t)) O2)(hN:Z.X.N.Nodup)(hi:Z.X.N[i]?=some x:=by rfl)(hx:Po Z.X.env.scope x:=by first|exact mh rfl|exact lP rfl)
  (hf:Z.X.fn x=true∨Z.X.env.scope.names.lookup x=some .local:=by first|exact .inl rfl|exact .inr rfl):WS Z ρ O (.AugAssign (.Name x pos') op e pos) Ψ:=
 PS.weak (Vz hN hi hx h ho hf) fun D σ H q=>by
  obtain⟨v,e1,r1⟩:=q.1.rl.2 i _ hρ
  exact⟨v,e1,q.1,fun w H1 tb O1 p f r=>p H1 v w _ f.ok (r1.kp f.kp q.1.ok) r fun z H2 t O2 p2 f2 r2=>q.2.nx _ O2 _ H2 p2 ⟨(q.1.step (f.trans f2)).rl.set r2,(q.1.step (f.trans f2)).fr⟩ (f.trans f2).kp⟩
theorem ZX{ea eb:List Stmt}(h:WT Z ρ O c fun k O1=>if k=true then Eo Z ρ O1 ea Ψ else Eo Z ρ O1 eb Ψ):WS Z ρ O (.If c ea eb pos) Ψ:=
 PS.weak (VB h LS LS) fun D σ H q=> ⟨q.1,fun k H1 O1 p f=>by
  cases k with
  |true=>rw[if_pos rfl] at p ⊢;exact⟨ρ,O1,Ψ,p,q.1.step f,q.2.step f.kp⟩
  |false=>rw[if_neg eC] at p ⊢;exact⟨ρ,O1,Ψ,p,q.1.step f,q.2.step f.kp⟩⟩
theorem Ay{ea eb:List Stmt}{k:Bool}(hc:EB Z ρ O c k)(h1:k=true→Eo Z ρ O ea Ψ)(h2:k=false→Eo Z ρ O eb Ψ):WS Z ρ O (.If c ea eb pos) Ψ:=ZX (hc _ (by
 cases k with
 |true=>rw[if_pos rfl];exact h1 rfl
 |false=>rw[if_neg eC];exact h2 rfl))
def tG(Z:Zx)(n:Nat)(ρ:List (Option T))(O:AI)(t:T)(ρ':List (Option T)):TG:=fun v σ H Q=>Asr Z ρ O σ H∧Rep Z.K O H v t∧∀σ',Asr Z ρ' O σ' H→(σ'.length=σ.length∧∀j,n≤j→σ'[j]?=σ[j]?)→Q σ' H
def WG(Z:Zx)(n:Nat)(ρ:List (Option T))(O:AI)(tg:Expr)(t:T)(ρ':List (Option T)):Prop:=PG Z.X tg (tG Z n ρ O t ρ')
theorem PG.weak{X:Cx}{e:Expr}{t t':TG}(h:PG X e t)(w:∀v σ H Q,t' v σ H Q→t v σ H Q):PG X e t':=fun pins s σ H v u Q I r q=>h pins s σ H v u Q I r (w v σ H Q q)
def dC(Z:Zx)(n:Nat)(tg:Expr):TG:=fun v σ H Q=>∃ρ O t ρ',WG Z n ρ O tg t ρ'∧tG Z n ρ O t ρ' v σ H Q
theorem ZY{n:Nat}{tg:Expr}:PG Z.X tg (dC Z n tg):=fun pins s σ H v u Q I r ⟨_,_,_,_,w,q⟩=>w pins s σ H v u Q I r q
theorem AL(i:Nat){n:Nat}(hN:Z.X.N.Nodup)(hn:i<n)(hi:Z.X.N[i]?=some x:=by rfl)(hx:Po Z.X.env.scope x:=by first|exact mh rfl|exact lP rfl)
  (hf:Z.X.fn x=true∨Z.X.env.scope.names.lookup x=some .local:=by first|exact .inl rfl|exact .inr rfl):WG Z n ρ O (.Name x pos) t (ρ.set i (some t)):=
 PG.weak (JT hN hi hx hf) fun v σ H Q q=>q.2.2 _ ⟨q.1.rl.set q.2.1,q.1.fr⟩ ⟨by simp,fun j hj=>by rw[fc (by omega)]⟩
theorem Bh(i j:Nat){n:Nat}{y:Str}{p1 p2:Pos}{k:Nat}(hc:Z.X.calm=true)(hN:Z.X.N.Nodup)(hni:i<n)(hnj:j<n)(hi:Z.X.N[i]?=some x:=by rfl)(hj:Z.X.N[j]?=some y:=by rfl)(hx:Po Z.X.env.scope x:=by first|exact mh rfl|exact lP rfl)(hy:Po Z.X.env.scope y:=by first|exact mh rfl|exact lP rfl)
  (hf:Z.X.fn x=true∨Z.X.env.scope.names.lookup x=some .local:=by first|exact .inl rfl|exact .inr rfl) (hf2:Z.X.fn y=true∨Z.X.env.scope.names.lookup y=some .local:=by first|exact .inl rfl|exact .inr rfl)
  (hs:(iR [.Name x p1,.Name y p2] Z.X.env).map (·.2)=assign (.Name x p1) Z.X.env::(iR [.Name y p2] Z.X.env).map (·.2):=by rfl) (hs2:(iR [.Name y p2] Z.X.env).map (·.2)=assign (.Name y p2) Z.X.env::(iR [] Z.X.env).map (·.2):=by rfl)
  (hl:(iR [.Name x p1,.Name y p2] Z.X.env).length=2:=by rfl) (hst:(iR [.Name x p1,.Name y p2] Z.X.env).findIdx? (·.1)=none:=by rfl):
  WG Z n ρ O (.Tuple [.Name x p1,.Name y p2] k pos) (.tup [ta,tb]) ((ρ.set i (some ta)).set j (some tb)):=
 PG.weak (Vw hc (Kj (JT hN hi hx hf) (Kj (JT hN hj hy hf2) Su hs2) hs) hl hst) fun v σ H Q q=>by
  obtain⟨q1,q2,q3⟩:=q
  obtain⟨a,xs,rfl,h1,r⟩:=q2.tup_inv
  obtain⟨v,w,rfl,r1,r2⟩:=r.two_inv
  exact⟨a,_,rfl,.inl (.inl h1),rfl,v,_,rfl,w,_,rfl,rfl,q3 _ ⟨(q1.rl.set r1).set r2,q1.fr⟩ ⟨by simp,fun m hm=>by rw[fc (by omega),fc (by omega)]⟩⟩
theorem XH{n:Nat}{tg:Expr}(h:WE Z ρ O e fun t O'=>∃ρ',WG Z n ρ O' tg t ρ'∧Ψ.nx ρ' O')(hs:nF [tg] e pos.line Z.X.env=pure false:=by rfl)(hw:nG [tg] e Z.X.env=pure none:=by rfl)
  (h1:(iR [tg] Z.X.env).map (·.2)=[assign tg Z.X.env]:=by rfl):WS Z ρ O (.Assign [tg] e pos) Ψ:=
 PS.weak (Pv h (ZY (n:=n)) hs hw h1) fun D σ H q=> ⟨q.1,fun v H' t O' ⟨ρ',wg,p⟩ f r=> ⟨ρ,O',t,ρ',wg,q.1.step f,r,fun σ' a _=>q.2.nx _ O' _ H' p a f.kp⟩⟩
theorem EL{o ix:Expr}{px:Pos}(h:WE Z ρ O e fun t O1=>WE Z ρ O1 o fun u O2=>∃a,u=.raw (.ref a)∧WE Z ρ O2 ix fun w O3=>∃ts k m,w=.int k∧O3 a=some ts∧Os ts.length k=some m∧Ψ.nx ρ (AZ O3 a (ts.set m t)))
  (ha:∀v,assign (.Subscript o ix px) Z.X.env v=(do
   let ov←holding [v] (eval o Z.X.env)
   let iv←holding [v,ov] (eval ix Z.X.env)
   standAt px
   holding [v,ov,iv] (setItem ov iv v)
   release [v,ov,iv] []):=by intro _;rfl)
  (hs:nF [.Subscript o ix px] e pos.line Z.X.env=pure false:=by rfl) (hw:nG [.Subscript o ix px] e Z.X.env=pure none:=by rfl)
  (h1:(iR [.Subscript o ix px] Z.X.env).map (·.2)=[assign (.Subscript o ix px) Z.X.env]:=by rfl):WS Z ρ O (.Assign [.Subscript o ix px] e pos) Ψ:=by
 refine PS.weak (Pv h (Vx (BM (ρ:=ρ)) (BM (ρ:=ρ)) QI ha) hs hw h1) fun D σ H q=> ⟨q.1,fun v H1 t O1 p1 f1 r1=>?_⟩
 refine⟨O1,_,p1,q.1.step f1,?_⟩
 rintro vo H2 _ O2 ⟨a,rfl,p2⟩ f2 r2
 refine⟨O2,_,p2,q.1.step (f1.trans f2),?_⟩
 rintro vi H3 _ O3 ⟨ts,k,m,rfl,ho,hm,p3⟩ f3 r3
 cases r2.raw_inv
 obtain⟨xs,hx,rx⟩:=f3.ok a ts ho
 have r1':=(r1.kp f2.kp f1.ok).kp f3.kp f2.ok
 have f:=f1.trans (f2.trans (f3.trans (Frm.put f3.ok ho (rx.set r1' m))))
 exact⟨a,xs,k,m,rfl,r3.int_inv,hx,by rw[rx.length];exact hm,q.2.nx ρ _ σ _ p3 (q.1.step f) f.kp⟩
def Mk(K:a8)(J:It)(O:AI)(H:Hp)(ts:List T):Prop:=∀O' H',Kp O H O' H'→OwnOk K O' H'→
 (∀i,i<ts.length→J.go i H')∧(∀i x H'',J.yld i H' x H''→∀t,ts[i]?=some t→Frm K O' H' O' H''∧Rep K O' H'' x t)∧∀i,ts.length≤i→J.stop i H'
def WI(Z:Zx)(ρ:List (Option T))(O:AI)(tg iter:Expr)(Φ:Mf):Prop:=PI Z.X tg iter fun σ H R=>Asr Z ρ O σ H∧∀J H' ts O',Φ ts O'→Frm Z.K O H O' H'→Mk Z.K J O' H' ts→R J H'
theorem PI.weak{X:Cx}{tg e:Expr}{t t':TI}(h:PI X tg e t)(w:∀σ H R,t' σ H R→t σ H R):PI X tg e t':=fun pins s σ H R I q=>h pins s σ H R I (w σ H R q)
theorem PN{K:a8}{a:Addr}{xs:List V}(ok:OwnOk K O H)(h:H a=some (.lst xs))(n:O a=none)(r:Reps K O H xs ts):Mk K (bJ K a) O H ts:=fun O' H' k ok'=>by
 have h':=(k.lst h n).1
 have r':=r.kp k ok
 refine⟨fun i hi=>?_,fun i x H'' y t e=>?_,fun i hi=> ⟨xs,.inl (.inl h'),by rw[r.length];exact hi⟩⟩
 ·obtain⟨v,e,_⟩:=r'.get (i:=i) (t:=ts[i]) (by simp[hi])
  exact⟨xs,v,.inl (.inl h'),e⟩
 ·obtain⟨rfl,y⟩:=y
  obtain⟨v,e',q⟩:=r'.get e
  have:=y xs (.inl (.inl h'))
  rw[e'] at this;cases this
  exact⟨.refl ok',q⟩
theorem Qw{K:a8}{a:Addr}{xs:List V}(ok:OwnOk K O H)(h:H a=some (.tup xs))(r:Reps K O H xs ts):Mk K (bK K a) O H ts:=fun O' H' k ok'=>by
 have h':DV K H' a xs:=.inl (.inl (k.oth ok h fun _ z=>by cases z))
 have r':=r.kp k ok
 refine⟨fun i hi=>?_,fun i x H'' y t e=>?_,fun i hi=> ⟨xs,h',by rw[r.length];exact hi⟩⟩
 ·obtain⟨v,e,_⟩:=r'.get (i:=i) (t:=ts[i]) (by simp[hi])
  exact⟨xs,v,h',e⟩
 ·obtain⟨rfl,y⟩:=y
  obtain⟨v,e',q⟩:=r'.get e
  have:=y xs h'
  rw[e'] at this;cases this
  exact⟨.refl ok',q⟩
def Js(lo:Int)(n:Nat):List T:=(eW n).map fun(i:Nat)=>T.int (lo+i)
theorem AY{lo:Int}{n:Nat}:(Js lo n).length=n:=by simp[Js]
theorem Ak{lo:Int}{n i:Nat}(h:(Js lo n)[i]?=some t):i<n∧t=.int (lo+i):=by
 unfold Js at h
 rw[c9] at h
 by_cases hi:i<n
 ·rw[j7 hi] at h
  cases h
  exact⟨hi,rfl⟩
 ·rw[iA (by simpa using hi)] at h
  cases h
theorem LU{K:a8}{lo:Int}{n:Nat}:Mk K (Yi lo n) O H (Js lo n):=fun O' H' k ok'=>by
 refine⟨fun i hi=>by rwa[AY] at hi,fun i x H'' y t e=>?_,fun i hi=>by rwa[AY] at hi⟩
 obtain⟨rfl,rfl⟩:=y
 obtain⟨_,rfl⟩:=Ak e
 exact⟨.refl ok',.int _⟩
theorem Nh{tg:Expr}{Φ:Mf}(h:WE Z ρ O e fun t O'=>∃ts,t=.lst ts∧Φ ts O'):WI Z ρ O tg e Φ:=PI.weak (Sv h) fun σ H R q=> ⟨q.1,by
 rintro v H' _ O' ⟨ts,rfl,p⟩ f r
 obtain⟨a,xs,rfl,h1,n,r⟩:=r.lst_inv
 exact⟨a,rfl,⟨xs,.inl (.inl h1)⟩,q.2 _ H' ts O' p f (PN f.ok h1 n r)⟩⟩
theorem XI{tg:Expr}{Φ:Mf}(h:WE Z ρ O e fun t O'=>∃ts,t=.tup ts∧Φ ts O'):WI Z ρ O tg e Φ:=PI.weak (WD h) fun σ H R q=> ⟨q.1,by
 rintro v H' _ O' ⟨ts,rfl,p⟩ f r
 obtain⟨a,xs,rfl,h1,r⟩:=r.tup_inv
 exact⟨a,rfl,⟨xs,.inl (.inl h1)⟩,q.2 _ H' ts O' p f (Qw f.ok h1 r)⟩⟩
theorem Iu{tg:Expr}{Φ:Mf}(hm:Z.X.mg "range" =none)(h:WA Z ρ O [a] fun ts O'=>∃j:Int,ts=[.int j]∧-(2^62)≤j∧j<2^62∧Φ (Js 0 j.toNat) O')(hg:Gl Z.X "range":=by rfl)(hs:du [a] Z.X.env=[(false,eval a Z.X.env)]:=by rfl):WI Z ρ O tg (.Call (.Name "range" p) [a] [] pos) Φ:=
 PI.weak (Og hg hm h hs) fun σ H R q=> ⟨q.1,by
  rintro vs H' _ O' ⟨j,rfl,h1,h2,p⟩ f r
  obtain⟨v,rfl,r'⟩:=r.one_inv
  exact⟨j,by rw[r'.int_inv],h1,h2,q.2 _ H' _ O' p f LU⟩⟩
theorem PP{tg:Expr}{Φ:Mf}(hm:Z.X.mg "range" =none)(h:WA Z ρ O [a,b] fun ts O'=>∃i j:Int,ts=[.int i,.int j]∧(-(2^62)≤i∧i<2^62∧-(2^62)≤j∧j<2^62)∧Φ (Js i (j-i).toNat) O')(hg:Gl Z.X "range":=by rfl)(hs:du [a,b] Z.X.env=[(false,eval a Z.X.env),(false,eval b Z.X.env)]:=by rfl)(hs2:du [b] Z.X.env=[(false,eval b Z.X.env)]:=by rfl):WI Z ρ O tg (.Call (.Name "range" p) [a,b] [] pos) Φ:=
 PI.weak (Oh hg hm h hs hs2) fun σ H R q=> ⟨q.1,by
  rintro vs H' _ O' ⟨i,j,rfl,h1,p⟩ f r
  obtain⟨v,w,rfl,r1,r2⟩:=r.two_inv
  exact⟨i,j,by rw[r1.int_inv,r2.int_inv],h1,q.2 _ H' _ O' p f LU⟩⟩
def EI(Z:Zx)(ρ:List (Option T))(O:AI)(tg iter:Expr)(ts:List T):Prop:=∀Φ:Mf,Φ ts O→WI Z ρ O tg iter Φ
theorem Am{tg:Expr}(h:ET Z ρ O e (.lst ts)):EI Z ρ O tg e ts:=fun Φ p=>Nh (h _ ⟨ts,rfl,p⟩)
theorem EM{tg:Expr}(h:ET Z ρ O e (.tup ts)):EI Z ρ O tg e ts:=fun Φ p=>XI (h _ ⟨ts,rfl,p⟩)
theorem Ah{tg:Expr}{k:Int}(hm:Z.X.mg "range" =none)(h:ET Z ρ O a (.int k))(h1: -(2^62)≤k∧k<2^62)(hg:Gl Z.X "range":=by rfl)(hs:du [a] Z.X.env=[(false,eval a Z.X.env)]:=by rfl):EI Z ρ O tg (.Call (.Name "range" p) [a] [] pos) (Js 0 k.toNat):=fun Φ q=>Iu hm (AJ h AC hs _ ⟨k,rfl,h1.1,h1.2,q⟩) hg hs
theorem CC{tg:Expr}{k l:Int}(hm:Z.X.mg "range" =none)(h:ET Z ρ O a (.int k))(h2:ET Z ρ O b (.int l))(h1: -(2^62)≤k∧k<2^62∧-(2^62)≤l∧l<2^62)(hg:Gl Z.X "range":=by rfl)(hs:du [a,b] Z.X.env=[(false,eval a Z.X.env),(false,eval b Z.X.env)]:=by rfl)(hs2:du [b] Z.X.env=[(false,eval b Z.X.env)]:=by rfl):EI Z ρ O tg (.Call (.Name "range" p) [a,b] [] pos) (Js k (l-k).toNat):=
 fun Φ q=>PP hm (AJ h (AJ h2 AC hs2) (by rw[hs,hs2]) _ ⟨k,l,rfl,h1,q⟩) hg hs hs2
theorem As{tg iter:Expr}{body:List Stmt}(hp:lI (model Z.X.prog Z.X.w) Z.X.A Z.X.env Z.X.xe)(hc:Z.X.calm=true)
  (h:WI Z ρ O tg iter fun ts O1=>∃I:Nat→Fy,I 0 ρ O1∧(∀i t ρ' O',ts[i]?=some t→I i ρ' O'→∃ρ2,WG Z Z.X.N.length ρ' O' tg t ρ2∧Eo Z ρ2 O' body {nx:=I (i+1),rt:=Ψ.rt,bk:=Ψ.nx,ct:=I (i+1)})∧∀ρ' O',I ts.length ρ' O'→Ψ.nx ρ' O')
  (hs:∀x,gY iter Z.X.env x=pure x:=by intro _;rfl):WS Z ρ O (.For tg iter body [] pos) Ψ:=by
 refine PS.weak (WH hp hc h (ZY (n:=Z.X.N.length)) LS hs) fun D σ H q=> ⟨q.1,?_⟩
 rintro J H1 ts O1 ⟨I,i0,step,fin⟩ f1 it
 refine⟨fun i m σ' H'=>m=ts.length-i∧i≤ts.length∧∃ρ' O',I i ρ' O'∧Asr Z ρ' O' σ' H'∧Kp O1 H1 O' H',⟨ts.length,by simp,fB _,ρ,O1,i0,q.1.step f1,.refl⟩,?_⟩
 rintro i m σ2 H2 ⟨rfl,hi,ρ2,O2,i2,a2,k2⟩
 obtain⟨g1,g2,g3⟩:=it O2 H2 k2 a2.ok
 by_cases hlt:i<ts.length
 ·refine .inr ⟨g1 i hlt,fun σ' H'=>∃ρ' O',I (i+1) ρ' O'∧Asr Z ρ' O' σ' H'∧Kp O1 H1 O' H',fun σ' H' w=> ⟨_,by omega,rfl,by omega,w⟩,fun x H3 y=>?_⟩
  obtain⟨f3,r3⟩:=g2 i x H3 y ts[i] (by simp[hlt])
  obtain⟨ρ3,wg,wb⟩:=step i ts[i] ρ2 O2 (by simp[hlt]) i2
  refine⟨ρ2,O2,_,ρ3,wg,a2.step f3,r3,fun σ3 a3 _=> ⟨ρ3,O2,_,wb,a3,?_⟩⟩
  have kk:=(k2.trans f3.kp)
  exact⟨fun ρ' O' σ' H' w a k=> ⟨ρ',O',w,a,kk.trans k⟩,q.2.rt,fun ρ' O' σ' H' w a k=>q.2.nx ρ' O' σ' H' w a (f1.kp.trans (kk.trans k)),fun ρ' O' σ' H' w a k=> ⟨ρ',O',w,a,kk.trans k⟩⟩
 ·have:i=ts.length:=by omega
  subst this
  exact .inl ⟨g3 _ (dv _),q.2.nx ρ2 O2 σ2 H2 (fin ρ2 O2 i2) a2 (f1.kp.trans k2)⟩
end
def zc(X:Cx)(Oe:AI)(He:Hp):Zx:=⟨X,Oe,He,fun _ _=>False⟩
def IL(nc:List Str)(ρ:List (Option T))(cap:List (Str×Nat)):List (Option T):=eE nc.length none++cap.map fun q=> (ρ[q.2]?).join
def aj(Z:Zx)(ρ:List (Option T))(O:AI)(ifs:List Expr)(Φ:LP):Prop:=Wg Z.X ifs (YT Z ρ O Φ)
theorem Az{O:AI}{p:Addr}{ts:List T}(h:O p=none):CW (AZ O p ts) p=O:=by
 funext b
 by_cases hb:b=p
 ·rw[hb,DI,h]
 ·rw[Dc hb,AQ hb]
theorem BK{O:AI}{p a:Addr}{ts us:List T}(h:a≠p):AZ (AZ O p ts) a us=AZ (AZ O a us) p ts:=by
 funext b
 unfold AZ
 by_cases h1:b=a
 ·subst h1;rw[if_pos rfl,if_neg h,if_pos rfl]
 ·rw[if_neg h1,if_neg h1]
section
variable{Z:Zx}{ρ:List (Option T)}{O:AI}{elt tg iter:Expr}{ifs:List Expr}{csc:Scope}{nc:List Str}{cap:List (Str×Nat)}{Φ:BW}{pos:Pos}
theorem Cb{Φ:LP}(h:Φ true O):aj Z ρ O [] Φ:=fun pins s σ H Q I q=>TU pins s σ H Q I (q.2 true H O h q.1.refl)
theorem Jt{Φ:LP}{c:Expr}(h:WT Z ρ O c Φ):aj Z ρ O [c] Φ:=TV h
theorem ZZ{K:a8}{H:Hp}{σ:St}(r:Rl K O H σ ρ):Rl K O H (II nc σ cap) (IL nc ρ cap):=by
 refine⟨by simp[CV,IL],fun i t e=>?_⟩
 unfold IL at e
 have hi:nc.length≤i:=by
  by_cases hi:i<nc.length
  ·rw[fq (by simpa using hi),gG] at e
   split at e<;>cases e
  ·omega
 rw[e8 (by simpa using hi),c9] at e
 simp only[gr] at e
 cases hc:cap[i-nc.length]? with
 |none=>rw[hc] at e;cases e
 |some q=>
  rw[hc] at e
  have e:(ρ[q.2]?).join=some t:=gc.inj e
  have e':ρ[q.2]?=some (some t):=by
   cases h:ρ[q.2]? with
   |none=>rw[h] at e;cases e
   |some w=>rw[h] at e;exact congrArg some e
  obtain⟨v,h1,h2⟩:=r.2 q.2 t e'
  refine⟨v,?_,h2⟩
  show(eE nc.length (none:Option V)++CV σ cap)[i]?=some (some v)
  rw[e8 (by simpa using hi)]
  simp only[gr]
  unfold CV
  rw[c9,hc]
  show some (σ[q.2]?).join=_
  rw[h1]
  rfl
theorem Ju{X X':Cx}{Oe:AI}{He:Hp}{Xi Xi':Value→AI→Prop}{σ:St}{H:Hp}(hK:X'.K=X.K)(a:Asr ⟨X,Oe,He,Xi⟩ ρ O σ H):Asr ⟨X',Oe,He,Xi'⟩ ρ O σ H:=by
 obtain⟨r,f⟩:=a
 refine⟨?_,?_⟩
 ·show Rl X'.K O H σ ρ
  rw[hK];exact r
 ·show Frm X'.K Oe He O H
  rw[hK];exact f
def gA(Z:Zx)(csc:Scope)(nc:List Str)(cap:List (Str×Nat))(tg:Expr):TG:=fun v σ H Q=>∃Oe He ρ O t ρ',(∀X',LcCx Z.X csc (Ai nc cap) X'→WG (zc X' Oe He) nc.length ρ O tg t ρ')∧tG (zc Z.X Oe He) nc.length ρ O t ρ' v σ H Q
def bf(Z:Zx)(csc:Scope)(nc:List Str)(cap:List (Str×Nat))(ifs:List Expr):TT:=fun σ H Q=>∃Oe He ρ O Φ,(∀X',LcCx Z.X csc (Ai nc cap) X'→aj (zc X' Oe He) ρ O ifs Φ)∧YT (zc Z.X Oe He) ρ O Φ σ H Q
def eA(Z:Zx)(csc:Scope)(nc:List Str)(cap:List (Str×Nat))(e:Expr):TE:=fun σ H Q=>∃Oe He ρ O Φ,(∀X',LcCx Z.X csc (Ai nc cap) X'→WE (zc X' Oe He) ρ O e Φ)∧tW (zc Z.X Oe He) ρ O Φ σ H Q
theorem XJ{X X':Cx}{N':List Str}(h:LcCx X csc N' X'):X'.K=X.K:=by
 obtain⟨_,_,_,_,rfl⟩:=h
 rfl
theorem XM:∀X',LcCx Z.X csc (Ai nc cap) X'→PG X' tg (gA Z csc nc cap tg):=by
 rintro X' is pins s σ H v u Q I r ⟨Oe,He,ρ,O,t,ρ',w,a,rp,k⟩
 refine w X' is pins s σ H v u Q I r ⟨Ju (XJ is) a,?_,fun σ' a' h=>k σ' (Ju (XJ is).symm a') h⟩
 show Rep X'.K O H v t
 rw[XJ is];exact rp
theorem Qx:∀X',LcCx Z.X csc (Ai nc cap) X'→Wg X' ifs (bf Z csc nc cap ifs):=by
 rintro X' is pins s σ H Q I ⟨Oe,He,ρ,O,Φ,w,a,k⟩
 refine w X' is pins s σ H Q I ⟨Ju (XJ is) a,?_⟩
 intro b H' O' p f
 refine k b H' O' p ?_
 have f:Frm X'.K O H O' H':=f
 rw[XJ is] at f;exact f
theorem XN:∀X',LcCx Z.X csc (Ai nc cap) X'→PE X' elt (eA Z csc nc cap elt):=by
 rintro X' is pins s σ H Q I ⟨Oe,He,ρ,O,Φ,w,a,k⟩
 refine w X' is pins s σ H Q I ⟨Ju (XJ is) a,?_⟩
 intro v H' t O' p f r
 have f:Frm X'.K O H O' H':=f
 have r:Rep X'.K O' H' v t:=r
 rw[XJ is] at f r
 exact k v H' t O' p f r
def Tv(Z:Zx)(ρ:List (Option T))(elt tg:Expr)(ifs:List Expr)(csc:Scope)(nc:List Str)(cap:List (Str×Nat))(F:List T→AI→Prop)(ts:List T)(O1:AI):Prop:=
 ∃I:Nat→List T→AI→Prop,I 0 [] O1∧(∀i t acc O' p,ts[i]?=some t→I i acc O'→O' p=none→∃ρ4,∀X' Oe He,LcCx Z.X csc (Ai nc cap) X'→WG (zc X' Oe He) nc.length (IL nc ρ cap) (AZ O' p acc) tg t ρ4∧
   aj (zc X' Oe He) ρ4 (AZ O' p acc) ifs fun b O2=>if b=true then∀X' Oe He,LcCx Z.X csc (Ai nc cap) X'→WE (zc X' Oe He) ρ4 O2 elt fun y O3=>∃O4,O3=AZ O4 p acc∧O4 p=none∧acc.length<sizeLine∧I (i+1) (acc++[y]) O4
    else∃O4,O2=AZ O4 p acc∧O4 p=none∧I (i+1) acc O4)∧∀acc O',I ts.length acc O'→F acc O'
theorem Qy{F:List T→AI→Prop}{σ:St}{H:Hp}{Q:VK}(a:Asr Z ρ O σ H)(h:WI Z ρ O tg iter (Tv Z ρ elt tg ifs csc nc cap F))
  (fin:∀acc O' p H',F acc O'→O' p=none→Frm Z.K O H (AZ O' p acc) H'→(∀b us,O b=some us→b≠p)→Q (.ref p) H'):
  ah (fun σ H R=>Asr Z ρ O σ H∧∀J H' ts O',Tv Z ρ elt tg ifs csc nc cap F ts O'→Frm Z.K O H O' H'→Mk Z.K J O' H' ts→R J H') nc cap (gA Z csc nc cap tg) (bf Z csc nc cap ifs) (eA Z csc nc cap elt) σ H Q:=by
 refine⟨a,?_⟩
 rintro J H1 ts O1 ⟨I,i0,step,done⟩ f1 it p hp
 have np:O1 p=none:=f1.ok.none_of hp
 have nb:∀b us,O1 b=some us→b≠p:=fun b us e z=>by rw[z,np] at e;cases e
 have fn:=Frm.newO (ts:=[]) (xs:=[]) f1.ok hp .nil
 refine⟨fun i m H2=>m=ts.length-i∧i≤ts.length∧∃acc O',I i acc O'∧O' p=none∧Frm Z.K O1 H1 (AZ O' p acc) H2,⟨ts.length,by simp,fB _,[],O1,i0,np,fn⟩,?_⟩
 rintro i m H2 ⟨rfl,hi,acc,O2,i2,n2,f2⟩
 obtain⟨g1,g2,g3⟩:=it _ H2 f2.kp f2.ok
 by_cases hlt:i<ts.length
 ·refine .inr ⟨g1 i hlt,fun H'=>∃acc O',I (i+1) acc O'∧O' p=none∧Frm Z.K O1 H1 (AZ O' p acc) H',fun H' w=> ⟨_,by omega,rfl,by omega,w⟩,fun x H3 y=>?_⟩
  obtain⟨f3,r3⟩:=g2 i x H3 y ts[i] (by simp[hlt])
  obtain⟨ρ4,st⟩:=step i ts[i] acc O2 p (by simp[hlt]) i2 n2
  have a3:Asr (zc Z.X (AZ O2 p acc) H3) (IL nc ρ cap) (AZ O2 p acc) (II nc σ cap) H3:=⟨ZZ ((a.rl.kp f1.kp a.ok).kp (f2.kp.trans f3.kp) f1.ok),.refl f3.ok⟩
  refine⟨AZ O2 p acc,H3,IL nc ρ cap,AZ O2 p acc,ts[i],ρ4,fun X' is=> (st X' _ _ is).1,a3,r3,fun σ4 a4 hag=> ⟨?_,?_⟩⟩
  ·refine⟨σ4.take nc.length,?_,?_⟩
   ·rw[fk,hag.1]
    simp
   ·have e1:σ4.drop nc.length=CV σ cap:=by
     apply gI
     intro m
     rw[iE,hag.2 _ (by omega)]
     show(eE nc.length (none:Option V)++CV σ cap)[nc.length+m]?=_
     rw[e8 (by simp)]
     simp
    rw[←e1,gW]
  ·refine⟨AZ O2 p acc,H3,ρ4,AZ O2 p acc,_,fun X' is=> (st X' _ _ is).2,a4,?_⟩
   intro b H5 O5 q5 f5
   cases b with
   |false=>
    rw[if_neg eC] at q5 ⊢
    obtain⟨O4,rfl,n4,i4⟩:=q5
    exact⟨acc,O4,i4,n4,f2.trans (f3.trans f5)⟩
   |true=>
    rw[if_pos rfl] at q5 ⊢
    refine⟨AZ O2 p acc,H3,ρ4,O5,_,fun X' is=>q5 X' _ _ is,a4.step f5,?_⟩
    rintro y H6 t6 O6 ⟨O4,rfl,n4,hlen,i4⟩ f6 r6
    obtain⟨ys,hys,rys⟩:=f6.ok p acc AF
    refine⟨ys,hys,by rw[rys.length];exact hlen,acc++[t6],O4,i4,n4,?_⟩
    have fp:=Frm.put (a:=p) f6.ok AF (rys.append (.one r6))
    rw[BE] at fp
    exact f2.trans (f3.trans (f5.trans (f6.trans fp)))
 ·have:i=ts.length:=by omega
  subst this
  refine .inl ⟨g3 _ (dv _),fin acc O2 p H2 (done acc O2 i2) n2 (f1.trans f2) fun b us e=>?_⟩
  obtain⟨us',e'⟩:=f1.own b us e
  exact nb b us' e'
theorem VN{σ:St}{H:Hp}{Q:VK}(h:WI Z ρ O tg iter (Tv Z ρ elt tg ifs csc nc cap fun acc O'=>Φ (.lst acc) O'))(q:tW Z ρ O Φ σ H Q):
  ah (fun σ H R=>Asr Z ρ O σ H∧∀J H' ts O',Tv Z ρ elt tg ifs csc nc cap (fun acc O'=>Φ (.lst acc) O') ts O'→Frm Z.K O H O' H'→Mk Z.K J O' H' ts→R J H') nc cap (gA Z csc nc cap tg) (bf Z csc nc cap ifs) (eA Z csc nc cap elt) σ H Q:=by
 refine Qy q.1 h fun acc O' p H' p1 n f nb=>q.2 _ H' _ O' p1 ?_ ?_
 ·have e:=Az (ts:=acc) n
  refine⟨fun b o e1 e2=>?_,fun b us e1=>?_,?_⟩
  ·have:=f.kp.trans (CY (a:=p)) b o e1 e2
   rw[e] at this;exact this
  ·obtain⟨us',e2⟩:=f.own b us e1
   rw[AQ (nb b us e1)] at e2
   exact⟨us',e2⟩
  ·have:=f.ok.drop (a:=p)
   rw[e] at this;exact this
 ·have:=f.ok.rep (a:=p) AF
  rw[Az n] at this
  exact this
theorem Fz(hc:Z.X.calm=true)(ok:LcOk Z.X csc nc cap)(h:WI Z ρ O tg iter (Tv Z ρ elt tg ifs csc nc cap fun acc O'=>Φ (.lst acc) O'))
  (hs:∀x,gY iter Z.X.env x=pure x:=by intro _;rfl):WE Z ρ O (.ListComp elt [⟨tg,iter,ifs,0⟩] csc pos) Φ:=
 PE.weak (ZG hc ok h XM Qx XN hs) fun σ H Q q=>VN h q
theorem LV{i:Nat}{x:Str}{px spos:Pos}{Ψ:Es}(hsw:kQ (.ListComp elt [⟨tg,iter,ifs,0⟩] csc pos) (some (.Name x px)) spos.line Z.X.env=pure true)(hN:Z.X.N.Nodup)(hc:Z.X.calm=true)(ok:LcOk Z.X csc nc cap)
  (h:WI Z ρ O tg iter (Tv Z ρ elt tg ifs csc nc cap fun acc O'=>Ψ.nx (ρ.set i (some (.lst acc))) O')) (hx:Z.X.N[i]?=some x:=by rfl) (hk:Z.X.env.scope.names.lookup x=some .local:=by rfl)
  (hs:∀x,gY iter Z.X.env x=pure x:=by intro _;rfl):WS Z ρ O (.Assign [.Name x px] (.ListComp elt [⟨tg,iter,ifs,0⟩] csc pos) spos) Ψ:=
 PS.weak (Ks hN hx hk hsw hc ok h XM Qx XN hs) fun D σ H q=>VN (Φ:=fun t O'=>Ψ.nx (ρ.set i (some t)) O') h ⟨q.1,fun v H' t O' p f r=>q.2.nx _ O' _ H' p ⟨(q.1.step f).rl.set r,(q.1.step f).fr⟩ f.kp⟩
end
def bg:T→String
 | .non=> "NoneType" | .bl _=> "bool" | .int _=> "int" | .str _=> "str" | .tup _=> "tuple" | .lst _=> "list" | .frz _=> "list" | .dct=> "dict" | .raw _=> "object"
def BD:T→Bool
 | .raw _=>true
 |_=>false
def Qz:T→Bool
 | .int _=>true
 | .bl _=>true
 |_=>false
def Jv:T→Bool
 | .bl _=>true
 |_=>false
def HU:T→Bool
 | .tup _=>true
 |_=>false
def PQ(K:a8)(c:String)(g:T→Bool):Prop:=∀t,BD t=false→fe K (.type (bg t)) (.type c)=some (g t)
section
variable{K:a8}{O:AI}{H:Hp}{v:V}{t:T}
theorem Rep.ty(r:Rep K O H v t)(hp:BD t=false):TyOf K H v (.type (bg t)):=by
 cases r with
 |non=>exact .non
 |bl b=>exact .bl b
 |int i=>exact .int i
 |str i=>exact .str i
 |tup h=>exact .tup h
 |lst h=>exact .lst h
 |frz h=>exact .frz h
 |dct h=>exact .dK h
 |raw v=>cases hp
theorem dD(K:a8):fe K (.type "NoneType") (.type "int")=some false:=by kernel_rfl
theorem dE(K:a8):fe K (.type "bool") (.type "int")=some true:=by kernel_rfl
theorem dF(K:a8):fe K (.type "int") (.type "int")=some true:=by rfl
theorem dG(K:a8):fe K (.type "str") (.type "int")=some false:=by kernel_rfl
theorem dH(K:a8):fe K (.type "tuple") (.type "int")=some false:=by kernel_rfl
theorem cR(K:a8):fe K (.type "list") (.type "int")=some false:=by kernel_rfl
theorem dI(K:a8):fe K (.type "dict") (.type "int")=some false:=by kernel_rfl
theorem Ni:PQ K "int" Qz:=fun t h=>by
 cases t with
 |non=>exact dD K
 |bl b=>exact dE K
 |int i=>exact dF K
 |str i=>exact dG K
 |tup i=>exact dH K
 |lst i=>exact cR K
 |frz i=>exact cR K
 |dct=>exact dI K
 |raw v=>cases h
theorem dJ(K:a8):fe K (.type "NoneType") (.type "bool")=some false:=by kernel_rfl
theorem dM(K:a8):fe K (.type "bool") (.type "bool")=some true:=by rfl
theorem dN(K:a8):fe K (.type "int") (.type "bool")=some false:=by kernel_rfl
theorem dO(K:a8):fe K (.type "str") (.type "bool")=some false:=by kernel_rfl
theorem dP(K:a8):fe K (.type "tuple") (.type "bool")=some false:=by kernel_rfl
theorem cS(K:a8):fe K (.type "list") (.type "bool")=some false:=by kernel_rfl
theorem dQ(K:a8):fe K (.type "dict") (.type "bool")=some false:=by kernel_rfl
theorem HV:PQ K "bool" Jv:=fun t h=>by
 cases t with
 |non=>exact dJ K
 |bl b=>exact dM K
 |int i=>exact dN K
 |str i=>exact dO K
 |tup i=>exact dP K
 |lst i=>exact cS K
 |frz i=>exact cS K
 |dct=>exact dQ K
 |raw v=>cases h
theorem dR(K:a8):fe K (.type "NoneType") (.type "tuple")=some false:=by kernel_rfl
theorem dS(K:a8):fe K (.type "bool") (.type "tuple")=some false:=by kernel_rfl
theorem dU(K:a8):fe K (.type "int") (.type "tuple")=some false:=by kernel_rfl
theorem dW(K:a8):fe K (.type "str") (.type "tuple")=some false:=by kernel_rfl
theorem dX(K:a8):fe K (.type "tuple") (.type "tuple")=some true:=by rfl
theorem cT(K:a8):fe K (.type "list") (.type "tuple")=some false:=by kernel_rfl
theorem dY(K:a8):fe K (.type "dict") (.type "tuple")=some false:=by kernel_rfl
theorem GP:PQ K "tuple" HU:=fun t h=>by
 cases t with
 |non=>exact dR K
 |bl b=>exact dS K
 |int i=>exact dU K
 |str i=>exact dW K
 |tup i=>exact dX K
 |lst i=>exact cT K
 |frz i=>exact cT K
 |dct=>exact dY K
 |raw v=>cases h
theorem XO{c:String}{g:T→Bool}(hk:PQ K c g)(hp:BD t=false):CP K (ZH K) [t,.raw (.ty c)] O (.bl (g t)):=fun Φ p H vs Q ok r q=>by
 obtain⟨v,w,rfl,r1,r2⟩:=r.two_inv
 cases r2.raw_inv
 exact⟨v,.ty c,.type (bg t),.type c,g t,rfl,rfl,.inl (r1.ty hp),hk t hp,q _ H _ O p (.refl ok) (.bl _)⟩
theorem XQ:fw "int" =some (.type "int"):=by decide+kernel
theorem RA:fw "bool" =some (.type "bool"):=by decide+kernel
theorem Fb:fw "tuple" =some (.type "tuple"):=by decide+kernel
theorem Nj:fw "list" =some (.type "list"):=by decide+kernel
theorem Za:fw "set" =some (.type "set"):=by decide+kernel
theorem XR:fw "range" =some (.type "range"):=by decide+kernel
theorem bh:fw "isinstance" =some (.builtin "isinstance"):=by decide+kernel
theorem Zb:fw "max" =some (.builtin "max"):=by decide+kernel
theorem XS:fw "min" =some (.builtin "min"):=by decide+kernel
theorem RB:fw "len" =some (.builtin "len"):=by decide+kernel
theorem bj:fw "all" =some (.builtin "all"):=by decide+kernel
theorem Nk:fw "sorted" =some (.builtin "sorted"):=by decide+kernel
theorem Reps.bls:∀{vs:List V} {ns:List Bool},Reps K O H vs (ns.map T.bl)→vs=ns.map V.bl
 |_,[],r=>r.nil_inv
 |_,n::ns,r=>by
  obtain⟨v,vs',rfl,h,r⟩:=Reps.cons_inv r
  rw[h.bl_inv,Reps.bls r]
  rfl
end
section
variable{Z:Zx}{ρ:List (Option T)}{O:AI}{e a b c:Expr}{es:List Expr}{Φ:BW}{pos p:Pos}{t ta tb:T}{ts us:List T}{i j:Int}{x:Str}{lo hi:Expr}
theorem Ml{cn:String}{g:T→Bool}(mI:Z.X.mg "isinstance" =none)(mC:Z.X.mg x=none)(bC:fw x=some (.type cn))(hk:PQ Z.K cn g)(h:ET Z ρ O e t)(hp:BD t=false){p1:Pos}(hgi:Gl Z.X "isinstance":=by rfl)(hgc:Gl Z.X x:=by rfl)
  (hn:x≠"__name__":=by decide) (hd:(x==("__debug__" :Str))=false:=by decide)
  (he:du [e,.Name x p1] Z.X.env=(false,eval e Z.X.env)::du [.Name x p1] Z.X.env:=by rfl):ET Z ρ O (.Call (.Name "isinstance" p) [e,.Name x p1] [] pos) (.bl (g t)):=
 Ax QQ mI bh (AJ h (AJ (ZR mC bC hgc hn hd) AC) he) (XO hk hp) hgi (by decide) (by decide) he
theorem EN{cn:String}{g:T→Bool}(mI:Z.X.mg "isinstance" =none)(mC:Z.X.mg x=none)(bC:fw x=some (.type cn))(hk:PQ Z.K cn g)(h:ET Z ρ O e t)(hp:BD t=false){p1:Pos}(hgi:Gl Z.X "isinstance":=by rfl)(hgc:Gl Z.X x:=by rfl)
  (hn:x≠"__name__":=by decide) (hd:(x==("__debug__" :Str))=false:=by decide)
  (he:du [e,.Name x p1] Z.X.env=(false,eval e Z.X.env)::du [.Name x p1] Z.X.env:=by rfl):EB Z ρ O (.Call (.Name "isinstance" p) [e,.Name x p1] [] pos) (g t):=
 Qt (Ml mI mC bC hk h hp hgi hgc hn hd he)
theorem Dr(m:Z.X.mg "len" =none)(h:ET Z ρ O e (.tup ts))(hg:Gl Z.X "len":=by rfl)(he:du [e] Z.X.env=(false,eval e Z.X.env)::du [] Z.X.env:=by rfl):ET Z ρ O (.Call (.Name "len" p) [e] [] pos) (.int ts.length):=
 Ax Bx m RB (AJ h AC he) (fun Φ q H vs Q ok r k=>by
  obtain⟨v,rfl,r1⟩:=r.one_inv
  obtain⟨a,xs,rfl,h1,r1⟩:=r1.tup_inv
  refine⟨a,xs,rfl,.inr (.inl (.inl h1)),?_⟩
  rw[r1.length]
  exact k _ H _ O q (.refl ok) (.int _)) hg (by decide) (by decide) he
theorem Nl(m:Z.X.mg "len" =none)(h:ET Z ρ O e (.lst ts))(hg:Gl Z.X "len":=by rfl)(he:du [e] Z.X.env=(false,eval e Z.X.env)::du [] Z.X.env:=by rfl):ET Z ρ O (.Call (.Name "len" p) [e] [] pos) (.int ts.length):=
 Ax Bx m RB (AJ h AC he) (fun Φ q H vs Q ok r k=>by
  obtain⟨v,rfl,r1⟩:=r.one_inv
  obtain⟨a,xs,rfl,h1,_,r1⟩:=r1.lst_inv
  refine⟨a,xs,rfl,.inl (.inl (.inl h1)),?_⟩
  rw[r1.length]
  exact k _ H _ O q (.refl ok) (.int _)) hg (by decide) (by decide) he
theorem Nm{l:Addr}(m:Z.X.mg "len" =none)(h:ET Z ρ O e (.raw (.ref l)))(ho:O l=some ts)(hg:Gl Z.X "len":=by rfl)(he:du [e] Z.X.env=(false,eval e Z.X.env)::du [] Z.X.env:=by rfl):ET Z ρ O (.Call (.Name "len" p) [e] [] pos) (.int ts.length):=
 Ax Bx m RB (AJ h AC he) (fun Φ q H vs Q ok r k=>by
  obtain⟨v,rfl,r1⟩:=r.one_inv
  cases r1.raw_inv
  obtain⟨xs,h1,r1⟩:=ok l ts ho
  refine⟨l,xs,rfl,.inl (.inl (.inl h1)),?_⟩
  rw[r1.length]
  exact k _ H _ O q (.refl ok) (.int _)) hg (by decide) (by decide) he
theorem Jw{bs:List Bool}(m:Z.X.mg "all" =none)(hc:Z.X.calm=true)(h:ET Z ρ O e (.lst (bs.map T.bl)))(hg:Gl Z.X "all":=by rfl)(he:du [e] Z.X.env=(false,eval e Z.X.env)::du [] Z.X.env:=by rfl):ET Z ρ O (.Call (.Name "all" p) [e] [] pos) (.bl (bs.all id)):=
 Ax (Ql hc) m bj (AJ h AC he) (fun Φ q H vs Q ok r k=>by
  obtain⟨v,rfl,r1⟩:=r.one_inv
  obtain⟨a,xs,rfl,h1,_,r1⟩:=r1.lst_inv
  cases r1.bls
  exact⟨a,bs,rfl,.inl (.inl (.inl h1)),k _ H _ O q (.refl ok) (.bl _)⟩) hg (by decide) (by decide) he
theorem GQ(m:Z.X.mg "min" =none)(hc:Z.X.calm=true)(h:ET Z ρ O a (.int i))(h2:ET Z ρ O b (.int j))(hg:Gl Z.X "min":=by rfl)(he:du [a,b] Z.X.env=(false,eval a Z.X.env)::du [b] Z.X.env:=by rfl)(he2:du [b] Z.X.env=(false,eval b Z.X.env)::du [] Z.X.env:=by rfl)(hpl:(i7 pos (du [b] Z.X.env)).any (·.1)=false:=by rfl):ET Z ρ O (.Call (.Name "min" p) [a,b] [] pos) (.int (min i j)):=
 Ax (Ol hc) m XS (AJ h (AJ h2 AC he2) he) (fun Φ q H vs Q ok r k=>by
  obtain⟨v,w,rfl,r1,r2⟩:=r.two_inv
  cases r1.int_inv;cases r2.int_inv
  refine⟨i,j,rfl,?_⟩
  have:(if j<i then j else i)=min i j:=by split<;>omega
  rw[this]
  exact k _ H _ O q (.refl ok) (.int _)) hg (by decide) (by decide) he hpl
theorem GR(m:Z.X.mg "max" =none)(hc:Z.X.calm=true)(h:ET Z ρ O a (.int i))(h2:ET Z ρ O b (.int j))(hg:Gl Z.X "max":=by rfl)(he:du [a,b] Z.X.env=(false,eval a Z.X.env)::du [b] Z.X.env:=by rfl)(he2:du [b] Z.X.env=(false,eval b Z.X.env)::du [] Z.X.env:=by rfl)(hpl:(i7 pos (du [b] Z.X.env)).any (·.1)=false:=by rfl):ET Z ρ O (.Call (.Name "max" p) [a,b] [] pos) (.int (max i j)):=
 Ax (Oj hc) m Zb (AJ h (AJ h2 AC he2) he) (fun Φ q H vs Q ok r k=>by
  obtain⟨v,w,rfl,r1,r2⟩:=r.two_inv
  cases r1.int_inv;cases r2.int_inv
  refine⟨i,j,rfl,?_⟩
  have:(if j>i then j else i)=max i j:=by split<;>omega
  rw[this]
  exact k _ H _ O q (.refl ok) (.int _)) hg (by decide) (by decide) he hpl
theorem Tw(m:Z.X.mg "min" =none)(hc:Z.X.calm=true)(h:ET Z ρ O e (.tup [.int i,.int j]))(hg:Gl Z.X "min":=by rfl)(he:du [e] Z.X.env=(false,eval e Z.X.env)::du [] Z.X.env:=by rfl):ET Z ρ O (.Call (.Name "min" p) [e] [] pos) (.int (min i j)):=
 Ax (PK hc) m XS (AJ h AC he) (fun Φ q H vs Q ok r k=>by
  obtain⟨v,rfl,r1⟩:=r.one_inv
  obtain⟨a,xs,rfl,h1,r1⟩:=r1.tup_inv
  cases Reps.ints (ns:=[i,j]) r1
  refine⟨a,[i,j],rfl,.inr (.inl (.inl h1)),lD _,fun n ⟨h1,h2⟩=>?_⟩
  have e1:=h2 i (by simp)
  have e2:=h2 j (by simp)
  have:n=min i j:=by
   rcases eJ.mp h1 with rfl|h1
   ·omega
   ·have:=dr.mp h1
    omega
  rw[this]
  exact k _ H _ O q (.refl ok) (.int _)) hg (by decide) (by decide) he
theorem Tz(m:Z.X.mg "max" =none)(hc:Z.X.calm=true)(h:ET Z ρ O e (.tup [.int i,.int j]))(hg:Gl Z.X "max":=by rfl)(he:du [e] Z.X.env=(false,eval e Z.X.env)::du [] Z.X.env:=by rfl):ET Z ρ O (.Call (.Name "max" p) [e] [] pos) (.int (max i j)):=
 Ax (PL hc) m Zb (AJ h AC he) (fun Φ q H vs Q ok r k=>by
  obtain⟨v,rfl,r1⟩:=r.one_inv
  obtain⟨a,xs,rfl,h1,r1⟩:=r1.tup_inv
  cases Reps.ints (ns:=[i,j]) r1
  refine⟨a,[i,j],rfl,.inr (.inl (.inl h1)),lD _,fun n ⟨h1,h2⟩=>?_⟩
  have e1:=h2 i (by simp)
  have e2:=h2 j (by simp)
  have:n=max i j:=by
   rcases eJ.mp h1 with rfl|h1
   ·omega
   ·have:=dr.mp h1
    omega
  rw[this]
  exact k _ H _ O q (.refl ok) (.int _)) hg (by decide) (by decide) he
theorem UA{k:Bool}(m:Z.X.mg "int" =none)(h:ET Z ρ O e (.bl k))(hg:Gl Z.X "int":=by rfl)(he:du [e] Z.X.env=(false,eval e Z.X.env)::du [] Z.X.env:=by rfl):ET Z ρ O (.Call (.Name "int" p) [e] [] pos) (.int (if k then 1 else 0)):=
 FZ Om m XQ (AJ h AC he) (fun Φ q H vs Q ok r k=>by
  obtain⟨v,rfl,r1⟩:=r.one_inv
  cases r1.bl_inv
  exact .inr ⟨_,rfl,k _ H _ O q (.refl ok) (.int _)⟩) hg (by decide) (by decide) he
theorem CN(m:Z.X.mg "tuple" =none)(h:WE Z ρ O e fun t O'=>∃ts,t=.lst ts∧Φ (.tup ts) O')(hg:Gl Z.X "tuple":=by rfl)(he:du [e] Z.X.env=(false,eval e Z.X.env)::du [] Z.X.env:=by rfl):WE Z ρ O (.Call (.Name "tuple" p) [e] [] pos) Φ:=
 Dq Fv m Fb (Bg (Do h (by
  rintro t O' ⟨ts,rfl,q⟩
  refine Al fun H vs Q ok r k=>?_
  obtain⟨v,rfl,r1⟩:=r.one_inv
  obtain⟨a,xs,rfl,h1,_,r1⟩:=r1.lst_inv
  exact⟨a,xs,rfl,.inl (.inl h1),fun p hp=>k _ _ _ O' q (.new ok hp) (.tup AW (r1.kp (BP ok hp) ok))⟩)) he) hg (by decide) (by decide) he
theorem HW(m:Z.X.mg "tuple" =none)(h:ET Z ρ O e (.lst ts))(hg:Gl Z.X "tuple":=by rfl)(he:du [e] Z.X.env=(false,eval e Z.X.env)::du [] Z.X.env:=by rfl):ET Z ρ O (.Call (.Name "tuple" p) [e] [] pos) (.tup ts):=fun Φ q=>CN m (h _ ⟨ts,rfl,q⟩) hg he
theorem RC(m:Z.X.mg "list" =none)(h:ET Z ρ O e (.tup ts))(hg:Gl Z.X "list":=by rfl)(he:du [e] Z.X.env=(false,eval e Z.X.env)::du [] Z.X.env:=by rfl):ET Z ρ O (.Call (.Name "list" p) [e] [] pos) (.lst ts):=
 FZ EH m Nj (AJ h AC he) (fun Φ q H vs Q ok r k=>by
  obtain⟨v,rfl,r1⟩:=r.one_inv
  obtain⟨a,xs,rfl,h1,r1⟩:=r1.tup_inv
  exact⟨a,xs,rfl,.inr (.inl (.inl h1)),fun p hp=>k _ _ _ O q (.new ok hp) (.lst AW (ok.none_of hp) (r1.kp (BP ok hp) ok))⟩) hg (by decide) (by decide) he
theorem PR(m:Z.X.mg "list" =none)(h:ET Z ρ O e (.tup ts))(q:∀a,O a=none→Φ (.raw (.ref a)) (AZ O a ts))(hg:Gl Z.X "list":=by rfl)(he:du [e] Z.X.env=(false,eval e Z.X.env)::du [] Z.X.env:=by rfl):WE Z ρ O (.Call (.Name "list" p) [e] [] pos) Φ:=
 Dq EH m Nj (AJ h AC he _ (fun H vs Q ok r k=>by
  obtain⟨v,rfl,r1⟩:=r.one_inv
  obtain⟨a,xs,rfl,h1,r1⟩:=r1.tup_inv
  exact⟨a,xs,rfl,.inr (.inl (.inl h1)),fun p hp=>k _ _ _ _ (q p (ok.none_of hp)) (.newO ok hp r1) (.raw _)⟩)) hg (by decide) (by decide) he
theorem Reps.rngs{K:a8}{H:Hp}:∀(ns:List Nat),Reps K O H (ns.map fun(i:Nat)=>V.int i) (ns.map fun(i:Nat)=>T.int i)
 | []=> .nil
 |n::ns=> .cons (.int _) (Reps.rngs ns)
theorem RD{p1 p2 pos1:Pos}(m:Z.X.mg "list" =none)(m2:Z.X.mg "range" =none)(hc:Z.X.calm=true)(h:ET Z ρ O e (.int i))(h0:0≤i)(h1:i≤1000)(q:∀a,O a=none→Φ (.raw (.ref a)) (AZ O a ((eW i.toNat).map fun(i:Nat)=>T.int i)))
  (hg:Gl Z.X "list":=by rfl) (hg2:Gl Z.X "range":=by rfl) (he:du [e] Z.X.env=(false,eval e Z.X.env)::du [] Z.X.env:=by rfl) (he2:du [oQ (.Name "range" p2) [e] [] pos1] Z.X.env=(false,eval (.Call (.Name "range" p2) [e] [] pos1) Z.X.env)::du [] Z.X.env:=by rfl):WE Z ρ O (.Call (.Name "list" p) [.Call (.Name "range" p2) [e] [] pos1] [] pos) Φ:=by
 refine PE.weak (Cr (Me hc) hg m Nj (Eb (Cr LN hg2 m2 XR (Jm (ρ:=ρ)) (by decide) (by decide) he) Gm he2) (by decide) (by decide) he2) fun σ H Q k=>?_
 refine⟨O,_,AJ h AC he (fun ts O'=>ts=[.int i]∧O'=O) ⟨rfl,rfl⟩,k.1,?_⟩
 rintro vs H1 _ _ ⟨rfl,rfl⟩ f r
 obtain⟨v,rfl,r1⟩:=r.one_inv
 cases r1.int_inv
 refine⟨i,rfl,fun p hp=> ⟨p,i,rfl,AW,h0,h1,fun l hl=>?_⟩⟩
 have f1:=Frm.new (o:=.rng 0 i) f.ok hp
 exact k.2 _ _ _ _ (q l (f1.ok.none_of hl)) (f.trans (f1.trans (.newO f1.ok hl (Reps.rngs _)))) (.raw _)
end
def BL(ts:List T)(lo hi:Option Int):List T:=(ts.drop (HT.BO ts.length 0 lo)).take (HT.BO ts.length ts.length hi-HT.BO ts.length 0 lo)
section
variable{K:a8}{O:AI}{H:Hp}
theorem Reps.cut{vs:List V}{ts:List T}{lo hi:Option Int}(r:Reps K O H vs ts):Reps K O H (FO vs lo hi) (BL ts lo hi):=by
 unfold FO BL
 rw[r.length]
 exact(r.drop _).take _
end
section
variable{Z:Zx}{ρ:List (Option T)}{O:AI}{e a b c:Expr}{es:List Expr}{Φ:BW}{pos p p2:Pos}{t ta tb:T}{ts us:List T}{i j:Int}{x:Str}{lo hi:Expr}
theorem Nn{H1 H:Hp}{Q:VK}{o1 o2:Option Int}{v:V}(k:Acc Z.K O H (fun t O'=>Φ t O') Q)(f:Frm Z.K O H O H1)(r:Rep Z.K O H1 v (.tup ts))(p:Φ (.tup (BL ts o1 o2)) O):ZO Z.K v o1 o2 H1 Q:=by
 obtain⟨a,xs,rfl,h1,r1⟩:=r.tup_inv
 refine⟨a,xs,rfl,.inl (.inl h1),fun q H' hq=>?_⟩
 rcases hq with⟨rfl,rfl,e⟩| ⟨hq,rfl⟩
 ·have rc:=r1.cut (lo:=o1) (hi:=o2)
  rw[e] at rc
  exact k _ _ _ O p f (.tup h1 rc)
 ·exact k _ _ _ O p (f.trans (.new f.ok hq)) (.tup AW ((r1.cut).kp (BP f.ok hq) f.ok))
theorem HX(h:ET Z ρ O e (.tup ts))(hl:ET Z ρ O lo (.int i)):ET Z ρ O (.Subscript e (.Slice (some lo) none none p2) pos) (.tup (BL ts (some i) none)):=fun Φ q=>by
 refine PE.weak (DW Na (BM (ρ:=ρ)) (Dl (BM (ρ:=ρ))) GM) fun σ H Q k=>?_
 refine⟨O,_,h (fun t O'=>t=.tup ts∧O'=O) ⟨rfl,rfl⟩,k.1,?_⟩
 rintro v H1 _ _ ⟨rfl,rfl⟩ f1 r1
 refine⟨_,_,hl (fun t O'=>t=.int i∧O'=_) ⟨rfl,rfl⟩,k.1.step f1,?_⟩
 rintro w H2 _ _ ⟨rfl,rfl⟩ f2 r2
 exact⟨i,r2.int_inv,Nn k.2 (f1.trans f2) (r1.kp f2.kp f1.ok) q⟩
theorem Fc(h:ET Z ρ O e (.tup ts))(hl:ET Z ρ O hi (.int i)):ET Z ρ O (.Subscript e (.Slice none (some hi) none p2) pos) (.tup (BL ts none (some i))):=fun Φ q=>by
 refine PE.weak (DW Na (BM (ρ:=ρ)) GM (Dl (BM (ρ:=ρ)))) fun σ H Q k=>?_
 refine⟨O,_,h (fun t O'=>t=.tup ts∧O'=O) ⟨rfl,rfl⟩,k.1,?_⟩
 rintro v H1 _ _ ⟨rfl,rfl⟩ f1 r1
 refine⟨_,_,hl (fun t O'=>t=.int i∧O'=_) ⟨rfl,rfl⟩,k.1.step f1,?_⟩
 rintro w H2 _ _ ⟨rfl,rfl⟩ f2 r2
 exact⟨i,r2.int_inv,Nn k.2 (f1.trans f2) (r1.kp f2.kp f1.ok) q⟩
theorem XT{p3 p4:Pos}(h:ET Z ρ O e (.tup ts)):ET Z ρ O (.Subscript e (.Slice none none (some (.UnaryOp .USub (.Constant (.int 1) 0 p3) p4)) p2) pos) (.tup ts.reverse):=fun Φ q=>by
 refine PE.weak (Tp (BM (ρ:=ρ))) fun σ H Q k=>?_
 refine⟨O,_,h (fun t O'=>t=.tup ts∧O'=O) ⟨rfl,rfl⟩,k.1,?_⟩
 rintro v H1 _ _ ⟨rfl,rfl⟩ f r
 obtain⟨a,xs,rfl,h1,r1⟩:=r.tup_inv
 exact⟨a,xs,rfl,.inl (.inl h1),fun l hl=>k.2 _ _ _ _ q (f.trans (.new f.ok hl)) (.tup AW (r1.rev.kp (BP f.ok hl) f.ok))⟩
theorem Bj(ha:ET Z ρ O a (.tup ts))(hb:ET Z ρ O b (.tup us))(hl:ts.length+us.length≤sizeLine):ET Z ρ O (.BinOp a .Add b pos) (.tup (ts++us)):=Fw Tq (fun Φ p H v w Q ok r1 r2 q=>by
 obtain⟨a,xs,rfl,h1,g1⟩:=r1.tup_inv
 obtain⟨b,ys,rfl,h2,g2⟩:=r2.tup_inv
 clear r1 r2
 refine⟨a,b,xs,ys,rfl,rfl,.inl (.inl h1),.inl (.inl h2),by rw[g1.length,g2.length];exact hl,fun l H' hq=>?_⟩
 rcases hq with⟨rfl,rfl,rfl⟩| ⟨rfl,rfl,rfl⟩| ⟨hq,rfl⟩
 ·have:us=[]:=jC.mp g2.length.symm
  subst this
  rw[gE] at p
  exact q _ _ _ O p (.refl ok) (.tup h1 g1)
 ·have:ts=[]:=jC.mp g1.length.symm
  subst this
  exact q _ _ _ O p (.refl ok) (.tup h2 g2)
 ·exact q _ _ _ O p (.new ok hq) (.tup AW ((g1.append g2).kp (BP ok hq) ok))) ha hb
theorem Ep(hl:ts.length+us.length≤sizeLine){K:a8}:RP K ZE (.lst ts) (.lst us) O (.lst (ts++us)):=fun Φ p H v w Q ok r1 r2 q=>by
 obtain⟨a,xs,rfl,h1,_,r1⟩:=r1.lst_inv
 obtain⟨b,ys,rfl,h2,_,r2⟩:=r2.lst_inv
 exact⟨a,b,xs,ys,rfl,rfl,h1,h2,by rw[r1.length,r2.length];exact hl,fun l hq=>q _ _ _ O p (.new ok hq) (.lst AW (ok.none_of hq) ((r1.append r2).kp (BP ok hq) ok))⟩
theorem Cc(ha:ET Z ρ O a (.lst ts))(hb:ET Z ρ O b (.lst us))(hl:ts.length+us.length≤sizeLine):ET Z ρ O (.BinOp a .Add b pos) (.lst (ts++us)):=Fw Gv (Ep hl) ha hb
theorem RE{l:Addr}(hu:Z.X.A.units<cLine)(ho:O l=some ts)(ha:ET Z ρ O a (.raw (.ref l))){p1:Pos}:EB Z ρ O (.Compare a [.NotEq] [.List [] p1] pos) (!ts.isEmpty):=BF (Qn hu) (Av _) (fun Φ p H v w Q ok r1 r2 q=>by
 cases r1.raw_inv
 obtain⟨b,ys,rfl,h2,_,r2⟩:=r2.lst_inv
 cases r2.nil_inv
 obtain⟨xs,h1,r1⟩:=ok l ts ho
 refine⟨l,b,xs,rfl,rfl,.inl (.inl h1),.inl (.inl h2),?_⟩
 rw[r1.isEmpty]
 exact q _ H _ O p (.refl ok) (.bl _)) ha (BH AC (fB _))
theorem XU:ET Z ρ O (.Dict [] [] pos) .dct:=fun Φ q pins s σ H Q I k=>
 have big:nQ<s.heap.objs.size:=lE (by decide) (show gT<s.heap.objs.size from(I.mod.glob.keeps I.bk).lt)
 have hf:H s.heap.objs.size=none:=I.hok.fresh (dv _)
 wpAny_Dict_empty ⟨.ref s.heap.objs.size,_,I.laid (a:=s.heap.objs.size) (o:=.dK []) (t':=s.toks) (fun _ _ e=>dm _ e) (dv _) ⟨fB _,beq_eq_false_iff_ne.mpr (Ne.symm (fb big)),[],.nil,Heap.DictOf.new s.heap⟩,rfl,k.2 _ _ _ O q (.new k.1.ok hf) (.dct AW)⟩
theorem Zc{n:Nat}(h0:0≤i)(h1:i<n):nA i n=some i.toNat:=by
 unfold nA
 have:¬i<0:=by omega
 simp only[if_neg this]
 rw[if_pos]
 simp
 omega
theorem LW{o:Expr}{apos cpos:Pos}(h:WE Z ρ O o fun t O1=>∃l,t=.raw (.ref l)∧(∃ts,O1 l=some ts)∧WE Z ρ O1 e fun u O2=>∃ts i y,u=.int i∧O2 l=some ts∧0≤i∧i<2^63∧i<ts.length∧ts[i.toNat]?=some y∧Φ y (AZ O2 l (ts.eraseIdx i.toNat)))
  (hbase:md o "pop" Z.X.env (eval o Z.X.env)=eval o Z.X.env:=by rfl)
  (hfew:((i7 cpos (du [e] Z.X.env)).all (fun x=>!x.1)&&(oI cpos (mZ [] Z.X.env)).all (fun x=>x.1.isSome)
   &&decide ([e].length+([]:List l7).length+(if([]:List l7).isEmpty then 0 else 1)<30))=true:=by rfl)
  (hline:(apos.endLine==cpos.line)=true:=by rfl) (hs:du [e] Z.X.env=(false,eval e Z.X.env)::du [] Z.X.env:=by rfl) (hplain:(i7 cpos (du [] Z.X.env)).any (·.1)=false:=by rfl):WE Z ρ O (.Call (.Attribute o "pop" apos) [e] [] cpos) Φ:=by
 refine VM PySem.F.plainAttrs_list PySem.F.slot_list_pop PySem.F.type_list_pop QJ (Do h ?_) hbase hfew hline hs hplain
 rintro t O1 ⟨l,rfl,⟨ts,hts⟩,w⟩
 refine⟨Nf hts,Bg (Do w ?_) hs⟩
 rintro u O2 ⟨us,i,y,rfl,h1,i0,i1,i2,hy,p⟩
 refine Al fun H v vs Q ok r1 r2 q=>?_
 cases r1.raw_inv
 obtain⟨w,rfl,r3⟩:=r2.one_inv
 cases r3.int_inv
 obtain⟨xs,hx,r⟩:=ok l us h1
 obtain⟨v,hv,rv⟩:=r.get hy
 exact⟨l,xs,i,i.toNat,v,rfl,rfl,hx,by omega,i1,by rw[r.length];exact Zc i0 i2,hv,q _ _ _ _ p (.put ok h1 (r.eraseIdx _)) (rv.kp (Jl h1) ok)⟩
def Mm(ts us:List T):List T:=List.zipWith (fun a b=> .tup [a,b]) ts us
theorem RF{K:a8}{H:Hp}{l m:Addr}{xs ys:List V}(ok:OwnOk K O H)(h1:H l=some (.tup xs))(h2:H m=some (.tup ys))(r1:Reps K O H xs ts)(r2:Reps K O H ys us):Mk K (bZ K l m) O H (Mm ts us):=fun O' H' k ok'=>by
 have g1:DV K H' l xs:=.inl (.inl (k.oth ok h1 fun _ z=>by cases z))
 have g2:DV K H' m ys:=.inl (.inl (k.oth ok h2 fun _ z=>by cases z))
 have q1:=r1.kp k ok
 have q2:=r2.kp k ok
 have hl:(Mm ts us).length=min ts.length us.length:=by simp[Mm]
 refine⟨fun i hi=>?_,fun i x H'' y t e=>?_,fun i hi=> ⟨xs,ys,g1,g2,?_⟩⟩
 ·rw[hl] at hi
  obtain⟨v,e1,_⟩:=q1.get (i:=i) (t:=ts[i]'(by omega)) (by simp)
  obtain⟨w,e2,_⟩:=q2.get (i:=i) (t:=us[i]'(by omega)) (by simp)
  exact⟨xs,ys,v,w,g1,g2,e1,e2⟩
 ·obtain⟨p,v,w,hp,rfl,rfl,a1,a2⟩:=y
  unfold Mm at e
  rw[List.getElem?_zipWith] at e
  cases et:ts[i]? with
  |none=>rw[et] at e;cases e
  |some t1=>
   cases eu:us[i]? with
   |none=>rw[et,eu] at e;cases e
   |some t2=>
    rw[et,eu] at e
    have e:T.tup [t1,t2]=t:=gc.inj e
    subst e
    obtain⟨v',e1,rv⟩:=q1.get et
    obtain⟨w',e2,rw'⟩:=q2.get eu
    have z1:=a1 xs g1
    have z2:=a2 ys g2
    rw[e1] at z1;cases z1
    rw[e2] at z2;cases z2
    exact⟨.new ok' hp,.tup AW ((Reps.cons rv (.one rw')).kp (BP ok' hp) ok')⟩
 ·rw[hl] at hi
  rw[r1.length,r2.length]
  omega
theorem XW{tes:List Expr}{tk:Nat}{tpos:Pos}(hm:Z.X.mg "zip" =none)(h1:ET Z ρ O a (.tup ts))(h2:ET Z ρ O b (.tup us))(hg:Gl Z.X "zip":=by rfl)(hs:du [a,b] Z.X.env=[(false,eval a Z.X.env),(false,eval b Z.X.env)]:=by rfl)(hs2:du [b] Z.X.env=[(false,eval b Z.X.env)]:=by rfl):EI Z ρ O (.Tuple tes tk tpos) (.Call (.Name "zip" p) [a,b] [] pos) (Mm ts us):=fun Φ q=>
 PI.weak (Wq hg hm (AJ h1 (AJ h2 AC hs2) (by rw[hs,hs2]) (fun vs O'=>vs=[.tup ts,.tup us]∧O'=O) ⟨rfl,rfl⟩) hs hs2) fun σ H R k=> ⟨k.1,by
  rintro vs H' _ _ ⟨rfl,rfl⟩ f r
  obtain⟨v,w,rfl,r1,r2⟩:=r.two_inv
  obtain⟨l,xs,rfl,g1,r1⟩:=r1.tup_inv
  obtain⟨m,ys,rfl,g2,r2⟩:=r2.tup_inv
  exact⟨l,m,rfl,⟨xs,.inl (.inl g1)⟩,⟨ys,.inl (.inl g2)⟩,k.2 _ H' _ _ q f (RF f.ok g1 g2 r1 r2)⟩⟩
end
def AG(p:Int×Int):T:=.tup [.int p.1,.int p.2]
def LX(p q:Int×Int):Prop:=p.1<q.1∨(p.1=q.1∧p.2<q.2)
section
variable{K:a8}{O:AI}{H:Hp}
theorem HY:∀{ps:List (Int×Int)} {xs:List V},Reps K O H xs (ps.map AG)→∃qs:List (List Int×Addr),xs=qs.map (fun p=>V.ref p.2)∧qs.map (·.1)=ps.map (fun p=> [p.1,p.2])∧∀k x,(k,x)∈qs→H x=some (.tup (k.map V.int))
 | [],xs,r=> ⟨[],r.nil_inv,rfl,fun _ _ h=>by cases h⟩
 |p::ps,xs,r=>by
  obtain⟨v,vs',rfl,h,r'⟩:=Reps.cons_inv r
  obtain⟨a,ys,rfl,ha,r2⟩:=h.tup_inv
  cases Reps.ints (ns:=[p.1,p.2]) r2
  obtain⟨qs,rfl,e,hk⟩:=HY r'
  refine⟨([p.1,p.2],a)::qs,rfl,by rw[eT,eT,e],fun k x h=>?_⟩
  rcases eJ.mp h with h|h
  ·cases h;exact ha
  ·exact hk k x h
theorem HZ:∀{qs:List (List Int×Addr)} {ps:List (Int×Int)},qs.map (·.1)=ps.map (fun p=> [p.1,p.2])→(∀k x,(k,x)∈qs→H x=some (.tup (k.map V.int)))→Reps K O H (qs.map fun p=>V.ref p.2) (ps.map AG)
 | [],[],_,_=> .nil
 | [],p::ps,e,_=>by cases e
 |q::qs,[],e,_=>by cases e
 | (k,x)::qs,p::ps,e,h=>by
  rw[eT,eT] at e
  injection e with e1 e2
  have e1:k=[p.1,p.2]:=e1
  have hx:=h k x (eY ..)
  rw[e1] at hx
  exact .cons (.tup hx (.cons (.int _) (.cons (.int _) .nil))) (HZ e2 fun k x hk=>h k x (eF _ hk))
end
theorem Np:∀{ys:List (List Int×Addr)},(∀k x,(k,x)∈ys→∃i j:Int,k=[i,j])→∃ps:List (Int×Int),ys.map (·.1)=ps.map (fun p=> [p.1,p.2])
 | [],_=> ⟨[],rfl⟩
 | (k,x)::ys,h=>by
  obtain⟨i,j,e⟩:=h k x (eY ..)
  obtain⟨ps,e2⟩:=Np fun k x hk=>h k x (eF _ hk)
  exact⟨(i,j)::ps,by rw[eT,eT,e,e2]⟩
section
variable{Z:Zx}{ρ:List (Option T)}{O:AI}{e:Expr}{Φ:BW}{pos p p1 pos1:Pos}
theorem Er{ps:List (Int×Int)}(m:Z.X.mg "sorted" =none)(m2:Z.X.mg "set" =none)(hc:Z.X.calm=true)(hu:Z.X.A.units+8<cLine)(h:ET Z ρ O e (.lst (ps.map AG)))(hl:ps.length≤300)(hb:∀q∈ps,0≤q.2∧q.2<65536)
  (k:∀qs:List (Int×Int),qs.Pairwise LX→(∀q,q∈qs↔q∈ps)→qs.length≤ps.length→Φ (.lst (qs.map AG)) O) (hg:Gl Z.X "sorted":=by rfl) (hg2:Gl Z.X "set":=by rfl) (he:du [e] Z.X.env=(false,eval e Z.X.env)::du [] Z.X.env:=by rfl)
  (he2:du [oQ (.Name "set" p1) [e] [] pos1] Z.X.env=(false,eval (.Call (.Name "set" p1) [e] [] pos1) Z.X.env)::du [] Z.X.env:=by rfl):WE Z ρ O (.Call (.Name "sorted" p) [.Call (.Name "set" p1) [e] [] pos1] [] pos) Φ:=by
 refine PE.weak (Ec (Ji hc) hg m Nk (Eb (Cr (PJ hc hu) hg2 m2 Za (Jm (ρ:=ρ)) (by decide) (by decide) he) Gm he2) (by decide) (by decide) he2) fun σ H Q q=>?_
 refine⟨O,_,AJ h AC he (fun ts O'=>ts=[.lst (ps.map AG)]∧O'=O) ⟨rfl,rfl⟩,q.1,?_⟩
 rintro vs H1 _ _ ⟨rfl,rfl⟩ f r
 obtain⟨v,rfl,r1⟩:=r.one_inv
 obtain⟨a,xs,rfl,h1,_,r1⟩:=r1.lst_inv
 obtain⟨qs,rfl,eq,hk⟩:=HY r1
 have lq:qs.length=ps.length:=by
  have:=congrArg List.length eq
  simpa using this
 refine⟨a,qs,rfl,.inl (.inl h1),fun k x hx=> .inl (.inl (hk k x hx)),by omega,fun l xs hl1 so nd=>?_⟩
 obtain⟨s1,s2,s3⟩:=so
 have f1:=Frm.new (o:=SetO Z.X.prog Z.X.w l xs) f.ok hl1
 have hk2:∀k x,(k,x)∈xs→upd H1 l (SetO Z.X.prog Z.X.w l xs) x=some (.tup (k.map V.int)):=fun k x hx=>by
  have:=hk k x (s1 _ hx)
  rw[AX (AU this hl1)];exact this
 have mem1:∀k x,(k,x)∈qs→∃q∈ps,k=[q.1,q.2]:=fun k x hx=>by
  have:k∈qs.map (·.1):=eQ.mpr ⟨(k,x),hx,rfl⟩
  rw[eq] at this
  obtain⟨q,h1,h2⟩:=eQ.mp this
  exact⟨q,h1,h2.symm⟩
 have two:∀k x,(k,x)∈xs→∃i j,k=[i,j]∧0≤j∧j<65536:=fun k x hx=>by
  obtain⟨q,h1,h2⟩:=mem1 k x (s1 _ hx)
  exact⟨q.1,q.2,h2,hb q h1⟩
 refine⟨l,xs,rfl,AW,fun k x hx=> .inl (.inl (hk2 k x hx)),by omega,two,fun d ys hd pm pw=>?_⟩
 obtain⟨rs,er⟩:=Np (ys:=ys) fun k x hx=>by
  obtain⟨i,j,e,_⟩:=two k x (pm.mem_iff.mp hx)
  exact⟨i,j,e⟩
 have f2:=Frm.new (o:=.lst (ys.map fun p=>V.ref p.2)) f1.ok hd
 have hk3:∀k x,(k,x)∈ys→upd (upd H1 l (SetO Z.X.prog Z.X.w l xs)) d (.lst (ys.map fun p=>V.ref p.2)) x=some (.tup (k.map V.int)):=fun k x hx=>by
  have:=hk2 k x (pm.mem_iff.mp hx)
  rw[AX (AU this hd)];exact this
 have memr:∀z,z∈rs↔∃x,([z.1,z.2],x)∈ys:=fun z=>by
  constructor
  ·intro hz
   have:[z.1,z.2]∈ys.map (·.1):=by rw[er];exact eQ.mpr ⟨z,hz,rfl⟩
   obtain⟨⟨k,x⟩,h1,h2⟩:=eQ.mp this
   have h2:k=_:=h2
   subst h2
   exact⟨x,h1⟩
  ·rintro⟨x,hx⟩
   have:[z.1,z.2]∈ys.map (·.1):=eQ.mpr ⟨_,hx,rfl⟩
   rw[er] at this
   obtain⟨w,h1,h2⟩:=eQ.mp this
   injection h2 with e1 e2
   injection e2 with e2 _
   have:w=z:=jB e1 e2
   rw[←this];exact h1
 have ndy:(ys.map (·.1)).Nodup:=(pm.map _).nodup_iff.mpr nd
 refine q.2 _ _ _ _ (k rs ?_ (fun z=>?_) ?_) (f.trans (f1.trans f2)) (.lst AW (f1.ok.none_of hd) (HZ er hk3))
 ·--strictly rising
  have pw':rs.Pairwise fun x y=>65536*x.1+x.2≤65536*y.1+y.2:=by
   have h3:(ys.map (·.1)).Pairwise fun x y=>65536*x.getD 0 0+x.getD 1 0≤65536*y.getD 0 0+y.getD 1 0:=hC.mpr pw
   rw[er] at h3
   exact(hC (f:=fun(p:Int×Int)=> [p.1,p.2]) (R:=fun x y=>65536*x.getD 0 0+x.getD 1 0≤65536*y.getD 0 0+y.getD 1 0)).mp h3
  have nd':rs.Pairwise fun x y=>x≠y:=by
   have h3:(ys.map (·.1)).Pairwise (·≠·):=ndy
   rw[er] at h3
   exact(hC.mp h3).imp fun hxy z=>hxy (by rw[z])
  refine(pw'.and nd').imp_of_mem fun{x y} hx hy ⟨h1,h2⟩=>?_
  have bnd:∀z,z∈rs→0≤z.2∧z.2<65536:=fun z hz=>by
   obtain⟨v,hv⟩:=(memr z).mp hz
   obtain⟨i,j,e,hj⟩:=two _ v (pm.mem_iff.mp hv)
   injection e with e1 e2
   injection e2 with e2 _
   omega
  have b1:=bnd x hx
  have b2:=bnd y hy
  unfold LX
  have:¬(x.1=y.1∧x.2=y.2):=fun z=>h2 (jB z.1 z.2)
  omega
 ·rw[memr]
  constructor
  ·rintro⟨x,hx⟩
   obtain⟨w,h1,h2⟩:=mem1 _ x (s1 _ (pm.mem_iff.mp hx))
   injection h2 with e1 e2
   injection e2 with e2 _
   have:z=w:=jB e1 e2
   rw[this];exact h1
  ·intro hz
   have:[z.1,z.2]∈qs.map (·.1):=by rw[eq];exact eQ.mpr ⟨z,hz,rfl⟩
   obtain⟨⟨k,x⟩,h1,h2⟩:=eQ.mp this
   have h2:k=_:=h2
   subst h2
   obtain⟨x',hx'⟩:=s2 _ _ h1
   exact⟨x',pm.mem_iff.mpr hx'⟩
 ·have e1:rs.length=ys.length:=by
   have:=congrArg List.length er
   simpa using this.symm
  have e2:=pm.length_eq
  omega
end
theorem XFly.mono{X:Cx}{W W':St→XK}(x:XFly X W)(h:∀σ cls H',W' σ cls none H'→W σ cls none H'):XFly X W':=⟨fun pins σ H s e s' I c=>x.fly pins σ H s e s' I (by
 obtain⟨y,cls,H',e1,f,q⟩:=c
 exact⟨y,cls,H',e1,f,h σ cls H' q⟩)⟩
theorem Bc{X:Cx}{Oe:AI}{He:Hp}:XFly X (zc X Oe He).W:=⟨fun pins σ H s e s' I c=>by
 obtain⟨y,cls,H',e1,f,_,O',z,_⟩:=c
 exact z.elim⟩
abbrev zB(P:Program)(w:World)(K:a8)(mg:Str→Option Value)(base:Heap)(N:List Str)(qual:Str)(sc:Scope)(f:Addr)(cdv:Value)(A:eU)(outer:List Env)(s:a9)(H:Hp)(E:XK)(O:AI)(Ξ:Value→AI→Prop):Zx:=
 ⟨Cg (CXe P w) P w K mg base N qual sc f cdv A outer s H E,O,H,Ξ⟩
def EO(N:List Str)(ts:List T):List (Option T):=ts.map some++eE (N.length-ts.length) none
theorem LY{K:a8}{O:AI}{H:Hp}{N:List Str}{vs:List V}{ts:List T}(r:Reps K O H vs ts):Rl K O H (start N vs) (EO N ts):=by
 refine⟨by simp[start,EO,r.length],fun i t e=>?_⟩
 unfold EO at e
 by_cases hi:i<ts.length
 ·rw[fq (by simpa using hi),c9] at e
  cases ht:ts[i]? with
  |none=>rw[ht] at e;cases e
  |some u=>
   rw[ht] at e
   cases e
   obtain⟨v,h1,h2⟩:=r.get ht
   refine⟨v,?_,h2⟩
   unfold start
   rw[fq (by simpa[r.length] using hi),c9,h1]
   rfl
 ·rw[e8 (by simpa using hi),gG] at e
  split at e<;>cases e
theorem Af{P:Program}{w:World}{K:a8}{mg:Str→Option Value}{base:Heap}{x qual:Str}{st:Stmt}{f:Addr}{fd:fm}{N ps:List Str}{k:Nat}{sp:Df}(F:Fun K x qual st f fd)(S:FnScope N ps (AA st))(len:∀ts O Φ Ξ,sp ts O Φ Ξ→ts.length=ps.length)
  (h:∀(cdv:Value) (A:eU) (outer:List Env) (s:a9) (H:Hp) (E:XK) (O:AI) (Ξ:Value→AI→Prop),Room k (A.deeper (jr qual (AA st) s.heap.objs.size f cdv))→XFly (zB P w K mg base N qual (AA st) f cdv A outer s H E O Ξ).X (zB P w K mg base N qual (AA st) f cdv A outer s H E O Ξ).W→
   ∀ts Φ,sp ts O Φ Ξ→Eo (zB P w K mg base N qual (AA st) f cdv A outer s H E O Ξ) (EO N ts) O (Aq st) {nx:=fun _ O'=>Φ .non O',rt:=Φ}):FnOk P w K mg base (CXe P w) (k+1) f fd ps (EK K sp):=by
 refine F.okX S (fun vs H Q E h=>?_) (fun cdv A outer s H vs Q E hr h1=>?_)
 ·obtain⟨ts,O,Φ,Ξ,r,_,q,_⟩:=h
  rw[r.length];exact len ts O Φ Ξ q
 ·obtain⟨ts,O,Φ,Ξ,r,ok,q,acc,ex⟩:=h1
  refine⟨_,h cdv A outer s H E O Ξ hr (XFly.mono Ab.f ?_) ts Φ q,⟨LY r,.refl ok⟩,?_⟩
  ·rintro σ cls H' ⟨_,O',x,f⟩
   exact ex cls O' H' x f
  ·exact⟨fun ρ' O' σ' H' p a _=>acc _ _ _ O' p a.fr .non,fun v H' t O' p f r=>acc v H' t O' p f r,fun _ _ _ _ z=>z.elim,fun _ _ _ _ z=>z.elim⟩
def VO(S:Scope)(N:List Str)(csc:Scope)(cap:List (Str×Nat)):Bool:=
 decide (csc.kind=.function)&&csc.names.all (fun y=>decide (y.2=.cell→csc.names.lookup y.1=some .cell))&&csc.names.all (fun y=>decide (y.2=.local→csc.names.lookup y.1=some .local))&&csc.names.all (fun y=>decide (y.2=.free→S.names.lookup y.1=some .cell∨S.names.lookup y.1=some .free))&&cap.all (fun p=>decide (N[p.2]?=some p.1∧csc.names.lookup p.1=some .free))
theorem Bf{X:Cx}{csc:Scope}{nc:List Str}{cap:List (Str×Nat)}(S:Scope)(N:List Str)(chk:VO S N csc cap=true)(h1:X.env.scope=S:=by rfl)(h2:X.N=N:=by rfl):LcOk X csc nc cap:=by
 unfold VO at chk
 simp only[fx,jD,decide_eq_true_eq] at chk
 obtain⟨⟨⟨⟨c1,c2⟩,c3⟩,c4⟩,c5⟩:=chk
 exact⟨c1,c2,c3,by rw[h1];exact c4,by rw[h2];exact c5⟩
section
variable{Z:Zx}{ρ:List (Option T)}{O:AI}{elt tg iter:Expr}{ifs:List Expr}{csc:Scope}{nc:List Str}{cap:List (Str×Nat)}{Φ:BW}{pos:Pos}{α:Type}
theorem Ha{F:List T→AI→Prop}(xs:List α)(f g:α→T)(hl:xs.length≤sizeLine)(h:∀x,x∈xs→∃ρ4,∀X' Oe He,LcCx Z.X csc (Ai nc cap) X'→∀O',(WG (zc X' Oe He) nc.length (IL nc ρ cap) O' tg (f x) ρ4∧ET (zc X' Oe He) ρ4 O' elt (g x)))(fin:F (xs.map g) O):Tv Z ρ elt tg [] csc nc cap F (xs.map f) O:=by
 refine⟨fun i acc O'=>O'=O∧acc=(xs.take i).map g,⟨rfl,by simp⟩,?_,?_⟩
 ·rintro i t acc O' p e ⟨rfl,rfl⟩ np
  rw[c9] at e
  cases ex:xs[i]? with
  |none=>rw[ex] at e;cases e
  |some x=>
   rw[ex] at e
   cases e
   obtain⟨ρ4,w⟩:=h x (dw ex)
   have hi:=(eB.mp ex).1
   refine⟨ρ4,fun X' Oe He is=> ⟨(w X' Oe He is _).1,Cb (GH fun X' Oe He is=> (w X' Oe He is _).2 _ ⟨_,rfl,np,?_,rfl,?_⟩)⟩⟩
   ·simp;omega
   ·rw[fQ,ex];simp
 ·rintro acc O' ⟨rfl,rfl⟩
  rw[b6,fR]
  exact fin
theorem LZ{F:List T→AI→Prop}{c:Expr}(xs:List α)(f g:α→T)(q:α→Bool)(hl:xs.length≤sizeLine)(h:∀x,x∈xs→∃ρ4,∀X' Oe He,LcCx Z.X csc (Ai nc cap) X'→∀O',(WG (zc X' Oe He) nc.length (IL nc ρ cap) O' tg (f x) ρ4∧EB (zc X' Oe He) ρ4 O' c (q x)∧(q x=true→ET (zc X' Oe He) ρ4 O' elt (g x))))(fin:F ((xs.filter q).map g) O):Tv Z ρ elt tg [c] csc nc cap F (xs.map f) O:=by
 refine⟨fun i acc O'=>O'=O∧acc=((xs.take i).filter q).map g,⟨rfl,by simp⟩,?_,?_⟩
 ·rintro i t acc O' p e ⟨rfl,rfl⟩ np
  rw[c9] at e
  cases ex:xs[i]? with
  |none=>rw[ex] at e;cases e
  |some x=>
   rw[ex] at e
   cases e
   obtain⟨ρ4,w⟩:=h x (dw ex)
   have hi:=(eB.mp ex).1
   refine⟨ρ4,fun X' Oe He is=> ⟨(w X' Oe He is _).1,Jt ((w X' Oe He is _).2.1 _ ?_)⟩⟩
   cases hq:q x with
   |true=>
    refine GH fun X' Oe He is=> (w X' Oe He is _).2.2 hq _ ⟨_,rfl,np,?_,rfl,?_⟩
    ·have:=jR q (xs.take i)
     simp at this ⊢;omega
    ·rw[fQ,ex];simp[hq]
   |false=>
    refine TK ⟨_,rfl,np,rfl,?_⟩
    rw[fQ,ex];simp[hq]
 ·rintro acc O' ⟨rfl,rfl⟩
  rw[b6,fR]
  exact fin
theorem CO(nc:List Str)(cap:List (Str×Nat))(xs:List α)(f g:α→T)(hc:Z.X.calm=true)(ok:LcOk Z.X csc nc cap)(hi:EI Z ρ O tg iter (xs.map f))(hl:xs.length≤sizeLine)(h:∀x,x∈xs→∃ρ4,∀X' Oe He,LcCx Z.X csc (Ai nc cap) X'→∀O',(WG (zc X' Oe He) nc.length (IL nc ρ cap) O' tg (f x) ρ4∧ET (zc X' Oe He) ρ4 O' elt (g x)))
  (hs:∀x,gY iter Z.X.env x=pure x:=by intro _;rfl):ET Z ρ O (.ListComp elt [⟨tg,iter,[],0⟩] csc pos) (.lst (xs.map g)):=fun Φ p=>Fz hc ok (hi _ (Ha xs f g hl h p)) hs
theorem Hb(nc:List Str)(cap:List (Str×Nat)){c:Expr}(xs:List α)(f g:α→T)(q:α→Bool)(hc:Z.X.calm=true)(ok:LcOk Z.X csc nc cap)(hi:EI Z ρ O tg iter (xs.map f))(hl:xs.length≤sizeLine)(h:∀x,x∈xs→∃ρ4,∀X' Oe He,LcCx Z.X csc (Ai nc cap) X'→∀O',(WG (zc X' Oe He) nc.length (IL nc ρ cap) O' tg (f x) ρ4∧EB (zc X' Oe He) ρ4 O' c (q x)∧(q x=true→ET (zc X' Oe He) ρ4 O' elt (g x))))
  (hs:∀x,gY iter Z.X.env x=pure x:=by intro _;rfl):ET Z ρ O (.ListComp elt [⟨tg,iter,[c],0⟩] csc pos) (.lst ((xs.filter q).map g)):=fun Φ p=>Fz hc ok (hi _ (LZ xs f g q hl h p)) hs
end
section
variable{Z:Zx}{ρ:List (Option T)}{O:AI}{e:Expr}{es:List Expr}{Φ:BW}{Ψ:Es}{pos p:Pos}{ts:List T}{x:Str}
theorem EA.wa{Φ:Mf}(h:EA Z ρ O es ts)(p:Φ ts O):WA Z ρ O es Φ:=h Φ p
theorem EI.wi{tg iter:Expr}{Φ:Mf}(h:EI Z ρ O tg iter ts)(p:Φ ts O):WI Z ρ O tg iter Φ:=h Φ p
theorem Nq{l:Addr}(hl:Z.Oe l=none)(h:WE Z ρ O e fun t O'=>Ψ.rt t (CW O' l)):WS Z ρ O (.Return (some e) pos) Ψ:=PS.weak (JS h) fun D σ H q=> ⟨q.1,fun v H' t O' p f r=>by
 have f':=q.1.fr.trans f
 refine q.2.rt v H' t _ p ⟨f'.kp.trans CY,fun b us e=>?_,f'.ok.drop⟩ (r.kp CY f'.ok)
 obtain⟨us',e'⟩:=f'.own b us e
 have:b≠l:=fun z=>by rw[z,hl] at e;cases e
 exact⟨us',by rw[Dc this];exact e'⟩⟩
theorem PU{l:Addr}(m:Z.X.mg "tuple" =none)(ho:O l=some ts)(h:ET Z ρ O e (.raw (.ref l)))(hg:Gl Z.X "tuple":=by rfl)(he:du [e] Z.X.env=(false,eval e Z.X.env)::du [] Z.X.env:=by rfl):ET Z ρ O (.Call (.Name "tuple" p) [e] [] pos) (.tup ts):=
 FZ Fv m Fb (AJ h AC he) (fun Φ q H vs Q ok r k=>by
  obtain⟨v,rfl,r1⟩:=r.one_inv
  cases r1.raw_inv
  obtain⟨xs,h1,r1⟩:=ok l ts ho
  exact⟨l,xs,rfl,.inl (.inl h1),fun p hp=>k _ _ _ O q (.new ok hp) (.tup AW (r1.kp (BP ok hp) ok))⟩) hg (by decide) (by decide) he
theorem RG{k:Nat}{f:Addr}{fd:fm}{ps:List Str}{sp:Sp}(F:FnOk Z.X.prog Z.X.w Z.X.K Z.X.mg Z.X.base (CXe Z.X.prog Z.X.w) k f fd ps sp)(hm:Z.X.mg x=some (.ref f))(hk:jg Z.X.K (.ref f)=true)(hb:Binds Z.X.K fd ps [])(hr:Room k Z.X.A)(xf:XFly Z.X Z.W)(h:EA Z ρ O (e::es) ts)
  (w:∀σ H vs Q,Asr Z ρ O σ H→Reps Z.K O H vs ts→Acc Z.K O H Φ Q→sp vs H Q (Z.W σ)) (hg:Gl Z.X x:=by rfl)
  (hdb:(x==("__debug__" :Str))=false:=by decide) (he:du (e::es) Z.X.env=(false,eval e Z.X.env)::du es Z.X.env:=by rfl) (hpl:(i7 pos (du es Z.X.env)).any (·.1)=false:=by rfl):WE Z ρ O (.Call (.Name x p) (e::es) [] pos) Φ:=by
 refine PE.weak (Kv xf F hr hg hm hk hb (Jm (ρ:=ρ)) hdb he hpl) fun σ H Q q=>?_
 refine⟨O,_,h (fun us O'=>us=ts∧O'=O) ⟨rfl,rfl⟩,q.1,?_⟩
 rintro vs H1 _ _ ⟨rfl,rfl⟩ f r
 exact w σ H1 vs Q (q.1.step f) r (q.2.step f)
end
def Bz:Expr→Bool
 | .Starred .. =>false
 |_=>true
theorem Fd{e:Expr}{es:List Expr}{env:Env}(h:Bz e=true):du (e::es) env=(false,eval e env)::du es env:=by
 cases e<;>first|rfl|cases h
section
variable{Z:Zx}{ρ:List (Option T)}{O:AI}{e:Expr}{es:List Expr}{t:T}{ts:List T}
theorem AO(h:ET Z ρ O e t)(hr:EA Z ρ O es ts)(hn:Bz e=true:=by rfl):EA Z ρ O (e::es) (t::ts):=AJ h hr (Fd hn)
theorem CQ{Φ:Mf}(h:WE Z ρ O e fun t O1=>WA Z ρ O1 es fun ts O2=>Φ (t::ts) O2)(hn:Bz e=true:=by rfl):WA Z ρ O (e::es) Φ:=Bg h (Fd hn)
theorem Bl{a b:Expr}{i j:Int}{k:Nat}{pos:Pos}(ha:ET Z ρ O a (.int i))(hb:ET Z ρ O b (.int j))(h1:Bz a=true:=by rfl)(h2:Bz b=true:=by rfl):ET Z ρ O (.Tuple [a,b] k pos) (AG (i,j)):=BU (AO ha (AO hb AC h2) h1) (by show 2≤sizeLine;decide)
theorem bo{p:Int×Int}{ps:List (Int×Int)}(h:ET Z ρ O e (AG p))(hr:EA Z ρ O es (ps.map AG))(hn:Bz e=true:=by rfl):EA Z ρ O (e::es) ((p::ps).map AG):=AO h hr hn
end
theorem Iv{O:AI}{p l:Addr}{xs ys:List T}(h:O l=none)(hp:p≠l):CW (AZ (AZ O p xs) l ys) l=AZ O p xs:=by
 refine Az ?_
 rw[AQ (Ne.symm hp)];exact h
theorem Hc{O:AI}{p:Addr}{xs:List T}(h:O p=some xs):AZ O p xs=O:=by
 funext b
 by_cases hb:b=p
 ·rw[hb,AF,h]
 ·rw[AQ hb]
theorem Jx{O:AI}{p l:Addr}{xs:List T}(h:O p=some xs)(hl:O l=none):p≠l:=fun z=>by rw[z,hl] at h;cases h
def XX:Expr→Bool
 | .ListComp .. =>false
 | .SetComp .. =>false
 | .DictComp .. =>false
 |_=>true
theorem RH{e:Expr}{t:Option Expr}{l:Nat}{env:Env}(h:XX e=true):kQ e t l env=pure false:=by
 cases e<;>first|rfl|cases h
section
variable{Z:Zx}{ρ:List (Option T)}{O:AI}{e:Expr}{es:List Expr}{t:T}{ts:List T}{Φ:BW}{Ψ:Es}{pos p2:Pos}{x:Str}
theorem UB(i:Nat)(h:EA Z ρ O es ts)(hl:ts.length≤sizeLine)(k:Ψ.nx (ρ.set i (some (.lst ts))) O)(hN:Z.X.N.Nodup){pos':Pos}(hi:Z.X.N[i]?=some x:=by rfl)(hx:Po Z.X.env.scope x:=by first|exact mh rfl|exact lP rfl)
  (hf:Z.X.fn x=true∨Z.X.env.scope.names.lookup x=some .local:=by first|exact .inl rfl|exact .inr rfl):WS Z ρ O (.Assign [.Name x pos'] (.List es p2) pos) Ψ:=
 AM i (ET.we (BH h hl) k) hN hi hx (RH rfl) hf
inductive CPs:List Expr→List (Int×Int)→Prop
 |nil:CPs [] []
 |cons {a b:Int} {k1 k2 k3:Nat} {q1 q2 q3:Pos} {es:List Expr} {ps:List (Int×Int)}:CPs es ps→CPs (.Tuple [.Constant (.int a) k1 q1,.Constant (.int b) k2 q2] k3 q3::es) ((a,b)::ps)
theorem CPs.ea{ps:List (Int×Int)}(h:CPs es ps):EA Z ρ O es (ps.map AG):=by
 induction h with
 |nil=>exact AC
 |cons _ ih=>exact bo (Bl AB AB) ih
structure HEA(Z:Zx)(ρ:List (Option T))(O:AI)(es:List Expr)(ts:List T):Prop where
 out:EA Z ρ O es ts
structure HET(Z:Zx)(ρ:List (Option T))(O:AI)(e:Expr)(t:T):Prop where
 out:ET Z ρ O e t
theorem HEA.nil:HEA Z ρ O [] []:=⟨AC⟩
theorem HEA.cons(h:HET Z ρ O e t)(hr:HEA Z ρ O es ts)(hn:Bz e=true:=by rfl):HEA Z ρ O (e::es) (t::ts):=⟨AO h.out hr.out hn⟩
theorem HET.lst(h:HEA Z ρ O es ts)(hl:ts.length≤sizeLine):HET Z ρ O (.List es pos) (.lst ts):=⟨BH h.out hl⟩
theorem CPs.hea{ps:List (Int×Int)}(h:CPs es ps):HEA Z ρ O es (ps.map AG):=⟨h.ea⟩
theorem UC(i:Nat)(h:HEA Z ρ O es ts)(hl:ts.length≤sizeLine)(k:Ψ.nx (ρ.set i (some (.lst ts))) O)(hN:Z.X.N.Nodup){pos':Pos}(hi:Z.X.N[i]?=some x)(hx:Po Z.X.env.scope x)
  (hf:Z.X.fn x=true∨Z.X.env.scope.names.lookup x=some .local):WS Z ρ O (.Assign [.Name x pos'] (.List es p2) pos) Ψ:=UB i h.out hl k hN hi hx hf
structure HS(Z:Zx)(ρ:List (Option T))(O:AI)(ss:List Stmt)(Ψ:Es):Prop where
 out:Eo Z ρ O ss Ψ
theorem An{s:Stmt}{ss:List Stmt}(h:WS Z ρ O s {Ψ with nx:=fun ρ' O'=>HS Z ρ' O' ss Ψ}):HS Z ρ O (s::ss) Ψ:=
 ⟨AD (Ng h (fun _ _ z=>z.out) (fun _ _ z=>z) (fun _ _ z=>z) (fun _ _ z=>z))⟩
theorem Jy{s:Stmt}(h:WS Z ρ O s Ψ):HS Z ρ O [s] Ψ:=⟨AH h⟩
theorem Hf{k:Bool}{c:Expr}{ea ss:List Stmt}(hc:EB Z ρ O c k)(h1:k=true→HS Z ρ O ea {Ψ with nx:=fun ρ' O'=>HS Z ρ' O' ss Ψ})(h2:k=false→HS Z ρ O ss Ψ):HS Z ρ O (.If c ea [] pos::ss) Ψ:=
 An (Ay hc (fun h=> (h1 h).out) (fun h=>BI (h2 h)))
theorem Nr{P:Program}{w:World}{K:a8}{mg:Str→Option Value}{base:Heap}{x qual:Str}{st:Stmt}{f:Addr}{fd:fm}{N ps:List Str}{k:Nat}{sp:Df}(F:Fun K x qual st f fd)(S:FnScope N ps (AA st))(len:∀ts O Φ Ξ,sp ts O Φ Ξ→ts.length=ps.length)
  (h:∀(cdv:Value) (A:eU) (outer:List Env) (s:a9) (H:Hp) (E:XK) (O:AI) (Ξ:Value→AI→Prop),Room k (A.deeper (jr qual (AA st) s.heap.objs.size f cdv))→XFly (zB P w K mg base N qual (AA st) f cdv A outer s H E O Ξ).X (zB P w K mg base N qual (AA st) f cdv A outer s H E O Ξ).W→
   ∀ts Φ,sp ts O Φ Ξ→HS (zB P w K mg base N qual (AA st) f cdv A outer s H E O Ξ) (EO N ts) O (Aq st) {nx:=fun _ O'=>Φ .non O',rt:=Φ}):FnOk P w K mg base (CXe P w) (k+1) f fd ps (EK K sp):=
 Af F S len fun cdv A outer s H E O Ξ hr xf ts Φ q=> (h cdv A outer s H E O Ξ hr xf ts Φ q).out
end
section
variable{X:Cx}{a b c d:Expr}{ta tb tc td:TE}{pos:Pos}
end
section
variable{Z:Zx}{ρ:List (Option T)}{O:AI}{a b c d:Expr}{pos:Pos}{i j k l:Int}
end
end L2.TL
namespace L2
open PySem PySem.Spec PySem.Calls PyProof.Rows
section
variable{prog:Program}{w:World}{A:eU}{E:Value→a9→Prop}{s:a9}
end
section
variable{X:Cx}
end
end L2
namespace L2.TL
open PySem PySem.Spec PySem.Calls PyProof.Rows
mutual
def dT:T→PyData
 | .non=> .none
 | .bl b=> .bool b
 | .int i=> .int i
 | .str x=> .str x
 | .tup ts=> .tuple (dTs ts)
 | .lst ts=> .list (dTs ts)
 | .frz _=> .none
 | .dct=> .none
 | .raw _=> .none
def dTs:List T→List PyData
 | []=> []
 |t::ts=>dT t::dTs ts
end
mutual
def IM:T→Bool
 | .non=>true
 | .bl _=>true
 | .int i=>decide (i.natAbs<10^12)
 | .str _=>false
 | .tup ts=>shBs ts
 | .lst ts=>shBs ts
 | .frz _=>false
 | .dct=>false
 | .raw _=>false
def shBs:List T→Bool
 | []=>true
 |t::ts=>IM t&&shBs ts
end
mutual
theorem Nt:∀(t:T),IM t=true→(dT t).showable=true∧(dT t).hasDict=false∧(dT t).leavesShort 13=true
 | .non,_=> ⟨rfl,rfl,rfl⟩
 | .bl _,_=> ⟨rfl,rfl,rfl⟩
 | .int i,h=>by
  have hb:i.natAbs<10^12:=by unfold IM at h;simpa using h
  refine⟨?_,rfl,?_⟩
  ·show decide (i.natAbs.log2<1920)=true
   refine decide_eq_true ?_
   by_cases h0:i.natAbs=0
   ·rw[h0];decide
   ·exact(oC h0).mpr (eX hb (by decide+kernel))
  ·show decide _=true
   exact decide_eq_true (PyData.shown_int_le hb)
 | .str _,h=>by unfold IM at h;cases h
 | .tup ts,h=>by
  have h':shBs ts=true:=by unfold IM at h;exact h
  exact shs_show ts h'
 | .lst ts,h=>by
  have h':shBs ts=true:=by unfold IM at h;exact h
  exact shs_show ts h'
 | .frz _,h=>by unfold IM at h;cases h
 | .dct,h=>by unfold IM at h;cases h
 | .raw _,h=>by unfold IM at h;cases h
theorem shs_show:∀(ts:List T),shBs ts=true→PyData.showableAll (dTs ts)=true∧PyData.hasDictAll (dTs ts)=false∧PyData.leavesShortAll 13 (dTs ts)=true
 | [],_=> ⟨rfl,rfl,rfl⟩
 |t::ts,h=>by
  unfold shBs at h
  rw[fx] at h
  obtain⟨a1,a2,a3⟩:=Nt t h.1
  obtain⟨b1,b2,b3⟩:=shs_show ts h.2
  refine⟨?_,?_,?_⟩
  ·show(PyData.showable (dT t)&&PyData.showableAll (dTs ts))=true
   rw[a1,b1];rfl
  ·show(PyData.hasDict (dT t)||PyData.hasDictAll (dTs ts))=false
   rw[a2,b2];rfl
  ·show(PyData.leavesShort 13 (dT t)&&PyData.leavesShortAll 13 (dTs ts))=true
   rw[a3,b3];rfl
end
section
variable{K:a8}{O:AI}{H:Hp}{P:Program}{w:World}{h:Heap}
mutual
theorem Rep.reads (hok:HOk P w H h):∀{v:V} {t:T} {u:Value},Rep K O H v t→IM t=true→RelV v u→∃as,Reads h u (dT t) as
 |_,_,_,.non,_,r=>by cases r;exact⟨_,.none⟩
 |_,_,_,.bl b,_,r=>by cases r;exact⟨_,.bool b⟩
 |_,_,_,.int i,_,r=>by obtain⟨t,rfl⟩:=r;exact⟨_,.int i t⟩
 |_,_,_,.str x,g,_=>by unfold IM at g;cases g
 |_,_,_,.tup (ts:=ts) e q,g,r=>by
  cases r
  obtain⟨_,its,rv,⟨o,e1,e2,n,e3⟩⟩:=(show ObjOk P w H h _ (.tup _) from hok _ _ e)
  obtain⟨as,ra⟩:=Reps.reads hok q (by unfold IM at g;exact g) rv
  exact⟨_,.tuple (vs:=its.toArray) e1 e2 e3 (by simpa using ra)⟩
 |_,_,_,.lst (ts:=ts) e _ q,g,r=>by
  cases r
  obtain⟨_,its,n,rv,e1⟩:=(show ObjOk P w H h _ (.lst _) from hok _ _ e)
  obtain⟨as,ra⟩:=Reps.reads hok q (by unfold IM at g;exact g) rv
  exact⟨_,.list (vs:=its.toArray) e1 rfl rfl (by simpa using ra)⟩
 |_,_,_,.frz _ _,g,_=>by unfold IM at g;cases g
 |_,_,_,.dct _,g,_=>by unfold IM at g;cases g
 |_,_,_,.raw v,g,_=>by unfold IM at g;cases g
theorem Reps.reads (hok:HOk P w H h):∀{vs:List V} {ts:List T} {us:List Value},Reps K O H vs ts→shBs ts=true→Vals vs us→∃as,ReadsAll h us (dTs ts) as
 |_,_,_,.nil,_,r=>by cases r;exact⟨_,.nil⟩
 |_,_,_,.cons a b,g,.cons r1 r2=>by
  unfold shBs at g
  rw[fx] at g
  obtain⟨as,x⟩:=Rep.reads hok a g.1 r1
  obtain⟨bs,y⟩:=Reps.reads hok b g.2 r2
  exact⟨_,.cons x y⟩
end
end
section
variable{X:Cx}
end
theorem Mn{i:Int}(h:i.natAbs<10^12):(dT (.int i)).weight≤42:=by
 have hl:i.natAbs.log2<40:=by
  by_cases h0:i.natAbs=0
  ·rw[h0];decide
  ·exact(oC h0).mpr (eX h (by decide+kernel))
 simp only[dT,PyData.weight]
 split<;>omega
theorem Fe{K:a8}{O:AI}{H:Hp}:∀(ns:List Int),Reps K O H (ns.map V.int) (ns.map T.int)
 | []=> .nil
 |n::ns=> .cons (.int n) (Fe ns)
section
variable{Z:Zx}{ρ:List (Option T)}{O:AI}{e a b:Expr}{es:List Expr}{Ψ:Es}{Φ:BW}{pos p:Pos}{t:T}{ts:List T}
end
section
variable{Z:Zx}{ρ:List (Option T)}{O:AI}{e:Expr}{es:List Expr}{t:T}{ts us:List T}{Φ:BW}{Ψ:Es}{pos p2 p3 p4:Pos}{x:Str}
end
section
variable{Z:Zx}{ρ:List (Option T)}{O:AI}{es:List Expr}{ts:List T}{Ψ:Es}{pos p:Pos}{tg iter:Expr}{body:List Stmt}
structure HWE(Z:Zx)(ρ:List (Option T))(O:AI)(e:Expr)(Φ:BW):Prop where
 out:WE Z ρ O e Φ
theorem Nu(hp:lI (model Z.X.prog Z.X.w) Z.X.A Z.X.env Z.X.xe)(hc:Z.X.calm=true)(h:HWE Z ρ O iter fun t O'=>∃ts,t=.lst ts∧∃I:Nat→Fy,I 0 ρ O'∧
  (∀i t ρ' O',ts[i]?=some t→I i ρ' O'→∃ρ2,WG Z Z.X.N.length ρ' O' tg t ρ2∧HS Z ρ2 O' body {nx:=I (i+1),rt:=Ψ.rt,bk:=Ψ.nx,ct:=I (i+1)})∧∀ρ' O',I ts.length ρ' O'→Ψ.nx ρ' O')
  (hs:∀x,gY iter Z.X.env x=pure x):WS Z ρ O (.For tg iter body [] pos) Ψ:=
 As hp hc (Nh (Do h.out (by
  rintro t O' ⟨ts,e,I,i0,st,fin⟩
  refine⟨ts,e,I,i0,fun i t ρ' O' e x=>?_,fin⟩
  obtain⟨ρ2,a,b⟩:=st i t ρ' O' e x
  exact⟨ρ2,a,b.out⟩))) hs
theorem Zd{P:Program}{w:World}{K:a8}{mg:Str→Option Value}{base:Heap}{x qual:Str}{st:Stmt}{f:Addr}{fd:fm}{N ps:List Str}{k:Nat}{sp:Sp}(F:Fun K x qual st f fd)(S:FnScope N ps (AA st))(len:∀vs H Q E,sp vs H Q E→vs.length=ps.length)
  (h:∀(cdv:Value) (A:eU) (outer:List Env) (s:a9) (H:Hp) (vs:List V) (Q:VK) (E:XK),Room k (A.deeper (jr qual (AA st) s.heap.objs.size f cdv))→sp vs H Q E→
   ∃ts O Φ Ξ,Reps K O H vs ts∧OwnOk K O H∧(XFly (zB P w K mg base N qual (AA st) f cdv A outer s H E O Ξ).X (zB P w K mg base N qual (AA st) f cdv A outer s H E O Ξ).W→HS (zB P w K mg base N qual (AA st) f cdv A outer s H E O Ξ) (EO N ts) O (Aq st) {nx:=fun _ O'=>Φ .non O',rt:=Φ})∧Acc K O H Φ Q∧∀cls O' H',Ξ cls O'→Frm K O H O' H'→E cls none H'):FnOk P w K mg base (CXe P w) (k+1) f fd ps sp:=by
 refine F.okX S len (fun cdv A outer s H vs Q E hr h1=>?_)
 obtain⟨ts,O,Φ,Ξ,r,ok,q,acc,ex⟩:=h cdv A outer s H vs Q E hr h1
 refine⟨_,(q (XFly.mono Ab.f ?_)).out,⟨LY r,.refl ok⟩,?_⟩
 ·rintro σ cls H' ⟨_,O',x,f⟩
  exact ex cls O' H' x f
 ·exact⟨fun ρ' O' σ' H' p a _=>acc _ _ _ O' p a.fr .non,fun v H' t O' p f r=>acc v H' t O' p f r,fun _ _ _ _ z=>z.elim,fun _ _ _ _ z=>z.elim⟩
end
theorem UD{us:List T}{lo hi:Option Int}{t:T}(h:t∈BL us lo hi):t∈us:=by
 unfold BL at h
 exact k8 (jW h)
theorem Nv{us:List T}{lo hi:Option Int}:(BL us lo hi).length≤us.length:=by
 unfold BL
 rw[fk,gi]
 omega
theorem Ee{L:List T}{r:Int}(h0:0≤r)(h1:r<L.length):∃t,atI L r=some t∧t∈L:=by
 obtain⟨j,rfl⟩:=e7 h0
 have hj:j<L.length:=by omega
 exact⟨L[j],Ag (by rw[dt hj]),gF hj⟩
def VP:AI:=fun _=>none
theorem RI{K:a8}{H:Hp}:OwnOk K VP H:=fun a ts e=>by cases e
theorem VQ{K:a8}{H H':Hp}{O':AI}{a:Addr}{xs:List V}(k:Kp VP H O' H')(h:EY K H a xs):EY K H' a xs:=by
 rcases h with h|h
 ·refine .inl ?_
  rcases h with h| ⟨o,h⟩
  ·exact .inl (k a _ h rfl).1
  ·exact .inr ⟨o,(k a _ h rfl).1⟩
 ·exact .inr h
section
variable{Z:Zx}{ρ:List (Option T)}{O:AI}{e lo hi:Expr}{p p2 pos:Pos}{Φ:BW}
theorem XY{a:Addr}{ns:List Int}{i j:Int}(ho:Z.Oe=VP)(hS:EY Z.K Z.He a (ns.map V.int))(h:ET Z ρ O e (.raw (.ref a)))(h1:ET Z ρ O lo (.int i))(h2:ET Z ρ O hi (.int j))
  (k:∀ms:List Int,ms.length≤ns.length→Φ (.lst (ms.map T.int)) O):WE Z ρ O (.Subscript e (.Slice (some lo) (some hi) none p2) pos) Φ:=by
 refine PE.weak (DW JV (BM (ρ:=ρ)) (Dl (BM (ρ:=ρ))) (Dl (BM (ρ:=ρ)))) fun σ H0 Q q=>?_
 refine⟨O,_,h (fun t O'=>t=.raw (.ref a)∧O'=O) ⟨rfl,rfl⟩,q.1,?_⟩
 rintro v H1 _ _ ⟨rfl,rfl⟩ f1 r1
 refine⟨_,_,h1 (fun t O'=>t=.int i∧O'=_) ⟨rfl,rfl⟩,q.1.step f1,?_⟩
 rintro v2 H2 _ _ ⟨rfl,rfl⟩ f2 r2
 refine⟨i,r2.int_inv,_,_,h2 (fun t O'=>t=.int j∧O'=_) ⟨rfl,rfl⟩,q.1.step (f1.trans f2),?_⟩
 rintro v3 H3 _ _ ⟨rfl,rfl⟩ f3 r3
 refine⟨j,r3.int_inv,a,ns.map V.int,r1.raw_inv,VQ (ho▸(q.1.step (f1.trans (f2.trans f3))).fr.kp) hS,fun l hl=>?_⟩
 have ff:=f1.trans (f2.trans f3)
 have e:FO (ns.map V.int) (some i) (some j)=((ns.drop (HT.BO (ns.map V.int).length 0 (some i))).take (HT.BO (ns.map V.int).length (ns.map V.int).length (some j)-HT.BO (ns.map V.int).length 0 (some i))).map V.int:=by
  unfold FO
  rw[←nO,←nN]
 rw[e]
 refine q.2 _ _ _ _ (k _ ?_) (ff.trans (.new ff.ok hl)) (.lst AW (ff.ok.none_of hl) ((Fe _).kp (BP ff.ok hl) ff.ok))
 rw[fk,gi]
 omega
theorem Mo{K:a8}{x y:Str}:RP K af (.str x) (.str y) O (.bl (!decide (x=y))):=fun Φ p H v w Q ok r1 r2 q=>by
 cases r1.str_inv
 cases r2.str_inv
 have e:decide (V.str x=V.str y)=decide (x=y):=by
  by_cases h:x=y
  ·subst h;simp
  ·have:V.str x≠V.str y:=fun z=>h (by injection z)
   simp[h]
 refine⟨rfl,?_⟩
 rw[e]
 exact q _ H _ O p (.refl ok) (.bl _)
theorem RJ:fw "repr" =some (.builtin "repr"):=by decide+kernel
end
mutual
def CS:T→Bool
 | .non=>true
 | .bl _=>true
 | .int _=>true
 | .str x=>PyData.strOk x
 | .tup ts=>rdBs ts
 | .lst ts=>rdBs ts
 | .frz _=>false
 | .dct=>false
 | .raw _=>false
def rdBs:List T→Bool
 | []=>true
 |t::ts=>CS t&&rdBs ts
end
mutual
theorem DJ:∀(t:T),CS t=true→(dT t).canLay0=true
 | .non,_=>rfl
 | .bl _,_=>rfl
 | .int _,_=>rfl
 | .str x,h=>by unfold CS at h;exact h
 | .tup ts,h=>rds_lay ts (by unfold CS at h;exact h)
 | .lst ts,h=>rds_lay ts (by unfold CS at h;exact h)
 | .frz _,h=>by unfold CS at h;cases h
 | .dct,h=>by unfold CS at h;cases h
 | .raw _,h=>by unfold CS at h;cases h
theorem rds_lay:∀(ts:List T),rdBs ts=true→PyData.canLayAll0 (dTs ts)=true
 | [],_=>rfl
 |t::ts,h=>by
  unfold rdBs at h
  rw[fx] at h
  show(PyData.canLay0 (dT t)&&PyData.canLayAll0 (dTs ts))=true
  rw[DJ t h.1,rds_lay ts h.2];rfl
end
section
variable{K:a8}{O:AI}{H:Hp}{P:Program}{w:World}{h:Heap}
mutual
theorem Rep.rd (hok:HOk P w H h):∀{v:V} {t:T} {u:Value},Rep K O H v t→CS t=true→RelV v u→∃as,Reads h u (dT t) as
 |_,_,_,.non,_,r=>by cases r;exact⟨_,.none⟩
 |_,_,_,.bl b,_,r=>by cases r;exact⟨_,.bool b⟩
 |_,_,_,.int i,_,r=>by obtain⟨t,rfl⟩:=r;exact⟨_,.int i t⟩
 |_,_,_,.str x,_,r=>by obtain⟨t,rfl⟩:=r;exact⟨_,.str x t⟩
 |_,_,_,.tup (ts:=ts) e q,g,r=>by
  cases r
  obtain⟨_,its,rv,⟨o,e1,e2,n,e3⟩⟩:=(show ObjOk P w H h _ (.tup _) from hok _ _ e)
  obtain⟨as,ra⟩:=Reps.rd hok q (by unfold CS at g;exact g) rv
  exact⟨_,.tuple (vs:=its.toArray) e1 e2 e3 (by simpa using ra)⟩
 |_,_,_,.lst (ts:=ts) e _ q,g,r=>by
  cases r
  obtain⟨_,its,n,rv,e1⟩:=(show ObjOk P w H h _ (.lst _) from hok _ _ e)
  obtain⟨as,ra⟩:=Reps.rd hok q (by unfold CS at g;exact g) rv
  exact⟨_,.list (vs:=its.toArray) e1 rfl rfl (by simpa using ra)⟩
 |_,_,_,.frz _ _,g,_=>by unfold CS at g;cases g
 |_,_,_,.dct _,g,_=>by unfold CS at g;cases g
 |_,_,_,.raw v,g,_=>by unfold CS at g;cases g
theorem Reps.rd (hok:HOk P w H h):∀{vs:List V} {ts:List T} {us:List Value},Reps K O H vs ts→rdBs ts=true→Vals vs us→∃as,ReadsAll h us (dTs ts) as
 |_,_,_,.nil,_,r=>by cases r;exact⟨_,.nil⟩
 |_,_,_,.cons a b,g,.cons r1 r2=>by
  unfold rdBs at g
  rw[fx] at g
  obtain⟨as,x⟩:=Rep.rd hok a g.1 r1
  obtain⟨bs,y⟩:=Reps.rd hok b g.2 r2
  exact⟨_,.cons x y⟩
end
end
section
variable{X:Cx}
def rD(K:a8)(g:PyData→PyData→Bool):R2:=fun x y H Q=>∃O t u,Rep K O H x t∧Rep K O H y u∧CS t=true∧CS u=true∧(dT t).depth≤100∧Q (.bl (g (dT t) (dT u))) H
theorem RL(hu:X.A.units+101<cLine):DD X (gM .Eq) (rD X.K fun a b=>iD a b):=by
 intro pins s σ H x y v u Q I rx ry h
 obtain⟨O,t,t',r1,r2,g1,g2,hd,q⟩:=h
 obtain⟨as,ra⟩:=Rep.rd I.hok r1 g1 rx
 obtain⟨bs,rb⟩:=Rep.rd I.hok r2 g2 ry
 exact SeqAt.compareEq_reads ra rb (DJ t g1) (DJ t' g2) (by omega) ⟨.bl _,H,I,rfl,q⟩
theorem XZ(hu:X.A.units+101<cLine):DD X (gM .NotEq) (rD X.K fun a b=>!iD a b):=by
 intro pins s σ H x y v u Q I rx ry h
 obtain⟨O,t,t',r1,r2,g1,g2,hd,q⟩:=h
 obtain⟨as,ra⟩:=Rep.rd I.hok r1 g1 rx
 obtain⟨bs,rb⟩:=Rep.rd I.hok r2 g2 ry
 exact SeqAt.compareNe_reads ra rb (DJ t g1) (DJ t' g2) (by omega) ⟨.bl _,H,I,rfl,q⟩
def ak(K:a8)(g:Bool→Bool):R2:=fun x y H Q=>∃O t us,Rep K O H x t∧(Rep K O H y (.tup us)∨Rep K O H y (.lst us))∧CS t=true∧rdBs us=true∧(dT t).depth≤100∧Q (.bl (g ((dTs us).any fun y=>iD y (dT t)))) H
theorem Nw(hu:X.A.units+102<cLine):DD X (gM .In) (ak X.K id):=by
 intro pins s σ H x y v u Q I rx ry h
 obtain⟨O,t,us,r1,r2,g1,g2,hd,q⟩:=h
 obtain⟨as,ra⟩:=Rep.rd I.hok r1 g1 rx
 rcases r2 with r2|r2
 ·obtain⟨bs,rb⟩:=Rep.rd I.hok r2 (by unfold CS;exact g2) ry
  exact SeqAt.in_tuple_reads rb ra (rds_lay us g2) (DJ t g1) (by omega) ⟨.bl _,H,I,rfl,q⟩
 ·obtain⟨bs,rb⟩:=Rep.rd I.hok r2 (by unfold CS;exact g2) ry
  exact SeqAt.in_list_reads rb ra (rds_lay us g2) (DJ t g1) (by omega) ⟨.bl _,H,I,rfl,q⟩
theorem RM(hu:X.A.units+102<cLine):DD X (gM .NotIn) (ak X.K (!·)):=by
 intro pins s σ H x y v u Q I rx ry h
 obtain⟨O,t,us,r1,r2,g1,g2,hd,q⟩:=h
 obtain⟨as,ra⟩:=Rep.rd I.hok r1 g1 rx
 rcases r2 with r2|r2
 ·obtain⟨bs,rb⟩:=Rep.rd I.hok r2 (by unfold CS;exact g2) ry
  exact SeqAt.notIn_tuple_reads rb ra (rds_lay us g2) (DJ t g1) (by omega) ⟨.bl _,H,I,rfl,q⟩
 ·obtain⟨bs,rb⟩:=Rep.rd I.hok r2 (by unfold CS;exact g2) ry
  exact SeqAt.notIn_list_reads rb ra (rds_lay us g2) (DJ t g1) (by omega) ⟨.bl _,H,I,rfl,q⟩
end
section
variable{K:a8}{O:AI}{t u:T}{us:List T}
theorem Xa{g:PyData→PyData→Bool}(h1:CS t=true)(h2:CS u=true)(hd:(dT t).depth≤100):RP K (rD K g) t u O (.bl (g (dT t) (dT u))):=fun Φ p H v w Q ok r1 r2 q=>
 ⟨O,t,u,r1,r2,h1,h2,hd,q _ H _ O p (.refl ok) (.bl _)⟩
theorem Hg{g:Bool→Bool}(h1:CS t=true)(h2:rdBs us=true)(hd:(dT t).depth≤100):RP K (ak K g) t (.tup us) O (.bl (g ((dTs us).any fun y=>iD y (dT t)))):=fun Φ p H v w Q ok r1 r2 q=>
 ⟨O,t,us,r1,.inl r2,h1,h2,hd,q _ H _ O p (.refl ok) (.bl _)⟩
theorem Xb{g:Bool→Bool}(h1:CS t=true)(h2:rdBs us=true)(hd:(dT t).depth≤100):RP K (ak K g) t (.lst us) O (.bl (g ((dTs us).any fun y=>iD y (dT t)))):=fun Φ p H v w Q ok r1 r2 q=>
 ⟨O,t,us,r1,.inr r2,h1,h2,hd,q _ H _ O p (.refl ok) (.bl _)⟩
end
theorem Jz(p:Int×Int):CS (AG p)=true:=by simp[AG,CS,rdBs]
theorem Hi:∀{ps:List (Int×Int)},rdBs (ps.map AG)=true
 | []=>rfl
 |p::ps=>by
  show(CS (AG p)&&rdBs (ps.map AG))=true
  rw[Jz,Hi];rfl
theorem Hj(p:Int×Int):(dT (AG p)).depth≤100:=by simp[AG,dT,dTs,PyData.depth,iK]
theorem RN(p q:Int×Int):iD (dT (AG p)) (dT (AG q))=decide (p=q):=by
 show((p.1==q.1)&&((p.2==q.2)&&true))=decide (p=q)
 rw[ic]
 simp only[Bool.and_true,fx,beq_iff_eq,decide_eq_true_eq]
 exact⟨fun h=>jB h.1 h.2,fun h=>by rw[h];exact⟨rfl,rfl⟩⟩
theorem Ff{q:Int×Int}:∀{ps:List (Int×Int)},((dTs (ps.map AG)).any fun y=>iD y (dT (AG q)))=decide (q∈ps)
 | []=>by simp[dTs]
 |p::ps=>by
  show(iD (dT (AG p)) (dT (AG q))|| (dTs (ps.map AG)).any fun y=>iD y (dT (AG q)))=_
  rw[RN,Ff,ic,Bool.or_eq_true,decide_eq_true_eq,decide_eq_true_eq,decide_eq_true_eq,eJ]
  exact⟨fun h=>h.elim (fun e=> .inl e.symm) .inr,fun h=>h.elim (fun e=> .inl e.symm) .inr⟩
abbrev BY(n:Int)(ps:List (Int×Int)):T:=.tup [.int n,.tup (ps.map AG)]
end L2.TL
namespace L2
open PySem PySem.Spec PySem.Calls PyProof.Rows
section
variable{X:Cx}
def Xc(ns:List Int):Nat:=(nW (fun i=>ns.getD i 0) ns.length).length
theorem Xd(ns:List Int):Xc ns≤ns.length:=firstMet_length_le _ _
theorem La:Au X (.builtin "len") (fun xs H Q=>∃(a:Addr) (S:Int→Bool) (n:Nat),xs=[.ref a]∧H a=some (.set S n)∧Q (.int n) H):=by
 intro pins s σ H xs us Q I r h
 obtain⟨a,S,n,rfl,hS,q⟩:=h
 obtain⟨u,rfl,ru⟩:=Vals.one r
 cases ru
 obtain⟨o,es,ep,t,h1,h2,h3,h4,h5,h6,h7,h8⟩:=(show ObjOk X.prog X.w H s.heap a (.set S n) from I.hok a _ hS)
 refine PySem.call_len_set h1 h2 h3 h7 (by unfold oq at h6;omega) ?_
 rw[h8]
 exact⟨.int n,H,I.tok _,⟨_,rfl⟩,q⟩
variable{e:Expr}{te:TE}{p2 p3 p4 pos:Pos}
end
end L2
namespace L2.TL
open PySem PySem.Spec PySem.Calls PyProof.Rows
section
variable{Z:Zx}{ρ:List (Option T)}{O:AI}{e a b:Expr}{es:List Expr}{Ψ:Es}{Φ:BW}{pos p p1 pos1 p2 p3 p4:Pos}{t ta tb:T}{ts us:List T}{x:Str}
def Iw:T→Bool
 | .non=>true
 |_=>false
theorem Fg{j:Nat}(hr:BD t=false)(ha:ET Z ρ O a t):EB Z ρ O (.Compare a [.Is] [.Constant .none j p1] pos) (Iw t):=BF WN (Av _) (fun Φ p H v w Q ok r1 r2 q=>by
 refine⟨r2.non_inv,?_⟩
 have e:decide (v=V.non)=Iw t:=by
  cases r1<;>first|rfl|cases hr
 rw[e]
 exact q _ H _ O p (.refl ok) (.bl _)) ha CJ
end
section
variable{Z:Zx}{ρ:List (Option T)}{O O1 O2:AI}{c:Expr}{body ss:List Stmt}{Ψ:Es}{pos:Pos}
def bp(Z:Zx)(e:Expr):TT:=fun σ H Q=>∃ρ O Φ,WT Z ρ O e Φ∧YT Z ρ O Φ σ H Q
theorem Ze{e:Expr}:PT Z.X e (bp Z e):=fun pins s σ H Q I ⟨_,_,_,w,q⟩=>w pins s σ H Q I q
theorem RO(hp:lI (model Z.X.prog Z.X.w) Z.X.A Z.X.env Z.X.xe)(I:Nat→Fy)(i0:∃m,I m ρ O)
  (step:∀m ρ' O',I m ρ' O'→WT Z ρ' O' c fun b O1=>if b=true then Eo Z ρ' O1 body {nx:=fun ρ2 O2=>∃m',m'<m∧I m' ρ2 O2,rt:=Ψ.rt,bk:=Ψ.nx,ct:=fun ρ2 O2=>∃m',m'<m∧I m' ρ2 O2} else Ψ.nx ρ' O1):WS Z ρ O (.While c body [] pos) Ψ:=by
 refine PS.weak (Pw hp Ze LS) fun D σ H q=>?_
 obtain⟨m0,i0⟩:=i0
 refine⟨fun m σ' H'=>∃ρ' O',I m ρ' O'∧Asr Z ρ' O' σ' H'∧Kp O H O' H',⟨m0,ρ,O,i0,q.1,.refl⟩,?_⟩
 rintro m σ1 H1 ⟨ρ1,O1,i1,a1,k1⟩
 refine⟨ρ1,O1,_,step m ρ1 O1 i1,a1,fun b H2 O2 p f=>?_⟩
 have kk:=k1.trans f.kp
 cases b with
 |true=>
  rw[if_pos rfl] at p
  show if true=true then _ else _
  rw[if_pos rfl]
  refine⟨fun σ2 H3=>∃ρ2 O3,(∃m',m'<m∧I m' ρ2 O3)∧Asr Z ρ2 O3 σ2 H3∧Kp O H O3 H3,?_,ρ1,O2,_,p,a1.step f,?_⟩
  ·rintro σ2 H3 ⟨ρ2,O3,⟨m',hm,i2⟩,a2,k2⟩
   exact⟨m',hm,ρ2,O3,i2,a2,k2⟩
  ·exact⟨fun ρ' O' σ' H' w a k=> ⟨ρ',O',w,a,kk.trans k⟩,q.2.rt,fun ρ' O' σ' H' w a k=>q.2.nx ρ' O' σ' H' w a (kk.trans k),fun ρ' O' σ' H' w a k=> ⟨ρ',O',w,a,kk.trans k⟩⟩
 |false=>
  rw[if_neg eC] at p
  show if false=true then _ else _
  rw[if_neg eC]
  exact q.2.nx ρ1 O2 σ1 H2 p (a1.step f) kk
theorem UE(hk:∀H,OwnOk Z.K O1 H→Kp O1 H O2 H∧OwnOk Z.K O2 H)(hf:∀b us vs,Z.Oe b=some us→O1 b=some vs→∃us',O2 b=some us')(h:Eo Z ρ O2 ss Ψ):Eo Z ρ O1 ss Ψ:=PSs.weak h fun D σ H q=>by
 obtain⟨k,ok⟩:=hk H q.1.ok
 exact⟨⟨q.1.rl.kp k q.1.ok,⟨q.1.fr.kp.trans k,fun b us e=>by
  obtain⟨vs,e'⟩:=q.1.fr.own b us e
  exact hf b us vs e e',ok⟩⟩,q.2.step k⟩
end
section
variable{O:AI}{rs:List (Addr×List T)}{r:Addr×List T}{p q l:Addr}{us vs:List T}
def GA(O:AI)(rs:List (Addr×List T)):AI:=rs.foldl (fun O r=>AZ O r.1 r.2) O
theorem Bo:GA O (r::rs)=GA (AZ O r.1 r.2) rs:=rfl
theorem Lb:GA O (rs++[r])=AZ (GA O rs) r.1 r.2:=by unfold GA;rw[List.foldl_append];rfl
theorem Cd(h:∀r∈rs,r.1≠p):GA O rs p=O p:=by
 induction rs generalizing O with
 |nil=>rfl
 |cons r rs ih=>
  rw[Bo,ih fun s hs=>h s (eF _ hs),AQ (fun z=>h r (eY ..) z.symm)]
theorem RQ(h:∀r∈rs,r.1≠p):AZ (GA O rs) p vs=GA (AZ O p vs) rs:=by
 induction rs generalizing O with
 |nil=>rfl
 |cons r rs ih=>
  rw[Bo,ih fun s hs=>h s (eF _ hs),Bo,BK (h r (eY ..))]
theorem Cn(hn:(rs.map fK).Nodup)(h:r∈rs):GA O rs r.1=some r.2:=by
 induction rs generalizing O with
 |nil=>cases h
 |cons s rs ih=>
  rw[eT,fu] at hn
  rw[Bo]
  rcases eJ.mp h with rfl|h
  ·rw[Cd fun s hs z=>hn.1 (eQ.mpr ⟨s,hs,z⟩),AF]
  ·exact ih hn.2 h
theorem UF{i:Nat}(hn:(rs.map fK).Nodup)(h:rs[i]?=some (p,us)):AZ (GA O rs) p vs=GA O (rs.set i (p,vs)):=by
 induction rs generalizing O i with
 |nil=>simp at h
 |cons s rs ih=>
  rw[eT,fu] at hn
  cases i with
  |zero=>
   simp at h
   subst h
   rw[List.set_cons_zero,Bo,Bo,RQ fun s hs z=>hn.1 (eQ.mpr ⟨s,hs,z⟩),BE]
  |succ i=>
   rw[List.set_cons_succ,Bo,Bo]
   exact ih hn.2 (by simpa using h)
theorem UG{i:Nat}(h:rs[i]?=some (p,us)):(rs.set i (p,vs)).map fK=rs.map fK:=by
 rw[jJ]
 apply gI
 intro m
 by_cases hm:i=m
 ·subst hm
  have hl:=(eB.mp h).1
  rw[eZ (by simpa using hl),c9,h];rfl
 ·rw[fc hm]
def Bu(r:Addr×List T):T:=.raw (.ref r.1)
theorem Lc{K:a8}{H:Hp}{O:AI}:∀{rs:List (Addr×List T)} {xs:List V},Reps K O H xs (rs.map Bu)→xs=rs.map fun r=>V.ref r.1
 | [],_,h=>h.nil_inv
 |r::rs,_,h=>by
  obtain⟨v,vs',rfl,h1,h2⟩:=h.cons_inv
  cases h1.raw_inv
  rw[Lc h2];rfl
theorem Ld{K:a8}{H:Hp}{O:AI}:∀{rs:List (Addr×List T)},(∀r∈rs,Rep K O H (.ref r.1) (.lst r.2))→Reps K O H (rs.map fun r=>V.ref r.1) (rs.map fun r=>T.lst r.2)
 | [],_=> .nil
 |r::rs,h=> .cons (h r (eY ..)) (Ld fun s hs=>h s (eF _ hs))
theorem Le{Z:Zx}{ρ:List (Option T)}{ss:List Stmt}{Ψ:Es}(hn:(rs.map fK).Nodup)(hl:∀r∈rs,r.1≠l)(ho:∀r∈rs,O r.1=none)(he:∀r∈rs,Z.Oe r.1=none)
  (h:Eo Z ρ (AZ O l (rs.map fun r=>T.lst r.2)) ss Ψ):Eo Z ρ (AZ (GA O rs) l (rs.map Bu)) ss Ψ:=by
 refine UE (fun H ok=>?_) (fun b us vs e1 e2=>?_) h
 ·have k:Kp (AZ (GA O rs) l (rs.map Bu)) H (AZ O l (rs.map fun r=>T.lst r.2)) H:=fun b o hb n=> ⟨hb,by
   by_cases h1:b=l
   ·rw[h1,AF] at n;cases n
   ·rw[AQ h1] at n ⊢
    by_cases h2:∃r∈rs,r.1=b
    ·obtain⟨r,hr,rfl⟩:=h2
     exact ho r hr
    ·rw[Cd fun r hr z=>h2 ⟨r,hr,z⟩] at n
     exact n⟩
  refine⟨k,fun a ts e=>?_⟩
  by_cases h1:a=l
  ·subst h1
   rw[AF] at e
   cases e
   obtain⟨xs,hx,rx⟩:=ok a _ AF
   have:=Lc rx
   subst this
   refine⟨_,hx,Ld fun r hr=>?_⟩
   obtain⟨ys,hy,ry⟩:=ok r.1 r.2 (by rw[AQ (hl r hr)];exact Cn hn hr)
   exact .lst hy (by rw[AQ (hl r hr)];exact ho r hr) (ry.kp k ok)
  ·rw[AQ h1] at e
   have hz:∀r∈rs,r.1≠a:=fun r hr z=>by rw[←z,ho r hr] at e;cases e
   obtain⟨xs,hx,rx⟩:=ok a ts (by rw[AQ h1,Cd hz];exact e)
   exact⟨xs,hx,rx.kp k ok⟩
 ·by_cases h1:b=l
  ·rw[h1];exact⟨_,AF⟩
  ·rw[AQ h1] at e2 ⊢
   by_cases h2:∃r∈rs,r.1=b
   ·obtain⟨r,hr,rfl⟩:=h2
    rw[he r hr] at e1;cases e1
   ·rw[Cd fun r hr z=>h2 ⟨r,hr,z⟩] at e2
    exact⟨_,e2⟩
end
theorem Fh{Z:Zx}{ρ:List (Option T)}{O:AI}{elt tg iter:Expr}{ifs:List Expr}{csc:Scope}{nc:List Str}{cap:List (Str×Nat)}{pos:Pos}{i:Nat}{x:Str}{px spos:Pos}{Ψ:Es}(hsw:kQ (.ListComp elt [⟨tg,iter,ifs,0⟩] csc pos) (some (.Name x px)) spos.line Z.X.env=pure true)(hN:Z.X.N.Nodup)(hc:Z.X.calm=true)(ok:LcOk Z.X csc nc cap)
  (h:WI Z ρ O tg iter (Tv Z ρ elt tg ifs csc nc cap fun acc O'=>∀a,O' a=none→Ψ.nx (ρ.set i (some (.raw (.ref a)))) (AZ O' a acc))) (hx:Z.X.N[i]?=some x:=by rfl) (hk:Z.X.env.scope.names.lookup x=some .local:=by rfl)
  (hs:∀x,gY iter Z.X.env x=pure x:=by intro _;rfl):WS Z ρ O (.Assign [.Name x px] (.ListComp elt [⟨tg,iter,ifs,0⟩] csc pos) spos) Ψ:=
 PS.weak (Ks hN hx hk hsw hc ok h XM Qx XN hs) fun D σ H q=>Qy q.1 h fun acc O' p H' p1 n f nb=>q.2.nx _ _ _ H' (p1 p n) ⟨(q.1.step f).rl.set (.raw _),(q.1.step f).fr⟩ f.kp
end L2.TL
namespace Gr
open L2.TL
variable{ps:List (Int×Int)}{n:Int}{S:List Int}{v u:Int}{d e s k:Nat}{fs gs:List (Option Nat)}{Aj ds:List Int}
def Adj(ps:List (Int×Int))(u v:Int):Prop:=(u,v)∈ps∨(v,u)∈ps
theorem Adj.symm(h:Adj ps u v):Adj ps v u:=Or.symm h
inductive W(ps:List (Int×Int))(S:List Int):Nat→Int→Prop
 |at{v:Int}:v∈S→W ps S 0 v
 |go {k:Nat} {u v:Int}:W ps S k u→Adj ps u v→W ps S (k+1) v
def IsD(ps:List (Int×Int))(S:List Int)(v:Int)(d:Nat):Prop:=W ps S d v∧∀j,j<d→¬W ps S j v
theorem IsD.uniq(a:IsD ps S v d)(b:IsD ps S v e):d=e:=by
 rcases iu d e with h|h|h
 ·exact absurd a.1 (b.2 d h)
 ·exact h
 ·exact absurd b.1 (a.2 e h)
theorem W.least(h:W ps S k v):∃d,d≤k∧IsD ps S v d:=by
 induction k using mR with
 |_ k ih=>
  by_cases hx:∃j,j<k∧W ps S j v
  ·obtain⟨j,hj,w⟩:=hx
   obtain⟨d,hd,i⟩:=ih j hj w
   exact⟨d,by omega,i⟩
  ·exact⟨k,dv _,h,fun j hj w=>hx ⟨j,hj,w⟩⟩
theorem IsD.prev(h:IsD ps S v (s+1)):∃u,IsD ps S u s∧Adj ps u v:=by
 obtain⟨w,m⟩:=h
 cases w with
 |go w a=>exact⟨_,⟨w,fun j hj w'=>m (j+1) (by omega) (.go w' a)⟩,a⟩
def EZ(n:Int)(ps:List (Int×Int)):Prop:=∀p∈ps,0≤p.1∧p.1<p.2∧p.2<n
theorem Adj.inb(hw:EZ n ps)(h:Adj ps u v):0≤v∧v<n∧u≠v:=by
 rcases h with h|h
 ·have:=hw _ h
  simp only at this
  omega
 ·have:=hw _ h
  simp only at this
  omega
theorem W.inb(hw:EZ n ps)(hS:∀z∈S,0≤z∧z<n)(h:W ps S k v):0≤v∧v<n:=by
 cases h with
 |«at» h=>exact hS _ h
 |go _ a=>exact⟨(a.inb hw).1,(a.inb hw).2.1⟩
theorem IsD.lt(hw:EZ n ps)(hS:∀z∈S,0≤z∧z<n)(h:IsD ps S v s):(s:Int)<n:=by
 have key:∃L:List Nat,L.length=s+1∧L.Nodup∧∀u∈L,∃i,i≤s∧IsD ps S (u:Int) i:=by
  induction s generalizing v with
  |zero=>
   have:=h.1.inb hw hS
   refine⟨[v.toNat],rfl,by simp,fun u hu=> ⟨0,dv _,?_⟩⟩
   rw[dr.mp hu,iJ this.1]
   exact h
  |succ s ih=>
   obtain⟨u,hu,_⟩:=h.prev
   obtain⟨L,l1,l2,l3⟩:=ih hu
   have hb:=h.1.inb hw hS
   refine⟨v.toNat::L,by simp[l1],fu.mpr ⟨fun hm=>?_,l2⟩,fun z hz=>?_⟩
   ·obtain⟨i,hi,q⟩:=l3 _ hm
    rw[iJ hb.1] at q
    have:=q.uniq h
    omega
   ·rcases eJ.mp hz with rfl|hz
    ·exact⟨s+1,dv _,by rw[iJ hb.1];exact h⟩
    ·obtain⟨i,hi,q⟩:=l3 z hz
     exact⟨i,by omega,q⟩
 obtain⟨L,l1,l2,l3⟩:=key
 have:=StT.CB n.toNat L l2 (fun x hx=>by
  obtain⟨i,_,q⟩:=l3 x hx
  have:=q.1.inb hw hS
  omega)
 omega
structure Fr(n:Int)(ps:List (Int×Int))(S:List Int)(s:Nat)(fs:List (Option Nat)):Prop where
 len:(fs.length:Int)=n
 eq:∀v:Int,0≤v→v<n→∀d,fs[v.toNat]?=some (some d)↔(d≤s∧IsD ps S v d)
structure All(n:Int)(ps:List (Int×Int))(S:List Int)(fs:List (Option Nat)):Prop where
 len:(fs.length:Int)=n
 eq:∀v:Int,0≤v→v<n→∀d,fs[v.toNat]?=some (some d)↔IsD ps S v d
theorem Fr.all_n(hw:EZ n ps)(hS:∀z∈S,0≤z∧z<n)(h:Fr n ps S s fs)(e:n≤(s:Int)+1):All n ps S fs:=⟨h.len,fun v v0 v1 d=>by
 rw[h.eq v v0 v1 d]
 refine⟨fun z=>z.2,fun z=> ⟨?_,z⟩⟩
 have:=z.lt hw hS
 omega⟩
theorem KA(hl:(fs.length:Int)=n)(h:∀v:Int,0≤v→v<n→∀d,fs[v.toNat]?=some (some d)↔(d=0∧v∈S)):Fr n ps S 0 fs:=⟨hl,fun v v0 v1 d=>by
 rw[h v v0 v1 d]
 constructor
 ·rintro⟨rfl,hv⟩
  exact⟨dv _,.at hv,fun j hj=>by omega⟩
 ·rintro⟨hd,w,_⟩
  have:d=0:=by omega
  subst this
  cases w with
  |«at» h=>exact⟨rfl,h⟩⟩
structure Mid(n:Int)(ps:List (Int×Int))(S:List Int)(s:Nat)(fs:List (Option Nat))(Aj ds:List Int):Prop where
 len:(fs.length:Int)=n
 eq:∀v:Int,0≤v→v<n→∀d,fs[v.toNat]?=some (some d)↔((d≤s∧IsD ps S v d)∨(d=s+1∧v∈Aj))
 sub:∀v∈Aj,IsD ps S v (s+1)
 dn:∀v∈ds,0≤v∧v<n∧∃d,fs[v.toNat]?=some (some d)
theorem Fr.mid(h:Fr n ps S s fs):Mid n ps S s fs [] []:=⟨h.len,fun v v0 v1 d=>by
 rw[h.eq v v0 v1 d]
 simp,(fun _ h=>by cases h),(fun _ h=>by cases h)⟩
theorem Mid.miss(m:Mid n ps S s fs Aj ds)(v0:0≤v)(v1:v<n)(h:fs[v.toNat]?=some (some d)):Mid n ps S s fs Aj (ds++[v]):=⟨m.len,m.eq,m.sub,fun z hz=>by
 rcases eO.mp hz with hz|hz
 ·exact m.dn z hz
 ·rw[dr.mp hz];exact⟨v0,v1,d,h⟩⟩
theorem Mid.hit(m:Mid n ps S s fs Aj ds)(v0:0≤v)(v1:v<n)(hn:fs[v.toNat]?=some none)(hu:IsD ps S u s)(a:Adj ps u v):Mid n ps S s (fs.set v.toNat (some (s+1))) (Aj++[v]) (ds++[v]):=by
 have hl:=m.len
 have hlt:v.toNat<fs.length:=by omega
 have iv:IsD ps S v (s+1):=by
  refine⟨.go hu.1 a,fun j hj w=>?_⟩
  obtain⟨d,hd,i⟩:=w.least
  have:=(m.eq v v0 v1 d).mpr (.inl ⟨by omega,i⟩)
  rw[hn] at this
  cases this
 have key:∀w:Int,0≤w→w<n→w≠v→(fs.set v.toNat (some (s+1)))[w.toNat]?=fs[w.toNat]?:=fun w w0 w1 h=>fc (by omega)
 refine⟨by rw[iL];exact hl,fun w w0 w1 d=>?_,fun w hw=>?_,fun w hw=>?_⟩
 ·by_cases h:w=v
  ·subst h
   rw[eZ hlt]
   constructor
   ·intro z
    have:d=s+1:=by cases z;rfl
    exact .inr ⟨this,by simp⟩
   ·rintro(z|z)
    ·have:=z.2.uniq iv
     omega
    ·rw[z.1]
  ·rw[key w w0 w1 h,m.eq w w0 w1 d]
   have:w∈Aj++[v]↔w∈Aj:=by simp[h]
   rw[this]
 ·rcases eO.mp hw with hw|hw
  ·exact m.sub w hw
  ·rw[dr.mp hw];exact iv
 ·rcases eO.mp hw with hw|hw
  ·obtain⟨w0,w1,d,hd⟩:=m.dn w hw
   refine⟨w0,w1,?_⟩
   by_cases h:w=v
   ·subst h;exact⟨_,eZ hlt⟩
   ·exact⟨d,by rw[key w w0 w1 h];exact hd⟩
  ·rw[dr.mp hw];exact⟨v0,v1,_,eZ hlt⟩
theorem Mid.done(m:Mid n ps S s fs Aj ds)(h:∀u v,IsD ps S u s→Adj ps u v→v∈ds):Fr n ps S (s+1) fs∧∀v,v∈Aj↔IsD ps S v (s+1):=by
 have key:∀v,IsD ps S v (s+1)→v∈Aj:=fun v i=>by
  obtain⟨u,hu,a⟩:=i.prev
  obtain⟨v0,v1,d,hd⟩:=m.dn v (h u v hu a)
  rcases(m.eq v v0 v1 d).mp hd with z|z
  ·have:=z.2.uniq i
   omega
  ·exact z.2
 refine⟨⟨m.len,fun v v0 v1 d=>?_⟩,fun v=> ⟨m.sub v,key v⟩⟩
 rw[m.eq v v0 v1 d]
 constructor
 ·rintro(z|z)
  ·exact⟨by omega,z.2⟩
  ·rw[z.1];exact⟨dv _,m.sub v z.2⟩
 ·rintro⟨h1,h2⟩
  by_cases hd:d≤s
  ·exact .inl ⟨hd,h2⟩
  ·have:d=s+1:=by omega
   subst this
   exact .inr ⟨rfl,key v h2⟩
theorem KB{L:List Int}(h:L.Nodup)(hb:∀z∈L,0≤z∧z<n):L.length≤n.toNat:=by
 have key:∀L:List Int,L.Nodup→(∀z∈L,0≤z∧z<n)→(L.map Int.toNat).Nodup:=by
  intro L
  induction L with
  |nil=>intro _ _;simp
  |cons a L ih=>
   intro h hb
   rw[fu] at h
   rw[eT,fu]
   refine⟨fun hm=>?_,ih h.2 fun z hz=>hb z (eF _ hz)⟩
   obtain⟨z,hz,e⟩:=eQ.mp hm
   have h1:=hb z (eF _ hz)
   have h2:=hb a (eY ..)
   have:z=a:=by omega
   subst this
   exact h.1 hz
 have:=StT.CB n.toNat (L.map Int.toNat) (key L h hb) (fun x hx=>by
  obtain⟨z,hz,rfl⟩:=eQ.mp hx
  have:=hb z hz
  omega)
 rw[b6] at this
 exact this
end Gr
namespace L2.TL
open PySem PySem.Spec PyProof.Rows
section
variable{X:Cx}
theorem Lf{v:V}{u:Value}(h:RelV v u):∀n,Vals (eE n v) (eE n u)
 |0=> .nil
 |n+1=> .cons h (Lf h n)
theorem Lg{u:Value}:∀(n:Nat) (acc:Array Value),oK (fun x1 x2=>x1++x2) acc (eE n [u].toArray)=acc++(eE n u).toArray
 |0,acc=>by simp
 |n+1,acc=>by
  rw[List.replicate_succ,List.foldl_cons,Lg n]
  rw[List.replicate_succ]
  apply jZ
  simp
def Zf(K:a8):R2:=fun x y H Q=>∃(a:Addr) (i:Int) (v:V),x=.ref a∧y=.int i∧EY K H a [v]∧(0≤i∧i≤1000)∧∀p,H p=none→Q (.ref p) (upd H p (.lst (eE i.toNat v)))
theorem UH:DD X (jl .Mult) (Zf X.K):=by
 intro pins s σ H x y v u Q I rx ry h
 obtain⟨a,i,e,rfl,rfl,ha,hi,q⟩:=h
 cases rx
 obtain⟨tk,rfl⟩:=ry
 obtain⟨its,rv,p,_⟩:=I.list ha
 obtain⟨⟨cls,d,data,sl⟩,k,ho,hc,hdd,hd⟩:=id p
 simp only at hc hd
 subst hc hd
 obtain⟨u1,rfl,ru⟩:=Vals.one rv
 have hf:=I.hok.fresh (dv s.heap.objs.size)
 refine wpAny_binaryOp_repeat_ref (T:="list") (U:="int") (by decide) ⟨_,ho,rfl⟩ (fun s'=>typeIs_int s' i tk) noFill_list_mul F.fills_int_mul F.slot_int_rmul repeat_list F.slot_int_index.lookup
  (nS F.slot_int_rmul (typeIs_int s i tk) F.entry_int_rmul (F.args_int_rmul_2 _ _) (lm_int_rmul_list_any i tk a [u1].toArray k d sl)
   ⟨ho,rfl,⟨_,ho,rfl⟩,nS F.slot_list_mul ⟨_,ho,rfl⟩ F.entry_list_mul (F.args_list_mul_2 _ _)
    (lm_list_mul_any a [u1].toArray k d sl i tk (by simp[Builtin.List.listFitsIndex];omega) (by simp;omega) (by simp[Builtin.List.listTooLong,sizeLine];omega)) ⟨ho,?_⟩⟩)
 have ef:oK (fun x1 x2=>x1++x2) #[] (eE (if[u1].toArray.isEmpty=true then 0 else i.toNat) [u1].toArray)=(eE i.toNat u1).toArray:=by
  show oK (fun x1 x2=>x1++x2) #[] (eE i.toNat [u1].toArray)=_
  rw[Lg]
  simp
 rw[ef]
 exact⟨.ref _,_,I.laid (t':=s.toks) (o:=.lst (eE i.toNat e)) (fun b ob q=>dm _ q) (dv _) ⟨by rw[gr,gC];omega,eE i.toNat u1,0,Lf ru _,eS _ rfl⟩,rfl,q _ hf⟩
end
section
variable{Z:Zx}{ρ:List (Option T)}{O:AI}{a b:Expr}{t:T}{Φ:BW}{pos:Pos}{i:Int}
theorem Rep.repl{K:a8}{O:AI}{H:Hp}{v:V}{t:T}(h:Rep K O H v t):∀n,Reps K O H (eE n v) (eE n t)
 |0=> .nil
 |n+1=> .cons h (Rep.repl h n)
theorem UI(ha:ET Z ρ O a (.lst [t]))(hb:ET Z ρ O b (.int i))(hi:0≤i∧i≤1000)(k:∀p,O p=none→Φ (.raw (.ref p)) (AZ O p (eE i.toNat t))):WE Z ρ O (.BinOp a .Mult b pos) Φ:=
 DT UH (ET.we ha (ET.we hb fun H v w Q ok r1 r2 q=>by
  obtain⟨a,xs,rfl,h1,_,r1⟩:=r1.lst_inv
  obtain⟨v,rfl,g⟩:=r1.one_inv
  exact⟨a,i,v,rfl,r2.int_inv,.inl (.inl h1),hi,fun l hl=>q _ _ _ _ (k l (ok.none_of hl)) (.newO ok hl (Rep.repl g _)) (.raw _)⟩))
end
section
variable{Z:Zx}{ρ:List (Option T)}{O:AI}{body:List Stmt}{Ψ:Es}{pos:Pos}
end
end L2.TL
namespace L2
open PySem PySem.Spec PyProof.Rows
section
variable{X:Cx}
end
end L2
namespace L2.TL
open PySem PySem.Spec PyProof.Rows
section
variable{Z:Zx}{ρ:List (Option T)}{O:AI}{a:Expr}{ts:List T}{p pos:Pos}
end
section
variable{Z:Zx}{ρ:List (Option T)}{O:AI}{elt tg iter:Expr}{csc:Scope}{nc:List Str}{cap:List (Str×Nat)}{pos:Pos}
end
open PySem.Calls
def Zg:T→Bool
 | .tup _=>true
 | .lst _=>true
 |_=>false
section
variable{X:Cx}
def Xe(K:a8):List V→Hp→VK→Prop:=fun xs H Q=>∃v O t,xs=[v]∧Rep K O H v t∧Zg t=true∧IM t=true∧(dT t).weight≤2^20∧(dT t).depth≤100∧Q (.str (dT t).shown) H
theorem Mp(hg:X.A.guards=some [])(hu:X.A.units+101<cLine):Au X (.builtin "repr") (Xe X.K):=by
 intro pins s σ H xs us Q I r h
 obtain⟨v,O,t,rfl,rep,sq,sh,hw,hd,q⟩:=h
 obtain⟨u,rfl,ru⟩:=Vals.one r
 obtain⟨as,rd⟩:=Rep.reads I.hok rep sh ru
 obtain⟨s1,s2,s3⟩:=Nt t sh
 have hv:∃a,v=.ref a:=by
  cases t with
  |tup ts=>obtain⟨a,_,rfl,_⟩:=rep.tup_inv;exact⟨a,rfl⟩
  |lst ts=>obtain⟨a,_,rfl,_⟩:=rep.lst_inv;exact⟨a,rfl⟩
  |_=>cases sq
 obtain⟨a,rfl⟩:=hv
 cases ru
 exact repr_of_reads' rd s1 (PyData.noDict_hsm s2) hg (by omega) (fun _ _ e=>e) (fun h' u tk hk=> ⟨.str _,H,I.kept hk,⟨u,rfl⟩,q⟩) (PyData.shown_fits (by decide) (by decide) s3 hw)
theorem Hk:Au X (.builtin "repr") (fun xs H Q=>xs=[.non]∧Q (.str "None") H):=by
 intro pins s σ H xs us Q I r h
 obtain⟨rfl,q⟩:=h
 obtain⟨u,rfl,ru⟩:=Vals.one r
 cases ru
 exact PySem.P.repr_of_none ⟨.str _,H,I.tok _,⟨_,rfl⟩,q⟩
end
section
variable{Z:Zx}{ρ:List (Option T)}{O:AI}{e a b hi:Expr}{p p2 pos:Pos}{t:T}{ts:List T}{i:Int}{Φ:BW}
theorem UJ(hg:Z.X.A.guards=some [])(hu:Z.X.A.units+101<cLine)(m:Z.X.mg "repr" =none)(h:ET Z ρ O e t)(sq:Zg t=true)(sh:IM t=true)(hw:(dT t).weight≤2^20)(hd:(dT t).depth≤100)
  (hgl:Gl Z.X "repr":=by rfl) (he:du [e] Z.X.env=(false,eval e Z.X.env)::du [] Z.X.env:=by rfl):ET Z ρ O (.Call (.Name "repr" p) [e] [] pos) (.str (dT t).shown):=
 Ax (Mp hg hu) m RJ (AJ h AC he) (fun Φ q H vs Q ok r k=>by
  obtain⟨v,rfl,r1⟩:=r.one_inv
  exact⟨v,O,t,rfl,r1,sq,sh,hw,hd,k _ H _ O q (.refl ok) (.str _)⟩) hgl (by decide) (by decide) he
theorem Hl(m:Z.X.mg "repr" =none)(h:ET Z ρ O e (.int i))(hl:i.natAbs.log2<1920)(hgl:Gl Z.X "repr":=by rfl)(he:du [e] Z.X.env=(false,eval e Z.X.env)::du [] Z.X.env:=by rfl):ET Z ρ O (.Call (.Name "repr" p) [e] [] pos) (.str (toString i)):=
 Ax IJ m RJ (AJ h AC he) (fun Φ q H vs Q ok r k=>by
  obtain⟨v,rfl,r1⟩:=r.one_inv
  cases r1.int_inv
  exact⟨i,rfl,hl,k _ H _ O q (.refl ok) (.str _)⟩) hgl (by decide) (by decide) he
theorem Lh(m:Z.X.mg "repr" =none)(h:ET Z ρ O e .non)(hgl:Gl Z.X "repr":=by rfl)(he:du [e] Z.X.env=(false,eval e Z.X.env)::du [] Z.X.env:=by rfl):ET Z ρ O (.Call (.Name "repr" p) [e] [] pos) (.str "None"):=
 Ax Hk m RJ (AJ h AC he) (fun Φ q H vs Q ok r k=>by
  obtain⟨v,rfl,r1⟩:=r.one_inv
  cases r1.non_inv
  exact⟨rfl,k _ H _ O q (.refl ok) (.str _)⟩) hgl (by decide) (by decide) he
theorem Xf(h:ET Z ρ O e (.lst ts))(h2:ET Z ρ O hi (.int i)):ET Z ρ O (.Subscript e (.Slice none (some hi) none p2) pos) (.lst (BL ts none (some i))):=fun Φ k=>by
 refine PE.weak (DW JV (BM (ρ:=ρ)) GM (Dl (BM (ρ:=ρ)))) fun σ H0 Q q=>?_
 refine⟨O,_,h (fun t O'=>t=.lst ts∧O'=O) ⟨rfl,rfl⟩,q.1,?_⟩
 rintro v H1 _ _ ⟨rfl,rfl⟩ f1 r1
 refine⟨_,_,h2 (fun t O'=>t=.int i∧O'=_) ⟨rfl,rfl⟩,q.1.step f1,?_⟩
 rintro v2 H2 _ _ ⟨rfl,rfl⟩ f2 r2
 obtain⟨a,xs,rfl,h1,_,r1⟩:=(r1.kp f2.kp f1.ok).lst_inv
 have ff:=f1.trans f2
 exact⟨i,r2.int_inv,a,xs,rfl,.inl (.inl h1),fun l hl=>q.2 _ _ _ _ k (ff.trans (.new ff.ok hl)) (.lst AW (ff.ok.none_of hl) ((r1.cut).kp (BP ff.ok hl) ff.ok))⟩
end
end L2.TL
namespace L2
open PySem PySem.Spec PySem.Calls PyProof.Rows
section
variable{prog:Program}{w:World}{A:eU}{E:Value→a9→Prop}{s:a9}
end
section
variable{X:Cx}
end
end L2
namespace L2.TL
open PySem PySem.Spec PyProof.Rows
section
variable{Z:Zx}{ρ:List (Option T)}{O:AI}{e o:Expr}{Φ:BW}{p pos apos cpos:Pos}{ns:List Int}{i:Int}{j:Nat}
end
end L2.TL
namespace SrtG
open PySem PySem.Calls PySem.W PyProof.Rows
variable{prog:Program}{w:World}{A:eU}{E:Value→a9→Prop}{s:a9}
end SrtG
namespace L2
open PySem PySem.Spec PySem.Calls PyProof.Rows SrtG
theorem By{α β:Type}{f:α→β}{o b:List β}(h:o.Perm b):∀{l:List α},b=l.map f→∃m:List α,m.Perm l∧o=m.map f:=by
 induction h with
 |nil=>
  intro l e
  cases l with
  |nil=>exact⟨[],.refl _,rfl⟩
  |cons x l=>cases e
 |cons x p ih=>
  intro l e
  cases l with
  |nil=>cases e
  |cons y l=>
   injection e with e1 e2
   obtain⟨m,h1,h2⟩:=ih e2
   exact⟨y::m,h1.cons y,by rw[eT,←h2,e1]⟩
 |swap x y t=>
  intro l e
  cases l with
  |nil=>cases e
  |cons u l=>
   cases l with
   |nil=>injection e with e1 e2;cases e2
   |cons v l=>
    injection e with e1 e2
    injection e2 with e3 e4
    exact⟨v::u::l,.swap ..,by rw[eT,eT,e1,e3,e4]⟩
 |trans p q ih1 ih2=>
  intro l e
  obtain⟨m,h1,h2⟩:=ih2 e
  obtain⟨m',h3,h4⟩:=ih1 h2
  exact⟨m',h3.trans h1,h4⟩
section
variable{prog:Program}{w:World}{A:eU}{E:Value→a9→Prop}{s:a9}{U:Heap→Value→Prop}{rk:Heap→Value→Int}{T:Value}
theorem Mq{l:Addr}{o:Obj}{vs:List Value}{n:Nat}{Q:Value→a9→Prop}(ho:s.heap.get? l=some o)(hc:o.cls=.type "list")(hd:o.data=.seq vs.toArray n)(R:Rk prog w U rk T)(ok:∀v∈vs,U s.heap v)(hn:vs.length≤9000000)
  (h:∀(h':Heap) (a:Addr) (out:List Value) (c:Nat),s.heap.get? a=none→h'.get? a=some (fU "list" out.toArray c)→(∀b o,s.heap.get? b=some o→h'.get? b=some o)→out.Perm vs→out.Pairwise (fun x y=>rk s.heap x≤rk s.heap y)→Q (.ref a) {s with heap:=h'}):
  wpAny (model prog w) A (call (.builtin "sorted") [.ref l]) Q E s:=by
 refine Calls.call_function_entry kind_sorted plain_sorted entry_sorted (args_sorted1 _) ?_
 unfold Builtin.«sorted»
 refine a7 (m:=checkCount "sorted" 1 1 _) (b9 ?_)
 refine a7 (wpAny_collect_seq l (.inl rfl) ho hc hd (fun h1 hk1=>?_) (by rw[eP,gC];omega))
 show wpAny _ _ (newList vs>>=_) _ _ _
 refine a7 (l9 ?_ (by rw[gC];omega))
 have hoL:(h1.push (fU "list" vs.toArray 0)).get? h1.objs.size=some (fU "list" vs.toArray 0):=eS _ rfl
 have keep:∀b o,s.heap.get? b=some o→(h1.push (fU "list" vs.toArray 0)).get? b=some o:=fun b o e=>dm _ (hk1 b o e)
 have ok1:∀v∈vs,U (h1.push (fU "list" vs.toArray 0)) v:=fun v hv=> (R.kept (ok v hv) fun b o _ e=>keep b o e).1
 have fin:∀(out:List Value) (c:Nat) (h':Heap),out.Perm vs→out.Pairwise (fun x y=>rk (h1.push (fU "list" vs.toArray 0)) x≤rk (h1.push (fU "list" vs.toArray 0)) y)→h'.get? h1.objs.size=some (fU "list" (lF out) c)→(∀b o,b≠h1.objs.size→(h1.push (fU "list" vs.toArray 0)).get? b=some o→h'.get? b=some o)→Q (.ref h1.objs.size) {s with heap:=h'}:=fun out c h' pm pw hg hk=>by
  refine h _ h1.objs.size out c ?_ hg (fun b o e=>?_) pm ?_
  ·cases e:s.heap.get? h1.objs.size with
   |none=>rfl
   |some o'=>exact absurd (eM (hk1 _ _ e)) (gw _)
  ·exact hk b o (fb (eM (hk1 b o e))) (keep b o e)
  ·refine gR (fun{x y} hx hy q=>?_) pw
   rw[(R.kept (ok _ (pm.mem_iff.mp hx)) fun b o _ e=>keep b o e).2,(R.kept (ok _ (pm.mem_iff.mp hy)) fun b o _ e=>keep b o e).2] at q
   exact q
 show wpAny _ _ _ _ _ {s with heap:=h1.push (fU "list" vs.toArray 0)}
 refine a7 (fI (gz slot_list_sort ⟨_,hoL,rfl⟩ entry_list_sort ?body (args_list_sort _)))
 by_cases hlen:vs.length<2
 ·refine StT.LL (s:={s with heap:=h1.push (fU "list" vs.toArray 0)}) hoL hlen fun c h2 hg hk=> ⟨_,rfl,b9 ⟨_,rfl,fin vs c h2 (.refl _) ?_ hg hk⟩⟩
  match vs,hlen with
  | [],_=>exact .nil
  | [x],_=>exact i5 _ _
 ·exact LJ (s:={s with heap:=h1.push (fU "list" vs.toArray 0)}) hoL R ok1 (by omega) hn fun out c h' pm pw hg hk=> ⟨_,rfl,b9 ⟨_,rfl,fin out c h' pm pw hg hk⟩⟩
end
section
variable{X:Cx}{pins:List (Addr×Obj)}{σ:St}{H:Hp}{s:a9}
end
end L2
namespace L2.TL
open PySem PySem.Spec PyProof.Rows SrtG
section
variable{K:a8}{O:AI}{H:Hp}
end
section
variable{Z:Zx}{ρ:List (Option T)}{O:AI}{e:Expr}{Φ:BW}{p pos:Pos}{ks:List Kd}
end
end L2.TL
namespace L2
open PySem PySem.Spec PySem.Calls PyProof.Rows
section
variable{X:Cx}
end
end L2
namespace L2.TL
open PySem PySem.Spec PySem.Calls PyProof.Rows
section
variable{K:a8}{O:AI}{H H':Hp}
end
section
variable{Z:Zx}{ρ:List (Option T)}{O:AI}{e a b:Expr}{Φ:BW}{p pos:Pos}{d:Addr}{qs:List (Str×T)}{x:Str}{t:T}
end
section
variable{Z:Zx}{ρ:List (Option T)}{O:AI}{a b tg:Expr}{i j:Int}{pos:Pos}{n:Str}{ad:Addr}{xs:List V}
end
section
variable{Z:Zx}{ρ:List (Option T)}{O:AI}{x y z:Str}{p1 p2 p3 pos:Pos}{k:Nat}{ad:Addr}{w:Str}{l m':Int}
end
end L2.TL
namespace GrR
open L2.TL
variable{R:Int→Int→Prop}{n:Int}{S:List Int}{v u:Int}{d e s k:Nat}{fs gs:List (Option Nat)}{Aj ds:List Int}
inductive W(R:Int→Int→Prop)(S:List Int):Nat→Int→Prop
 |at{v:Int}:v∈S→W R S 0 v
 |go {k:Nat} {u v:Int}:W R S k u→R u v→W R S (k+1) v
def IsD(R:Int→Int→Prop)(S:List Int)(v:Int)(d:Nat):Prop:=W R S d v∧∀j,j<d→¬W R S j v
theorem IsD.uniq(a:IsD R S v d)(b:IsD R S v e):d=e:=by
 rcases iu d e with h|h|h
 ·exact absurd a.1 (b.2 d h)
 ·exact h
 ·exact absurd b.1 (a.2 e h)
theorem W.least(h:W R S k v):∃d,d≤k∧IsD R S v d:=by
 induction k using mR with
 |_ k ih=>
  by_cases hx:∃j,j<k∧W R S j v
  ·obtain⟨j,hj,w⟩:=hx
   obtain⟨d,hd,i⟩:=ih j hj w
   exact⟨d,by omega,i⟩
  ·exact⟨k,dv _,h,fun j hj w=>hx ⟨j,hj,w⟩⟩
theorem IsD.prev(h:IsD R S v (s+1)):∃u,IsD R S u s∧R u v:=by
 obtain⟨w,m⟩:=h
 cases w with
 |go w a=>exact⟨_,⟨w,fun j hj w'=>m (j+1) (by omega) (.go w' a)⟩,a⟩
theorem IsD.down(h:IsD R S v (s+k)):∃u,IsD R S u s:=by
 induction k generalizing v with
 |zero=>exact⟨v,h⟩
 |succ k ih=>
  obtain⟨u,hu,_⟩:=IsD.prev (s:=s+k) h
  exact ih hu
def Zh(n:Int)(R:Int→Int→Prop):Prop:=∀u v,R u v→0≤v∧v<n
theorem W.inb(hw:Zh n R)(hS:∀z∈S,0≤z∧z<n)(h:W R S k v):0≤v∧v<n:=by
 cases h with
 |«at» h=>exact hS _ h
 |go _ a=>exact hw _ _ a
theorem IsD.lt(hw:Zh n R)(hS:∀z∈S,0≤z∧z<n)(h:IsD R S v s):(s:Int)<n:=by
 have key:∃L:List Nat,L.length=s+1∧L.Nodup∧∀u∈L,∃i,i≤s∧IsD R S (u:Int) i:=by
  induction s generalizing v with
  |zero=>
   have:=h.1.inb hw hS
   refine⟨[v.toNat],rfl,by simp,fun u hu=> ⟨0,dv _,?_⟩⟩
   rw[dr.mp hu,iJ this.1]
   exact h
  |succ s ih=>
   obtain⟨u,hu,_⟩:=h.prev
   obtain⟨L,l1,l2,l3⟩:=ih hu
   have hb:=h.1.inb hw hS
   refine⟨v.toNat::L,by simp[l1],fu.mpr ⟨fun hm=>?_,l2⟩,fun z hz=>?_⟩
   ·obtain⟨i,hi,q⟩:=l3 _ hm
    rw[iJ hb.1] at q
    have:=q.uniq h
    omega
   ·rcases eJ.mp hz with rfl|hz
    ·exact⟨s+1,dv _,by rw[iJ hb.1];exact h⟩
    ·obtain⟨i,hi,q⟩:=l3 z hz
     exact⟨i,by omega,q⟩
 obtain⟨L,l1,l2,l3⟩:=key
 have:=StT.CB n.toNat L l2 (fun x hx=>by
  obtain⟨i,_,q⟩:=l3 x hx
  have:=q.1.inb hw hS
  omega)
 omega
structure Fr(n:Int)(R:Int→Int→Prop)(S:List Int)(s:Nat)(fs:List (Option Nat)):Prop where
 len:(fs.length:Int)=n
 eq:∀v:Int,0≤v→v<n→∀d,fs[v.toNat]?=some (some d)↔(d≤s∧IsD R S v d)
structure All(n:Int)(R:Int→Int→Prop)(S:List Int)(fs:List (Option Nat)):Prop where
 len:(fs.length:Int)=n
 eq:∀v:Int,0≤v→v<n→∀d,fs[v.toNat]?=some (some d)↔IsD R S v d
theorem Fr.all_end(h:Fr n R S s fs)(e:∀v,¬IsD R S v s):All n R S fs:=⟨h.len,fun v v0 v1 d=>by
 rw[h.eq v v0 v1 d]
 refine⟨fun z=>z.2,fun z=> ⟨?_,z⟩⟩
 by_cases hd:d≤s
 ·exact hd
 ·obtain⟨k,rfl⟩:∃k,d=s+k:=⟨d-s,by omega⟩
  obtain⟨u,hu⟩:=z.down
  exact absurd hu (e u)⟩
theorem KA(hl:(fs.length:Int)=n)(h:∀v:Int,0≤v→v<n→∀d,fs[v.toNat]?=some (some d)↔(d=0∧v∈S)):Fr n R S 0 fs:=⟨hl,fun v v0 v1 d=>by
 rw[h v v0 v1 d]
 constructor
 ·rintro⟨rfl,hv⟩
  exact⟨dv _,.at hv,fun j hj=>by omega⟩
 ·rintro⟨hd,w,_⟩
  have:d=0:=by omega
  subst this
  cases w with
  |«at» h=>exact⟨rfl,h⟩⟩
structure Mid(n:Int)(R:Int→Int→Prop)(S:List Int)(s:Nat)(fs:List (Option Nat))(Aj ds:List Int):Prop where
 len:(fs.length:Int)=n
 eq:∀v:Int,0≤v→v<n→∀d,fs[v.toNat]?=some (some d)↔((d≤s∧IsD R S v d)∨(d=s+1∧v∈Aj))
 sub:∀v∈Aj,IsD R S v (s+1)
 dn:∀v∈ds,0≤v∧v<n∧∃d,fs[v.toNat]?=some (some d)
theorem Fr.mid(h:Fr n R S s fs):Mid n R S s fs [] []:=⟨h.len,fun v v0 v1 d=>by
 rw[h.eq v v0 v1 d]
 simp,(fun _ h=>by cases h),(fun _ h=>by cases h)⟩
theorem Mid.miss(m:Mid n R S s fs Aj ds)(v0:0≤v)(v1:v<n)(h:fs[v.toNat]?=some (some d)):Mid n R S s fs Aj (ds++[v]):=⟨m.len,m.eq,m.sub,fun z hz=>by
 rcases eO.mp hz with hz|hz
 ·exact m.dn z hz
 ·rw[dr.mp hz];exact⟨v0,v1,d,h⟩⟩
theorem Mid.hit(m:Mid n R S s fs Aj ds)(v0:0≤v)(v1:v<n)(hn:fs[v.toNat]?=some none)(hu:IsD R S u s)(a:R u v):Mid n R S s (fs.set v.toNat (some (s+1))) (Aj++[v]) (ds++[v]):=by
 have hl:=m.len
 have hlt:v.toNat<fs.length:=by omega
 have iv:IsD R S v (s+1):=by
  refine⟨.go hu.1 a,fun j hj w=>?_⟩
  obtain⟨d,hd,i⟩:=w.least
  have:=(m.eq v v0 v1 d).mpr (.inl ⟨by omega,i⟩)
  rw[hn] at this
  cases this
 have key:∀w:Int,0≤w→w<n→w≠v→(fs.set v.toNat (some (s+1)))[w.toNat]?=fs[w.toNat]?:=fun w w0 w1 h=>fc (by omega)
 refine⟨by rw[iL];exact hl,fun w w0 w1 d=>?_,fun w hw=>?_,fun w hw=>?_⟩
 ·by_cases h:w=v
  ·subst h
   rw[eZ hlt]
   constructor
   ·intro z
    have:d=s+1:=by cases z;rfl
    exact .inr ⟨this,by simp⟩
   ·rintro(z|z)
    ·have:=z.2.uniq iv
     omega
    ·rw[z.1]
  ·rw[key w w0 w1 h,m.eq w w0 w1 d]
   have:w∈Aj++[v]↔w∈Aj:=by simp[h]
   rw[this]
 ·rcases eO.mp hw with hw|hw
  ·exact m.sub w hw
  ·rw[dr.mp hw];exact iv
 ·rcases eO.mp hw with hw|hw
  ·obtain⟨w0,w1,d,hd⟩:=m.dn w hw
   refine⟨w0,w1,?_⟩
   by_cases h:w=v
   ·subst h;exact⟨_,eZ hlt⟩
   ·exact⟨d,by rw[key w w0 w1 h];exact hd⟩
  ·rw[dr.mp hw];exact⟨v0,v1,_,eZ hlt⟩
theorem Mid.done(m:Mid n R S s fs Aj ds)(h:∀u v,IsD R S u s→R u v→v∈ds):Fr n R S (s+1) fs∧∀v,v∈Aj↔IsD R S v (s+1):=by
 have key:∀v,IsD R S v (s+1)→v∈Aj:=fun v i=>by
  obtain⟨u,hu,a⟩:=i.prev
  obtain⟨v0,v1,d,hd⟩:=m.dn v (h u v hu a)
  rcases(m.eq v v0 v1 d).mp hd with z|z
  ·have:=z.2.uniq i
   omega
  ·exact z.2
 refine⟨⟨m.len,fun v v0 v1 d=>?_⟩,fun v=> ⟨m.sub v,key v⟩⟩
 rw[m.eq v v0 v1 d]
 constructor
 ·rintro(z|z)
  ·exact⟨by omega,z.2⟩
  ·rw[z.1];exact⟨dv _,m.sub v z.2⟩
 ·rintro⟨h1,h2⟩
  by_cases hd:d≤s
  ·exact .inl ⟨hd,h2⟩
  ·have:d=s+1:=by omega
   subst this
   exact .inr ⟨rfl,key v h2⟩
theorem Mid.fresh(m:Mid n R S s fs Aj ds)(v0:0≤v)(v1:v<n)(hn:fs[v.toNat]?=some none):v∉Aj:=fun h=>by
 have:=(m.eq v v0 v1 (s+1)).mpr (.inr ⟨rfl,h⟩)
 rw[hn] at this
 cases this
variable{R D L:Int→Int→Prop}{n:Int}{S:List Int}{u v a b:Int}{d k:Nat}{fs:List (Option Nat)}
open Classical in
def IP (R:Int→Int→Prop) (S:List Int) (v:Int):Option Nat:=if h:∃d,IsD R S v d then some (choose h) else none
theorem Bp(h:IsD R S v d):IP R S v=some d:=by
 unfold IP
 have hx:∃d,IsD R S v d:=⟨d,h⟩
 rw[dif_pos hx]
 exact congrArg some ((Classical.choose_spec hx).uniq h)
theorem Et:IP R S v=some d↔IsD R S v d:=by
 refine⟨fun e=>?_,Bp⟩
 unfold IP at e
 split at e
 ·rename_i h
  cases e
  exact Classical.choose_spec h
 ·cases e
theorem Iy{S':List Int}{v':Int}{R':Int→Int→Prop}(h:∀d,IsD R S v d↔IsD R' S' v' d):IP R S v=IP R' S' v':=by
 cases e:IP R S v with
 |some d=>exact(Bp ((h d).mp (Et.mp e))).symm
 |none=>
  cases e':IP R' S' v' with
  |none=>rfl
  |some d=>rw[Bp ((h d).mpr (Et.mp e'))] at e;cases e
theorem All.get(al:All n R S fs)(v0:0≤v)(v1:v<n):fs[v.toNat]?=some (IP R S v):=by
 have hl:=al.len
 have hlt:v.toNat<fs.length:=by omega
 cases e:IP R S v with
 |some d=>exact(al.eq v v0 v1 d).mpr (Et.mp e)
 |none=>
  rw[dt hlt]
  cases z:fs[v.toNat] with
  |none=>rfl
  |some d=>
   have:=(al.eq v v0 v1 d).mp (by rw[dt hlt,z])
   rw[Bp this] at e
   cases e
theorem W.mono(h:∀u v,L u v→D u v)(w:W L S k v):W D S k v:=by
 induction w with
 |«at» h=>exact .at h
 |go _ a ih=>exact .go ih (h _ _ a)
theorem W.cut(h:∀u v,D u v→L u v∨u=b)(w:W D S k v):W L S k v∨∃j,j<k∧W L S j b:=by
 induction w with
 |«at» h=>exact .inl (.at h)
 | @go k u v w a ih=>
  rcases ih with w'| ⟨j,hj,w'⟩
  ·rcases h _ _ a with l|rfl
   ·exact .inl (.go w' l)
   ·exact .inr ⟨k,by omega,w'⟩
  ·exact .inr ⟨j,by omega,w'⟩
theorem UK(h1:∀u v,L u v→D u v)(h2:∀u v,D u v→L u v∨u=b):IsD D S b d↔IsD L S b d:=by
 constructor
 ·rintro⟨w,m⟩
  refine⟨?_,fun j hj w'=>m j hj (w'.mono h1)⟩
  rcases w.cut h2 with w'| ⟨j,hj,w'⟩
  ·exact w'
  ·exact absurd (w'.mono h1) (m j hj)
 ·rintro⟨w,m⟩
  refine⟨w.mono h1,fun j hj w'=>?_⟩
  rcases w'.cut h2 with w'| ⟨i,hi,w'⟩
  ·exact m j hj w'
  ·exact m i (by omega) w'
theorem W.consR{p q:Int}(a:R p q)(h:W R [q] k v):W R [p] (k+1) v:=by
 induction h with
 |«at» h=>rw[dr.mp h];exact .go (.at (by simp)) a
 |go _ b ih=>exact .go ih b
theorem W.rev(sy:∀u v,R u v→R v u)(h:W R [a] k v):W R [v] k a:=by
 induction h with
 |«at» h=>rw[dr.mp h];exact .at (by simp)
 |go _ b ih=>exact .consR (sy _ _ b) ih
theorem Ny(sy:∀u v,R u v→R v u):IsD R [a] b d↔IsD R [b] a d:=
 ⟨fun h=> ⟨h.1.rev sy,fun j hj w=>h.2 j hj (w.rev sy)⟩,fun h=> ⟨h.1.rev sy,fun j hj w=>h.2 j hj (w.rev sy)⟩⟩
theorem UL{ps:List (Int×Int)}:Gr.W ps S k v↔W (Gr.Adj ps) S k v:=by
 constructor
 ·intro h
  induction h with
  |«at» h=>exact .at h
  |go _ a ih=>exact .go ih a
 ·intro h
  induction h with
  |«at» h=>exact .at h
  |go _ a ih=>exact .go ih a
theorem Xg{ps:List (Int×Int)}:Gr.IsD ps S v d↔IsD (Gr.Adj ps) S v d:=
 ⟨fun h=> ⟨UL.mp h.1,fun j hj w=>h.2 j hj (UL.mpr w)⟩,fun h=> ⟨UL.mpr h.1,fun j hj w=>h.2 j hj (UL.mp w)⟩⟩
theorem Xh{ps:List (Int×Int)}(h:Gr.All n ps S fs):All n (Gr.Adj ps) S fs:=⟨h.len,fun v v0 v1 d=> (h.eq v v0 v1 d).trans Xg⟩
variable{R:Int→Int→Prop}{a b p q:Int}{L M:List Int}{k d s:Nat}
def Ch(R:Int→Int→Prop):List Int→Prop
 |a::b::L=>R a b∧Ch R (b::L)
 |_=>True
theorem Ch.tail(h:Ch R (a::L)):Ch R L:=by
 cases L with
 |nil=>trivial
 |cons b L=>exact h.2
theorem Hm:Ch R (L++a::M)↔Ch R (L++[a])∧Ch R (a::M):=by
 induction L with
 |nil=>exact⟨fun h=> ⟨trivial,h⟩,fun h=>h.2⟩
 |cons x L ih=>
  cases L with
  |nil=>exact⟨fun h=> ⟨⟨h.1,trivial⟩,h.2⟩,fun h=> ⟨h.1.1,h.2⟩⟩
  |cons y L=>
   constructor
   ·intro h
    have:=ih.mp h.2
    exact⟨⟨h.1,this.1⟩,this.2⟩
   ·intro h
    exact⟨h.1.1,ih.mpr ⟨h.1.2,h.2⟩⟩
theorem GS:Ch R (L++[a]++[b])↔Ch R (L++[a])∧R a b:=by
 rw[gk]
 exact Hm.trans ⟨fun h=> ⟨h.1,h.2.1⟩,fun h=> ⟨h.1,h.2,trivial⟩⟩
theorem RS(sy:∀u v,R u v→R v u):∀{L:List Int},Ch R L→Ch R L.reverse
 | [],_=>trivial
 | [a],_=>trivial
 |a::b::L,h=>by
  have:=RS sy h.2
  rw[iw,iw] at*
  exact GS.mpr ⟨this,sy _ _ h.1⟩
structure Ring(R:Int→Int→Prop)(L:List Int):Prop where
 len:3≤L.length
 nd:L.Nodup
 ch:Ch R L
 cl:∀a z,L.head?=some a→L.getLast?=some z→R z a
theorem Li(sy:∀u v,R u v→R v u):∀{p q:List Int} {a z:Int},Ch R (a::p)→Ch R (a::q)→(a::p).Nodup→(a::q).Nodup→(a::p).getLast?=some z→(a::q).getLast?=some z→p≠q→∃L,Ring R L∧L.length≤p.length+q.length
 | [],[],a,z,_,_,_,_,_,_,ne=>absurd rfl ne
 | [],c::q,a,z,_,_,_,nq,lp,lq,_=>by
  have e:z=a:=by simpa using lp.symm
  subst e
  rw[fY] at lq
  exact absurd (iX lq) (fu.mp nq).1
 |b::p,[],a,z,_,_,np,_,lp,lq,_=>by
  have e:z=a:=by simpa using lq.symm
  subst e
  rw[fY] at lp
  exact absurd (iX lp) (fu.mp np).1
 |b::p,c::q,a,z,hp,hq,np,nq,lp,lq,ne=>by
  rw[fY] at lp lq
  by_cases e:b=c
  ·subst e
   obtain⟨L,r,l⟩:=Li sy hp.2 hq.2 (fu.mp np).2 (fu.mp nq).2 lp lq (fun z=>ne (by rw[z]))
   exact⟨L,r,by simp only[eD];omega⟩
  ·--the first of the second way that lies on the first
   have key:∀Q:List Int,(∃m∈Q,m∈b::p)→∃x m y,Q=x++m::y∧m∈b::p∧∀t∈x,t∉b::p:=by
    intro Q
    induction Q with
    |nil=>rintro⟨m,hm,_⟩;cases hm
    |cons t Q ih=>
     intro h
     by_cases ht:t∈b::p
     ·exact⟨[],t,Q,rfl,ht,fun _ h=>by cases h⟩
     ·obtain⟨m,hm,hm2⟩:=h
      rcases eJ.mp hm with rfl|hm
      ·exact absurd hm2 ht
      ·obtain⟨x,m,y,e,h1,h2⟩:=ih ⟨m,hm,hm2⟩
       refine⟨t::x,m,y,by rw[e];rfl,h1,fun u hu=>?_⟩
       rcases eJ.mp hu with rfl|hu
       ·exact ht
       ·exact h2 u hu
   obtain⟨x,m,y,eq,hm,hx⟩:=key (c::q) ⟨z,iX lq,iX lp⟩
   obtain⟨u,v,ep⟩:=List.append_of_mem hm
   have ha1:=(fu.mp np).1
   have ha2:=(fu.mp nq).1
   have n1:=(fu.mp np).2
   have n2:=(fu.mp nq).2
   rw[eq] at ha2 n2 hq
   have hum:∀t,t∈u++[m]→t∈b::p:=fun t ht=>by
    rw[ep];simp only[eO,eJ,fW,or_false] at ht ⊢;rcases ht with h|h
    ·exact .inl h
    ·exact .inr (.inl h)
   have l1:(b::p).length=u.length+(v.length+1):=by rw[ep];simp
   have l2:(c::q).length=x.length+(y.length+1):=by rw[eq];simp
   simp only[eD] at l1 l2
   refine⟨a::(u++[m]++x.reverse),⟨?_,?_,?_,?_⟩,?_⟩
   ·simp only[eD,eK,j6,fL]
    cases u with
    |cons _ _=>simp only[eD];omega
    |nil=>
     cases x with
     |cons _ _=>simp only[eD];omega
     |nil=>
      have e1:b=m:=by simpa using(List.cons.inj ep).1
      have e2:c=m:=by simpa using(List.cons.inj eq).1
      exact absurd (e1.trans e2.symm) e
   ·rw[fu]
    refine⟨fun h=>?_,?_⟩
    ·rcases eO.mp h with h|h
     ·exact ha1 (hum _ h)
     ·exact ha2 (gK _ (mB.mp h))
    ·rw[fX]
     rw[ep] at n1
     refine⟨?_,List.pairwise_reverse.mpr ((fX.mp n2).1.imp Ne.symm),fun t ht w hw e=>hx w (mB.mp hw) (e▸hum t ht)⟩
     have:=fX.mp (show(u++m::v).Nodup from n1)
     rw[fX]
     exact⟨this.1,by simp,fun t ht w hw=>this.2.2 t ht w (by rw[dr.mp hw];simp)⟩
   ·have h1:Ch R ((a::u)++[m]):=(Hm (M:=v)).mp (by rw[j5,←ep];exact hp)|>.1
    have h2:Ch R (m::x.reverse):=by
     have:Ch R (x++[m]):=((Hm (L:=a::x) (M:=y)).mp hq).1.tail
     have:=RS sy this
     rwa[lA] at this
    have:=(Hm (L:=a::u) (a:=m) (M:=x.reverse)).mpr ⟨h1,h2⟩
    rwa[show a::(u++[m]++x.reverse)=(a::u)++m::x.reverse by simp]
   ·intro a' z' h1 h2
    have:a'=a:=by simpa using h1.symm
    subst this
    cases x with
    |nil=>
     have e2:c=m:=by simpa using(List.cons.inj eq).1
     have:z'=m:=by
      rw[List.reverse_nil,gE,←j5,List.getLast?_append] at h2
      simpa using h2.symm
     rw[this]
     exact sy _ _ hq.1
    |cons t x=>
     have:z'=t:=by
      rw[iw,←gk,←j5,List.getLast?_append] at h2
      simpa using h2.symm
     rw[this]
     exact sy _ _ hq.1
   ·simp only[eD,eK,j6,fL]
    omega
theorem Nz(h:IsD R [p] q d):∃L,L.length=d+1∧L.head?=some p∧L.getLast?=some q∧L.Nodup∧Ch R L∧∀x∈L,∃i,i≤d∧IsD R [p] x i:=by
 induction d generalizing q with
 |zero=>
  have:q=p:=by
   cases h.1 with
   |«at» h=>exact dr.mp h
  subst this
  exact⟨[q],rfl,rfl,rfl,by simp,trivial,fun x hx=>by rw[dr.mp hx];exact⟨0,dv _,h⟩⟩
 |succ d ih=>
  obtain⟨u,hu,r⟩:=h.prev
  obtain⟨L,l1,l2,l3,l4,l5,l6⟩:=ih hu
  obtain⟨M,rfl⟩:∃M,L=M++[u]:=iN.mp l3
  refine⟨M++[u]++[q],by simp only[eK,eD,fL] at l1 ⊢;omega,?_,by simp,?_,GS.mpr ⟨l5,r⟩,fun x hx=>?_⟩
  ·rw[kN,l2];rfl
  ·rw[fX]
   refine⟨l4,by simp,fun x hx y hy e=>?_⟩
   rw[dr.mp hy] at e
   subst e
   obtain⟨i,hi,hd⟩:=l6 x hx
   have:=hd.uniq h
   omega
  ·rcases eO.mp hx with hx|hx
   ·obtain⟨i,hi,hd⟩:=l6 x hx
    exact⟨i,by omega,hd⟩
   ·rw[dr.mp hx];exact⟨d+1,dv _,h⟩
theorem PV:∀{L:List Int} {p q:Int},Ch R (p::L)→(p::L).getLast?=some q→W R [p] L.length q
 | [],p,q,_,h=>by
  have:q=p:=by simpa using h.symm
  rw[this];exact .at (by simp)
 |b::L,p,q,hc,h=>by
  rw[fY] at h
  exact .consR hc.1 (PV hc.2 h)
theorem KC{i:Nat}(h:Ch R L):Ch R (L.take i):=by
 by_cases hi:i<L.length
 ·have e:L=L.take i++L[i]::L.drop (i+1):=by rw[jK,gW]
  rw[e] at h
  have h1:=(Hm.mp h).1
  generalize L.take i=A at*
  clear e h
  induction A with
  |nil=>trivial
  |cons x A ih=>
   cases A with
   |nil=>trivial
   |cons y A=>exact⟨h1.1,ih h1.2⟩
 ·rw[List.take_of_length_le (by omega)];exact h
theorem OA{i:Nat}(h:Ch R L):Ch R (L.drop i):=by
 induction i generalizing L with
 |zero=>exact h
 |succ i ih=>
  cases L with
  |nil=>trivial
  |cons a L=>exact ih h.tail
theorem RU(sy:∀u v,R u v→R v u)(h:Ring R (p::L))(least:∀M,Ring R M→(p::L).length≤M.length){i:Nat}(hi:i<L.length):IsD R [p] L[i] (min (i+1) (L.length-i)):=by
 have hl:(L.take (i+1)).getLast?=some L[i]:=by
  rw[List.getLast?_take,if_neg (by omega)]
  simp[dt hi]
 have w1:W R [p] (i+1) L[i]:=by
  have hc:Ch R (p::L.take (i+1)):=KC (i:=i+2) h.ch
  have:=PV hc (q:=L[i]) (by
   cases e:L.take (i+1) with
   |nil=>rw[e] at hl;cases hl
   |cons x A=>rw[fY,←e];exact hl)
  rwa[fk,Nat.min_eq_left (by omega)] at this
 obtain⟨z,hz⟩:∃z,(p::L).getLast?=some z:=⟨_,List.getLast?_cons⟩
 have w2:W R [p] (L.length-i) L[i]:=by
  have e:L.drop i=L[i]::L.drop (i+1):=(jK ..).symm
  have hc:Ch R (L[i]::L.drop (i+1)):=e▸OA (i:=i) h.ch.tail
  have hz2:(L[i]::L.drop (i+1)).getLast?=some z:=by
   rw[←e,List.getLast?_drop,if_neg (by omega)]
   cases L with
   |nil=>cases hi
   |cons x A=>rwa[fY] at hz
  have:=(PV hc hz2).rev sy
  have:=this.consR (sy _ _ (h.cl p z rfl hz))
  rwa[gi,show L.length- (i+1)+1=L.length-i by omega] at this
 have hw:W R [p] (min (i+1) (L.length-i)) L[i]:=by
  by_cases c:i+1≤L.length-i
  ·rw[Nat.min_eq_left c];exact w1
  ·rw[Nat.min_eq_right (by omega)];exact w2
 obtain⟨d,hd,hD⟩:=hw.least
 by_cases e:d=min (i+1) (L.length-i)
 ·rw[←e];exact hD
 ·exfalso
  obtain⟨M,m1,m2,m3,m4,m5,_⟩:=Nz hD
  cases M with
  |nil=>cases m2
  |cons x M=>
   have:x=p:=by simpa using m2
   subst this
   obtain⟨Q,r,l⟩:=Li (p:=M) (q:=L.take (i+1)) sy m5 (KC (i:=i+2) h.ch) m4 (by
    exact List.Nodup.sublist (kK (i+2) (x::L)) h.nd) m3 (by
    cases e:L.take (i+1) with
    |nil=>rw[e] at hl;cases hl
    |cons y A=>rw[fY,←e];exact hl) (fun z=>by
     have:=congrArg List.length z
     rw[fk] at this
     simp only[eD] at m1
     omega)
   have:=least Q r
   simp only[eD,fk] at this l m1
   omega
variable{R:Int→Int→Prop}{nb:Int→List Int}{c:Nat→Int→Bool}{a b p q v:Int}{L M r:List Int}{rs:List (List Int)}{k d s:Nat}{n:Int}
def lst(r:List Int):Int:=r.getLastD 0
def UM(nb:Int→List Int)(c:Int→Bool)(r:List Int):List (List Int):=((nb (lst r)).filter fun v=>c v&&!decide (v∈r)).map fun v=>r++[v]
def GB(nb:Int→List Int)(c:Int→Bool)(rs:List (List Int)):List (List Int):=rs.flatMap (UM nb c)
def Ea(nb:Int→List Int)(c:Nat→Int→Bool)(p:Int):Nat→List (List Int)
 |0=> [[p]]
 |k+1=>GB nb (c (k+1)) (Ea nb c p k)
structure Way(R:Int→Int→Prop)(c:Nat→Int→Bool)(p:Int)(k:Nat)(r:List Int):Prop where
 len:r.length=k+1
 hd:r.head?=some p
 nd:r.Nodup
 ch:Ch R r
 ok:∀i v,1≤i→r[i]?=some v→c i v=true
theorem RV(h:r.getLast?=some a):lst r=a:=by
 unfold lst
 rw[List.getLastD_eq_getLast?,h];rfl
theorem Co(h:r≠[]):r.getLast?=some (lst r):=by
 cases e:r.getLast? with
 |none=>exact absurd (List.getLast?_eq_none_iff.mp e) h
 |some a=>rw[RV e]
theorem Eu(hR:∀u v,v∈nb u↔R u v):r∈Ea nb c p k↔Way R c p k r:=by
 induction k generalizing r with
 |zero=>
  constructor
  ·intro h
   rw[dr.mp h]
   exact⟨rfl,rfl,by simp,trivial,fun i v hi h=>by
    cases i with
    |zero=>omega
    |succ i=>cases h⟩
  ·rintro⟨h1,h2,_⟩
   match r,h1,h2 with
   | [x],_,h2=>
    have:x=p:=by simpa using h2
    rw[this];exact dr.mpr rfl
 |succ k ih=>
  constructor
  ·intro h
   obtain⟨r',hr',h⟩:=kT.mp h
   obtain⟨v,hv,rfl⟩:=eQ.mp h
   obtain⟨hv1,hv2⟩:=fD.mp hv
   rw[fx] at hv2
   have hv3:v∉r':=by simpa using hv2.2
   obtain⟨w1,w2,w3,w4,w5⟩:=ih.mp hr'
   have hne:r'≠[]:=fun z=>by rw[z] at w1;cases w1
   obtain⟨M,e⟩:=iN.mp (Co hne)
   refine⟨by rw[eK,w1];rfl,by rw[kN,w2];rfl,?_,?_,fun i u hi h=>?_⟩
   ·rw[fX]
    exact⟨w3,by simp,fun x hx y hy e=>hv3 (by rw[←dr.mp hy,←e];exact hx)⟩
   ·rw[e]
    exact GS.mpr ⟨e▸w4,(hR _ _).mp hv1⟩
   ·by_cases hl:i<r'.length
    ·rw[fq hl] at h
     exact w5 i u hi h
    ·rw[e8 (by omega)] at h
     have:i-r'.length=0:=by
      cases z:i-r'.length with
      |zero=>rfl
      |succ z'=>rw[z] at h;simp at h
     rw[this] at h
     have hu:v=u:=by simpa using h
     have hi2:i=k+1:=by omega
     rw[←hu,hi2];exact hv2.1
  ·rintro⟨w1,w2,w3,w4,w5⟩
   have hne:r≠[]:=fun z=>by rw[z] at w1;cases w1
   obtain⟨M,e⟩:=iN.mp (Co hne)
   generalize lst r=v at e
   subst e
   have hlM:M.length=k+1:=by simpa using w1
   have hneM:M≠[]:=fun z=>by rw[z] at hlM;cases hlM
   obtain⟨N,eN⟩:=iN.mp (Co hneM)
   rw[fX] at w3
   have hadj:R (lst M) v:=by
    have:Ch R (N++[lst M]++[v]):=by rw[←eN];exact w4
    exact(GS.mp this).2
   refine kT.mpr ⟨M,ih.mpr ⟨hlM,?_,w3.1,?_,fun i u hi h=>?_⟩,eQ.mpr ⟨v,fD.mpr ⟨(hR _ _).mpr hadj,?_⟩,rfl⟩⟩
   ·rw[kN] at w2
    cases M with
    |nil=>exact absurd rfl hneM
    |cons x M=>exact w2
   ·have:=KC (i:=M.length) w4
    rwa[List.take_left] at this
   ·refine w5 i u hi ?_
    rw[fq (eB.mp h).1];exact h
   ·rw[fx]
    refine⟨w5 (k+1) v (by omega) ?_,by simpa using fun h=>w3.2.2 v h v (by simp) rfl⟩
    rw[e8 (by omega),hlM];simp
def rk(r:List Int):Int:=r.foldl (fun a v=>a*32+v) 0
theorem Ew:rk (r++[v])=rk r*32+v:=by unfold rk;rw[List.foldl_append];rfl
theorem Mr{c:Int→Bool}(hs:∀u,(nb u).Pairwise (· < ·))(hb:∀u v,v∈nb u→0≤v∧v<32)(h:rs.Pairwise fun x y=>rk x<rk y):(GB nb c rs).Pairwise fun x y=>rk x<rk y:=by
 unfold GB
 rw[List.pairwise_flatMap]
 refine⟨fun r _=>?_,jS (fun{x y} hxy=>?_) h⟩
 ·unfold UM
  rw[hC]
  refine jS (fun{u v} huv=>?_) ((hs (lst r)).filter _)
  rw[Ew,Ew];omega
 ·intro x' hx' y' hy'
  obtain⟨u,hu,rfl⟩:=eQ.mp hx'
  obtain⟨v,hv,rfl⟩:=eQ.mp hy'
  have:=hb _ _ (fD.mp hu).1
  have:=hb _ _ (fD.mp hv).1
  rw[Ew,Ew];omega
theorem Hn(hs:∀u,(nb u).Pairwise (· < ·))(hb:∀u v,v∈nb u→0≤v∧v<32):(Ea nb c p k).Pairwise fun x y=>rk x<rk y:=by
 induction k with
 |zero=>exact i5 ..
 |succ k ih=>exact Mr hs hb ih
theorem RW(hb:∀u v,v∈nb u→0≤v∧v<32)(h:r∈Ea nb c p k):p*32^k≤rk r∧rk r< (p+1)*32^k:=by
 induction k generalizing r with
 |zero=>
  rw[dr.mp h]
  show p*1≤0*32+p∧0*32+p< (p+1)*1
  omega
 |succ k ih=>
  obtain⟨r',hr',h⟩:=kT.mp h
  obtain⟨v,hv,rfl⟩:=eQ.mp h
  have h1:=ih hr'
  have h2:=hb _ _ (fD.mp hv).1
  rw[Ew,oh,←nP,←nP]
  generalize p*32^k=A at*
  generalize (p+1)*32^k=B at*
  omega
theorem VR:∀{xs ys:List (List Int)},xs.Pairwise (fun x y=>rk x<rk y)→ys.Pairwise (fun x y=>rk x<rk y)→(∀v,v∈xs↔v∈ys)→xs=ys
 | [],[],_,_,_=>rfl
 | [],y::_,_,_,h=>by have:=(h y).mpr (by simp);cases this
 |x::_,[],_,_,h=>by have:=(h x).mp (by simp);cases this
 |x::xs,y::ys,hx,hy,h=>by
  rw[List.pairwise_cons] at hx hy
  have e:x=y:=by
   rcases eJ.mp ((h x).mp (by simp)) with e|h1
   ·exact e
   ·rcases eJ.mp ((h y).mpr (by simp)) with e|h2
    ·exact e.symm
    ·have:=hy.1 x h1
     have:=hx.1 y h2
     omega
  subst e
  rw[VR hx.2 hy.2 fun v=>?_]
  constructor
  ·intro hv
   rcases eJ.mp ((h v).mp (eF _ hv)) with e|h1
   ·have:=hx.1 v hv
    rw[e] at this
    omega
   ·exact h1
  ·intro hv
   rcases eJ.mp ((h v).mpr (eF _ hv)) with e|h1
   ·have:=hy.1 v hv
    rw[e] at this
    omega
   ·exact h1
theorem Ho{F:Int→List (List Int)}(hF:∀p,(F p).Pairwise fun x y=>rk x<rk y)(hk:∀p r,r∈F p→p*32^k≤rk r∧rk r< (p+1)*32^k){m:Nat}:((eW m).flatMap fun(i:Nat)=>F (i:Int)).Pairwise fun x y=>rk x<rk y:=by
 rw[List.pairwise_flatMap]
 refine⟨fun i _=>hF i,jS (fun{i j} hij=>?_) kL⟩
 intro x hx y hy
 have h1:=(hk _ _ hx).2
 have h2:=(hk _ _ hy).1
 have:((i:Int)+1)*32^k≤(j:Int)*32^k:=iV (by omega) (Int.pow_nonneg (by decide))
 omega
def bu(m:Nat):Nat→Nat
 |0=>1
 |k+1=>bu m k*(m-k)
theorem Ex{α β:Type}{f:α→List β}{m:Nat}:∀{xs:List α},(∀x∈xs,(f x).length≤m)→(xs.flatMap f).length≤xs.length*m
 | [],_=>by simp
 |x::xs,h=>by
  have h1:=h x (by simp)
  have h2:=Ex (f:=f) (m:=m) (xs:=xs) fun y hy=>h y (eF _ hy)
  rw[lZ,eK,eD,Nat.add_mul,Nat.one_mul]
  omega
theorem UN(hR:∀u v,v∈nb u↔R u v)(hn:∀u,(nb u).Nodup)(hb:∀u v,v∈nb u→0≤v∧v<n)(hp:0≤p∧p<n):(Ea nb c p k).length≤bu (n.toNat-1) k:=by
 induction k with
 |zero=>exact dv _
 |succ k ih=>
  refine fo (Ex (m:=n.toNat-1-k) fun r hr=>?_) (Nat.mul_le_mul_right _ ih)
  unfold UM
  rw[b6]
  obtain⟨w1,w2,w3,w4,w5⟩:=(Eu hR).mp hr
  have hin:∀z∈r,0≤z∧z<n:=by
   have key:∀{L:List Int} {x:Int},0≤x∧x<n→Ch R (x::L)→∀z∈x::L,0≤z∧z<n:=by
    intro L
    induction L with
    |nil=>intro x hx _ z hz;rw[dr.mp hz];exact hx
    |cons y L ih=>
     intro x hx hc z hz
     rcases eJ.mp hz with rfl|hz
     ·exact hx
     ·exact ih (hb _ _ ((hR _ _).mpr hc.1)) hc.2 z hz
   cases r with
   |nil=>intro z hz;cases hz
   |cons x r=>
    have:x=p:=by simpa using w2
    subst this
    exact key hp w4
  have:=Gr.KB (n:=n) (L:=r++(nb (lst r)).filter fun v=>c (k+1) v&&!decide (v∈r)) (by
   rw[fX]
   refine⟨w3,(hn _).filter _,fun x hx y hy e=>?_⟩
   have:=(fD.mp hy).2
   rw[fx] at this
   have:y∉r:=by simpa using this.2
   exact this (e▸hx)) (fun z hz=>by
    rcases eO.mp hz with hz|hz
    ·exact hin z hz
    ·exact hb _ _ (fD.mp hz).1)
  rw[eK,w1] at this
  omega
variable{R R':Int→Int→Prop}{nb:Int→List Int}{a b p q v:Int}{L M r:List Int}{k d s:Nat}{n:Int}
def VS(R:Int→Int→Prop)(a b u v:Int):Prop:=R u v∧¬(u=a∧v=b)∧¬(u=b∧v=a)
theorem KE:∀{L:List Int},Ch R L→(∀u∈L,∀v∈L,R u v→R' u v)→Ch R' L
 | [],_,_=>trivial
 | [_],_,_=>trivial
 |a::b::L,h,m=> ⟨m a (by simp) b (by simp) h.1,KE h.2 fun u hu v hv=>m u (eF _ hu) v (eF _ hv)⟩
theorem Xj(h:Ring R r):∃a b,R a b∧W (VS R a b) [b] (r.length-1) a:=by
 match r,h with
 | [],h=>exact absurd h.len (by decide)
 | [_],h=>exact absurd h.len (by show¬3≤1;decide)
 | [_,_],h=>exact absurd h.len (by show¬3≤2;decide)
 |x::y::t::L,h=>
  have hne:(t::L)≠[]:=by simp
  have hz:(x::y::t::L).getLast?=some (lst (t::L)):=by
   rw[fY,fY];exact Co hne
  have hmz:lst (t::L)∈t::L:=iX (Co hne)
  generalize lst (t::L)=z at hz hmz
  have nd:=h.nd
  rw[fu,fu] at nd
  refine⟨z,x,h.cl x z rfl hz,?_⟩
  refine PV (L:=y::t::L) ⟨⟨h.ch.1,fun e=>?_,fun e=>?_⟩,KE h.ch.2 fun u hu v hv r=> ⟨r,fun e=>?_,fun e=>?_⟩⟩ hz
  ·exact nd.1 (e.2▸eY ..)
  ·exact nd.2.1 (e.2▸hmz)
  ·exact nd.1 (e.2▸hv)
  ·exact nd.1 (e.1▸hu)
theorem UO(sy:∀u v,R u v→R v u)(ir:∀u,¬R u u)(h:R a b)(hd:IsD (VS R a b) [a] b d):∃r,Ring R r∧r.length=d+1:=by
 obtain⟨L,l1,l2,l3,l4,l5,_⟩:=Nz hd
 refine⟨L,⟨?_,l4,KE l5 fun u _ v _ c=>c.1,fun x z h1 h2=>?_⟩,l1⟩
 ·match d,hd with
  |0,hd=>
   cases hd.1 with
   |«at» hm=>rw[dr.mp hm] at h;exact absurd h (ir _)
  |1,hd=>
   cases hd.1 with
   |go w c=>
    cases w with
    |«at» hm=>rw[dr.mp hm] at c;exact absurd ⟨rfl,rfl⟩ c.2.1
  |d+2,_=>omega
 ·rw[l2] at h1
  rw[l3] at h2
  cases h1
  cases h2
  exact sy _ _ h
theorem PX(sy:∀u v,R u v→R v u)(h:Ring R (p::L)){i:Nat}(hi:i<L.length):W R [p] (L.length-i) L[i]:=by
 obtain⟨z,hz⟩:∃z,(p::L).getLast?=some z:=⟨_,List.getLast?_cons⟩
 have e:L.drop i=L[i]::L.drop (i+1):=(jK ..).symm
 have hc:Ch R (L[i]::L.drop (i+1)):=e▸OA (i:=i) h.ch.tail
 have hz2:(L[i]::L.drop (i+1)).getLast?=some z:=by
  rw[←e,List.getLast?_drop,if_neg (by omega)]
  cases L with
  |nil=>cases hi
  |cons x A=>rwa[fY] at hz
 have:=(PV hc hz2).rev sy
 have:=this.consR (sy _ _ (h.cl p z rfl hz))
 rwa[gi,show L.length- (i+1)+1=L.length-i by omega] at this
def CU(R:Int→Int→Prop)(s:Nat)(p:Int)(i:Nat)(v:Int):Bool:=match IP R [p] v with
 |some d=>decide (d≤s-i)
 |none=>false
def IQ(R:Int→Int→Prop)(s:Nat)(p:Int)(i:Nat)(v:Int):Bool:=decide (IP R [p] v=some (min i (s-i)))
def Fj(R:Int→Int→Prop)(nb:Int→List Int)(s:Nat)(p:Int):List (List Int):=(Ea nb (CU R s p) p (s-1)).filter fun r=>decide (p∈nb (lst r))
def DL(R:Int→Int→Prop)(nb:Int→List Int)(s:Nat)(p:Int):List (List Int):=Ea nb (IQ R s p) p (s-1)
def Bq(R:Int→Int→Prop)(nb:Int→List Int)(s m:Nat):List (List Int):=(eW m).flatMap fun(i:Nat)=>Fj R nb s (i:Int)
def RX(R:Int→Int→Prop)(nb:Int→List Int)(s m:Nat):List (List Int):=(eW m).flatMap fun(i:Nat)=>DL R nb s (i:Int)
theorem RY(sy:∀u v,R u v→R v u)(hR:∀u v,v∈nb u↔R u v)(hs:3≤s):r∈Fj R nb s p↔Ring R r∧r.length=s∧r.head?=some p:=by
 unfold Fj
 rw[fD,Eu hR]
 constructor
 ·rintro⟨⟨w1,w2,w3,w4,w5⟩,hc⟩
  have hl:r.length=s:=by omega
  refine⟨⟨by omega,w3,w4,fun x z h1 h2=>?_⟩,hl,w2⟩
  rw[w2] at h1
  cases h1
  rw[←RV h2]
  exact(hR _ _).mp (of_decide_eq_true hc)
 ·rintro⟨h,hl,hp⟩
  cases r with
  |nil=>cases hp
  |cons x L=>
   have:x=p:=by simpa using hp
   subst this
   have hl':L.length+1=s:=hl
   refine⟨⟨by simp only[eD];omega,rfl,h.nd,h.ch,fun i v hi e=>?_⟩,decide_eq_true ((hR _ _).mpr (h.cl x _ rfl (Co (by simp))))⟩
   cases i with
   |zero=>omega
   |succ i=>
    rw[iF] at e
    obtain⟨hi',rfl⟩:=eB.mp e
    obtain⟨d,hd,hD⟩:=(PX sy h hi').least
    unfold CU
    rw[Bp hD]
    exact decide_eq_true (by omega)
theorem RZ(sy:∀u v,R u v→R v u)(hR:∀u v,v∈nb u↔R u v)(hs:3≤s)(least:∀M,Ring R M→s≤M.length):r∈DL R nb s p↔Ring R r∧r.length=s∧r.head?=some p:=by
 unfold DL
 rw[Eu hR]
 constructor
 ·rintro⟨w1,w2,w3,w4,w5⟩
  have hl:r.length=s:=by omega
  refine⟨⟨by omega,w3,w4,fun x z h1 h2=>?_⟩,hl,w2⟩
  rw[w2] at h1
  cases h1
  have hz:r[s-1]?=some z:=by rw[List.getLast?_eq_getElem?,hl] at h2;exact h2
  have:=of_decide_eq_true (w5 (s-1) z (by omega) hz)
  rw[show min (s-1) (s- (s-1))=1 by omega] at this
  obtain⟨u,hu,a⟩:=(Et.mp this).prev
  cases hu.1 with
  |«at» hm=>rw[dr.mp hm] at a;exact sy _ _ a
 ·rintro⟨h,hl,hp⟩
  cases r with
  |nil=>cases hp
  |cons x L=>
   have:x=p:=by simpa using hp
   subst this
   have hl':L.length+1=s:=hl
   refine⟨by simp only[eD];omega,rfl,h.nd,h.ch,fun i v hi e=>?_⟩
   cases i with
   |zero=>omega
   |succ i=>
    rw[iF] at e
    obtain⟨hi',rfl⟩:=eB.mp e
    have:=RU sy h (fun M hM=>by simp only[eD];have:=least M hM;omega) hi'
    unfold IQ
    rw[Bp this]
    exact decide_eq_true (by congr 2;omega)
theorem GT(hb:∀u v,R u v→0≤v∧v<n)(h:Ring R r):∀z∈r,0≤z∧z<n:=by
 have key:∀{L:List Int} {x:Int},0≤x∧x<n→Ch R (x::L)→∀z∈x::L,0≤z∧z<n:=by
  intro L
  induction L with
  |nil=>intro x hx _ z hz;rw[dr.mp hz];exact hx
  |cons y L ih=>
   intro x hx hc z hz
   rcases eJ.mp hz with rfl|hz
   ·exact hx
   ·exact ih (hb _ _ hc.1) hc.2 z hz
 cases r with
 |nil=>intro z hz;cases hz
 |cons x L=>exact key (hb _ _ (h.cl x _ rfl (Co (by simp)))) h.ch
theorem Lj{F:Int→List (List Int)}{P:List Int→Prop}(hb:∀r,P r→∃p,r.head?=some p∧0≤p∧p<n)(h:∀p r,r∈F p↔P r∧r.head?=some p):r∈((eW n.toNat).flatMap fun(i:Nat)=>F (i:Int))↔P r:=by
 rw[kT]
 constructor
 ·rintro⟨i,_,hi⟩
  exact((h _ _).mp hi).1
 ·intro hp
  obtain⟨p,h1,h2,h3⟩:=hb r hp
  refine⟨p.toNat,fy.mpr (by omega),(h _ _).mpr ⟨hp,?_⟩⟩
  rw[h1,iJ h2]
theorem Iz(hb:∀u v,R u v→0≤v∧v<n)(h:Ring R r):∃p,r.head?=some p∧0≤p∧p<n:=by
 cases r with
 |nil=>exact absurd h.len (by decide)
 |cons x L=>exact⟨x,rfl,GT hb h x (by simp)⟩
theorem Cw(sy:∀u v,R u v→R v u)(hR:∀u v,v∈nb u↔R u v)(hb:∀u v,R u v→0≤v∧v<n)(hs:3≤s):r∈Bq R nb s n.toNat↔Ring R r∧r.length=s:=
 Lj (P:=fun r=>Ring R r∧r.length=s) (fun r h=>Iz hb h.1) fun p r=> (RY sy hR hs).trans and_assoc.symm
theorem Ra(sy:∀u v,R u v→R v u)(hR:∀u v,v∈nb u↔R u v)(hb:∀u v,R u v→0≤v∧v<n)(hs:3≤s)(least:∀M,Ring R M→s≤M.length):r∈RX R nb s n.toNat↔Ring R r∧r.length=s:=
 Lj (P:=fun r=>Ring R r∧r.length=s) (fun r h=>Iz hb h.1) fun p r=> (RZ sy hR hs least).trans and_assoc.symm
theorem GC(hs:∀u,(nb u).Pairwise (· < ·))(hb:∀u v,v∈nb u→0≤v∧v<32){m:Nat}:(Bq R nb s m).Pairwise fun x y=>rk x<rk y:=
 Ho (F:=Fj R nb s) (k:=s-1) (fun p=>fv.filter _ (Hn hs hb)) fun p r h=>RW hb (fD.mp h).1
theorem Lk(hs:∀u,(nb u).Pairwise (· < ·))(hb:∀u v,v∈nb u→0≤v∧v<32){m:Nat}:(RX R nb s m).Pairwise fun x y=>rk x<rk y:=
 Ho (F:=DL R nb s) (k:=s-1) (fun p=>Hn hs hb) fun p r h=>RW hb h
theorem UP(sy:∀u v,R u v→R v u)(hR:∀u v,v∈nb u↔R u v)(hb:∀u v,R u v→0≤v∧v<n)(hn:n≤32)(hp:∀u,(nb u).Pairwise (· < ·))(hs:3≤s)(least:∀M,Ring R M→s≤M.length):Bq R nb s n.toNat=RX R nb s n.toNat:=by
 have hb':∀u v,v∈nb u→0≤v∧v<32:=fun u v h=>by have:=hb u v ((hR u v).mp h);omega
 exact VR (GC hp hb') (Lk hp hb') fun r=> (Cw sy hR hb hs).trans (Ra sy hR hb hs least).symm
end GrR
namespace L2.TL
open PySem PySem.Spec PySem.Calls PyProof.Rows PySem.Builtin PySem.Builtin.Str
section
variable{X:Cx}
end
section
variable{Z:Zx}{ρ:List (Option T)}{O:AI}{a b o e:Expr}{t:T}{Φ:BW}{pos p apos cpos:Pos}{i j:Str}{xs:List Str}
end
section
variable{X:Cx}
end
section
variable{Z:Zx}{ρ:List (Option T)}{O:AI}{a b o e:Expr}{t:T}{Φ:BW}{pos p apos cpos:Pos}{i j:Str}{xs:List Str}
end
section
variable{Z:Zx}{ρ:List (Option T)}{O:AI}{e elt tg iter:Expr}{ifs:List Expr}{csc:Scope}{nc:List Str}{cap:List (Str×Nat)}{Φ:BW}{pos:Pos}
end
theorem Cy{i:Int}:∀{ns:List Int},((dTs (ns.map T.int)).any fun y=>iD y (dT (.int i)))=decide (i∈ns)
 | []=>rfl
 |n::ns=>by
  show((n==i)|| (dTs (ns.map T.int)).any fun y=>iD y (dT (.int i)))=_
  rw[Cy,ic]
  simp only[Bool.or_eq_true,decide_eq_true_eq,eJ,beq_iff_eq]
  constructor
  ·rintro(h|h)
   ·exact .inl h.symm
   ·exact .inr h
  ·rintro(h|h)
   ·exact .inl h.symm
   ·exact .inr h
end L2.TL
namespace L2
open PySem PySem.Spec PySem.Calls PyProof.Rows
section
variable{prog:Program}{w:World}{A:eU}{R:ow→a9→Prop}{I:Addr}{fp wr:List Addr}{n:Nat}{P:Nat→Value→Prop}{St:Nat→Heap→Prop}
theorem Ey:(toString "min" ++toString ".loop" :String)= "min.loop":=by decide
theorem PY{kw:List (Str×Value)}(W:Walks prog w A.in1 I fp wr n P St)(bt:Nat→Nat→Bool)(hcmp:CmpOf prog w A.in1 .Lt P bt)(S:Addr)(hSf:S∉fp):
  ∀(k j:Nat) (s:a9) (vb:Value) (c:Nat),n- (j+1)=k→j+1≤n→St (j+1) s.heap→P (mG bt j) vb→
  s.heap.get? S=some {cls:=.type "list",dict:=none,data:=.seq #[vb,vb] c,slots:=#[]}→
  (∀v h' tk,P (mG bt (n-1)) v→(∀b o,b∉wr→b≠S→s.heap.get? b=some o→h'.get? b=some o)→R (.ok (.ret v)) {s with heap:=h',toks:=tk})→
  j1 (model prog w) A (.builtin "min.loop" ⟨[.ref I,.none,.ref S],kw⟩) R s:=by
 have hSw:S∉wr:=fun h=>hSf (W.sub _ h)
 intro k
 induction k with
 |zero=>
  intro j s vb c hk hj hst hPb hS hR
  have hin:j+1=n:=by omega
  refine i6 mD ?_
  rw[iY jd _]
  show wpAny _ A.in1 (nz (.ref S)>>=_) _ _ s
  refine a7 (gO hS rfl ?_)
  show wpAny _ A.in1 (tryCatch (ki (.ref I)) _>>=_) _ _ s
  refine a7 (kz (W.done s _ _ (hin▸hst) fun h' tk hk'=>?_))
  have hS':=hk' S _ hSw hS
  show wpAny _ A.in1 (updateSeq S (fun _=> #[])>>=_) _ _ _
  refine a7 (mN hS' rfl (a7 (kr (b9 ?_))))
  exact hR vb _ tk (by rw[←hin];exact hPb) fun b o hbw hbS e=> (ie _ _ (Ne.symm hbS)).trans (hk' b o hbw e)
 |succ k ih=>
  intro j s vb c hk hj hst hPb hS hR
  have hlt:j+1<n:=by omega
  refine i6 mD ?_
  rw[iY jd _]
  show wpAny _ A.in1 (nz (.ref S)>>=_) _ _ s
  refine a7 (gO hS rfl ?_)
  show wpAny _ A.in1 (tryCatch (ki (.ref I)) _>>=_) _ _ s
  refine a7 (kz (W.item (j+1) s _ _ hlt hst fun v h' tk hP hst' hk'=>?_))
  have hS':=hk' S _ hSw hS
  show wpAny _ A.in1 (tryCatch (holding [v,v] (richCompare .Lt v vb>>=_)) _>>=_) _ _ _
  refine a7 (kz (fI (a7 (hcmp (j+1) (mG bt j) v vb _ _ _ hP hPb ?_))))
  refine a7 (fI (iZ (a7 (kr (b9 ?_)))))
  cases hb:bt (j+1) (mG bt j) with
  |true=>
   simp only[if_true]
   refine a7 (mN hS' rfl (a7 (kr ?_)))
   rw[Ey]
   refine b9 ⟨jN jd _,ih (j+1) _ v _ (by omega) hlt (W.frame _ _ _ hst' fun b hbf o e=>?_) (by simp only[mG,hb,if_true];exact hP) (jh _ hS' rfl) fun v' h'' tk'' hP' hk''=>?_⟩
   ·exact(ie _ _ (fun h:S=b=>hSf (by rw[h];exact hbf))).trans e
   ·exact hR v' h'' tk'' hP' fun b o hbw hbS e=>hk'' b o hbw hbS ((ie _ _ (Ne.symm hbS)).trans (hk' b o hbw e))
  |false=>
   simp only[e9,if_false]
   refine a7 (kr ?_)
   rw[Ey]
   refine b9 ⟨jN jd _,ih (j+1) _ vb c (by omega) hlt hst' (by simp only[mG,hb,e9,if_false];exact hPb) hS' fun v' h'' tk'' hP' hk''=>?_⟩
   exact hR v' h'' tk'' hP' fun b o hbw hbS e=>hk'' b o hbw hbS (hk' b o hbw e)
theorem Ms{nm:Str}{d:Value}(W:Walks prog w A.in1 I fp wr n P St)(bt:Nat→Nat→Bool)(hcmp:CmpOf prog w A.in1 .Lt P bt)(S:Addr)(hSf:S∉fp){s:a9}{c:Nat}(hst:St 0 s.heap)
  (hS:s.heap.get? S=some {cls:=.type "list",dict:=none,data:=.seq #[] c,slots:=#[]})
  (h0:n=0→∀h' tk,(∀b o,b∉wr→b≠S→s.heap.get? b=some o→h'.get? b=some o)→R (.ok (.ret d)) {s with heap:=h',toks:=tk})
  (hR:0<n→∀v h' tk,P (mG bt (n-1)) v→(∀b o,b∉wr→b≠S→s.heap.get? b=some o→h'.get? b=some o)→R (.ok (.ret v)) {s with heap:=h',toks:=tk}):
  j1 (model prog w) A (.builtin "min.loop" ⟨[.ref I,.none,.ref S],[(nm,d)]⟩) R s:=by
 have hSw:S∉wr:=fun h=>hSf (W.sub _ h)
 refine i6 mD ?_
 rw[iY jd _]
 show wpAny _ A.in1 (nz (.ref S)>>=_) _ _ s
 refine a7 (gO hS rfl ?_)
 show wpAny _ A.in1 (tryCatch (ki (.ref I)) _>>=_) _ _ s
 by_cases hn:0<n
 ·refine a7 (kz (W.item 0 s _ _ hn hst fun v h' tk hP hst' hk'=>?_))
  have hS':=hk' S _ hSw hS
  show wpAny _ A.in1 (updateSeq S (fun _=> #[v,v])>>=_) _ _ _
  refine a7 (mN hS' rfl ?_)
  rw[Ey]
  refine b9 ⟨jN jd _,PY W bt hcmp S hSf _ 0 _ v _ rfl hn (W.frame _ _ _ hst' fun b hbf o e=>?_) hP (jh _ hS' rfl) fun v' h'' tk'' hP' hk''=>?_⟩
  ·exact(ie _ _ (fun h:S=b=>hSf (by rw[h];exact hbf))).trans e
  ·exact hR hn v' h'' tk'' hP' fun b o hbw hbS e=>hk'' b o hbw hbS ((ie _ _ (Ne.symm hbS)).trans (hk' b o hbw e))
 ·have e0:n=0:=by omega
  refine a7 (kz (W.done s _ _ (by rw[e0];exact hst) fun h' tk hk'=>?_))
  show wpAny _ A.in1 (rule _>>=fun _=>ret d) _ _ _
  exact a7 (je (b9 (h0 e0 h' tk fun b o hbw _ e=>hk' b o hbw e)))
end
section
variable{prog:Program}{w:World}{A:eU}{E:Value→a9→Prop}{s:a9}
theorem PZ{x d:Value}{Q:Value→a9→Prop}
  (h:wpAny (model prog w) A.in1 (mX x) (fun it s₂=>∃I fp wr n P St bt,it=.ref I∧Walks prog w A.in1 I fp wr n P St∧St 0 s₂.heap∧(∀b∈fp,b<s₂.heap.objs.size)∧CmpOf prog w A.in1 .Lt P bt∧
   (n=0→∀h' tk,(∀b o,b∉wr→s₂.heap.get? b=some o→h'.get? b=some o)→Q d {s₂ with heap:=h',toks:=tk})∧
   (0<n→∀v h' tk,P (mG bt (n-1)) v→(∀b o,b∉wr→s₂.heap.get? b=some o→h'.get? b=some o)→Q v {s₂ with heap:=h',toks:=tk})) E s):
  wpAny (model prog w) A (call (.builtin "min") [x] [("default",d)]) Q E s:=by
 refine mF (jk F.plain_min F.entry_min ?_)
 refine kZ (show mq "min" ⟨[x],[("default",d)]⟩=pure () by kernel_rfl) ?_
 show wpAny _ A.in1 (Builtin.Builtins.bindParams "min" ["key","default"] 0 ⟨[],[("default",d)]⟩>>=_) _ _ s
 refine a7 (kZ (show Builtin.Builtins.bindParams "min" ["key","default"] 0 ⟨[],[("default",d)]⟩=pure [none,some d] from rfl) ?_)
 refine a7 (b9 ?_)
 refine a7 (jG h (fun it s₂ h₂=>?_) fun _ _ e=>e)
 obtain⟨I,fp,wr,n,P,St,bt,rfl,W,hst,hfp,hcmp,q0,q1⟩:=h₂
 refine a7 (fV ?_)
 have hSf:s₂.heap.objs.size∉fp:=fun hm=>gw _ (hfp _ hm)
 rw[Ey]
 refine b9 ⟨jN jd _,Ms W bt hcmp s₂.heap.objs.size hSf (W.frame _ _ _ hst fun b _ o e=>dm _ e) (eS _ rfl) (fun e0 h' tk hk=>?_) fun hn v h' tk hP hk=>?_⟩
 ·exact q0 e0 h' tk fun b o hbw e=>hk b o hbw (fb (eM e)) (dm _ e)
 ·exact q1 hn v h' tk hP fun b o hbw e=>hk b o hbw (fb (eM e)) (dm _ e)
end
section
variable{M:Model}{A:eU}{E:Value→a9→Prop}{s:a9}
theorem KG{pos:Pos}{id:String}{k:Str}{x y:Sem Value}{Q:Value→a9→Prop}
  (h:wpAny M A x (fun v s₁=>wpAny M A y (fun d s₂=>wpAny M A (call (.builtin id) [v] [(k,d)]) Q E s₂) E s₁) E s):
  wpAny M A (callWith pos (.builtin id) [] [(false,x)] [(some k,y)]) Q E s:=by
 unfold callWith
 refine a7 (fI (evalArgs_kw rfl (Calls.spliced_cons (jG h (fun v s₁ h₁=>?_) fun _ _ e=>e))))
 refine Calls.spliced_nil (wpAny_evalAll_cons (jG h₁ (fun d s₂ h₂=>wpAny_evalAll_nil ?_) fun _ _ e=>e))
 refine a7 (kW ?_)
 refine a7 (b9 ?_)
 exact a7 (jG h₂ (fun r s₃ hr=>a7 (fI (wpAny_point (b9 hr)))) fun _ _ e=>e)
end
section
variable{X:Cx}
def Fk(ns:List Int):Option Int→Prop
 |none=>ns=[]
 |some m=>Qm ns m
def bw:Option Int→V
 |none=> .non
 |some m=> .int m
theorem UQ{e:Expr}{te:TE}{p pos kp np:Pos}{j:Nat}(hc:X.calm=true)(hg:Gl X "min")(hm:X.mg "min" =none)(he:PE X e te)(hn:TL.Bz e=true):
  PE X (.Call (.Name "min" p) [e] [⟨some "default",.Constant .none j np,kp⟩] pos) (fun σ H Q=>te σ H fun v H1=>∃(a:Addr) (ns:List Int),v=.ref a∧Wr X.K H1 a (ns.map V.int)∧∀m,Fk ns m→Q (bw m) H1):=by
 intro pins s σ H Q I h
 refine kh (EC I hg hm TL.XS ?_ (by decide) (by decide))
 rw[TL.Fd hn]
 refine KG (BB (he pins s σ H _ I h) fun u s1 ⟨v,H1,I1,r1,q1⟩=>?_)
 obtain⟨a,ns,rfl,hq,q⟩:=q1
 cases r1
 refine a7 ?_
 show wpAny _ _ (eval (.Constant .none j np) X.env) _ _ _
 refine b9 (a7 (kW (b9 ?_)))
 obtain⟨its,rv,lt,wk⟩:=I1.walk hq
 have hl:its.length=ns.length:=by have:=rv.length;rw[b6] at this;exact this.symm
 refine PZ (wk X.A.in1 _ _ (I1.ok.hd hc) fun o St W st=> ⟨_,_,_,_,_,_,_,rfl,W,st,fun b hb=>?_,CmpOf.ints_lt (fun i=>ns.getD i 0) (fun i v hv=>CI rv i v hv),fun e0 h' tk hk=>?_,fun hn v h' tk hP hk=>?_⟩)
 ·show b< (s1.heap.push o).objs.size
  rw[fZ]
  simp only[eJ,fW,or_false] at hb
  rcases hb with rfl|rfl
  ·exact iT _
  ·exact gZ lt
 ·exact⟨.non,H1,I1.kept (t':=tk) (FW hk),rfl,q none (List.eq_nil_of_length_eq_zero (by omega))⟩
 ·obtain⟨t,rfl⟩:=CI rv _ v hP
  obtain⟨b1,b2⟩:=argBest_lt (fun i=>ns.getD i 0) (its.length-1)
  exact⟨.int _,H1,I1.kept (t':=tk) (FW hk),⟨t,rfl⟩,q (some _) ⟨HM (by omega),fun n hn=>by
   obtain⟨j,hj,rfl⟩:=iq hn
   have:=b2 j (by omega)
   simpa[gQ,hj] using this⟩⟩
end
end L2
namespace L2.TL
open PySem PySem.Spec PySem.Calls PyProof.Rows
section
variable{Z:Zx}{ρ:List (Option T)}{O:AI}{e:Expr}{p pos kp np:Pos}{ns:List Int}{j:Nat}
def Ll:Option Int→T
 |none=> .non
 |some m=> .int m
theorem Lm{a b:Option Int}(ha:Fk ns a)(hb:Fk ns b):a=b:=by
 cases a with
 |none=>
  cases b with
  |none=>rfl
  |some m=>rw[show ns=[] from ha] at hb;exact absurd hb.1 (by simp)
 |some m=>
  cases b with
  |none=>rw[show ns=[] from hb] at ha;exact absurd ha.1 (by simp)
  |some k=>rw[Int.le_antisymm (ha.2 k hb.1) (hb.2 m ha.1)]
theorem UR{m:Option Int}(hm:Fk ns m)(mm:Z.X.mg "min" =none)(hc:Z.X.calm=true)(h:ET Z ρ O e (.lst (ns.map T.int)))(hg:Gl Z.X "min":=by rfl)(hn:Bz e=true:=by rfl):
  ET Z ρ O (.Call (.Name "min" p) [e] [⟨some "default",.Constant .none j np,kp⟩] pos) (Ll m):=fun Φ q=>
 PE.weak (UQ hc hg mm (h (fun t O'=>t=.lst (ns.map T.int)∧O'=O) ⟨rfl,rfl⟩) hn) fun σ H Q k=> ⟨k.1,by
  rintro v H' _ _ ⟨rfl,rfl⟩ f r
  obtain⟨a,xs,rfl,h1,o1,r1⟩:=r.lst_inv
  cases Reps.ints r1
  refine⟨a,ns,rfl,.inl (.inl (.inl h1)),fun m' hm'=>?_⟩
  cases Lm hm' hm
  refine k.2 _ H' _ _ q f ?_
  cases m with
  |none=>exact .non
  |some m=>exact .int m⟩
end
end L2.TL
namespace L2
open PySem PySem.Spec PySem.Calls PyProof.Rows
section
variable{prog:Program}{w:World}{A:eU}{R:ow→a9→Prop}{I:Addr}{fp wr:List Addr}{n:Nat}{P:Nat→Value→Prop}{St:Nat→Heap→Prop}
end
section
variable{prog:Program}{w:World}{A:eU}{E:Value→a9→Prop}{s:a9}
end
section
variable{X:Cx}
end
end L2
namespace L2.TL
open PySem PySem.Spec PySem.Calls PyProof.Rows
section
variable{Z:Zx}{ρ:List (Option T)}{O:AI}{e:Expr}{p pos kp np:Pos}{ns:List Int}{j:Nat}
end
end L2.TL
namespace L2
open PySem PySem.Spec PyProof.Rows
open Sem (wp)
section
variable{prog:Program}{w:World}{A:eU}{E:Value→a9→Prop}{s:a9}
end
section
variable{prog:Program}{w:World}{A:eU}{E:Value→a9→Prop}{s:a9}
end
section
variable{prog:Program}{w:World}{A:eU}{E:Value→a9→Prop}{s:a9}
end
section
variable{M:Model}{A:eU}{E:Value→a9→Prop}{s:a9}
end
section
variable{X:Cx}
end
section
variable{X:Cx}{tg:Expr}
end
end L2
namespace L2.TL
open PySem PySem.Spec PyProof.Rows
section
variable{Z:Zx}{ρ:List (Option T)}{O:AI}{a tg:Expr}{ts:List T}{p pos:Pos}
end
open PySem.Builtin PySem.Builtin.Str
section
variable{Z:Zx}{ρ:List (Option T)}{O:AI}{a b e:Expr}{p pos:Pos}{x y:Str}{i:Int}{K:a8}
end
end L2.TL
namespace K04
open PySem L2 L2.TL PySem.Spec PyProof.Rows
def top(i:Nat):Stmt:=gq.main.body.getD i (.Pass ⟨0,0,0,0⟩)
abbrev KH:Stmt:=top 1
abbrev Mt:Stmt:=top 5
abbrev KI:Stmt:=top 7
abbrev JA:Stmt:=top 8
abbrev Mu:Stmt:=top 27
abbrev KJ:Stmt:=top 2
abbrev OB:Stmt:=top 6
abbrev US:Stmt:=top 10
abbrev Hq:Stmt:=top 9
abbrev KL:Stmt:=top 11
abbrev Xk:Stmt:=top 12
abbrev UT:Stmt:=top 13
abbrev Mv:Stmt:=top 14
abbrev KM:Stmt:=top 15
abbrev Bm:Stmt:=top 28
abbrev GU:Stmt:=top 29
abbrev ER:Stmt:=top 30
abbrev Mw:Stmt:=top 31
abbrev Ln:Stmt:=top 32
structure Txt(mg:Str→Option Value):Prop where
 nInt:mg "int" =none
 nBool:mg "bool" =none
 nTuple:mg "tuple" =none
 nList:mg "list" =none
 nSet:mg "set" =none
 nRange:mg "range" =none
 nIsi:mg "isinstance" =none
 nMax:mg "max" =none
 nMin:mg "min" =none
 nLen:mg "len" =none
 nAll:mg "all" =none
 nSorted:mg "sorted" =none
 nRepr:mg "repr" =none
 nVE:mg "ValueError" =none
 nAny:mg "any" =none
 nEnum:mg "enumerate" =none
 nZip:mg "zip" =none
 nSum:mg "sum" =none
 iLeast:∃t,mg "LEAST_RING" =some (.int 3 t)
def Mx(t:T)(a b:Int):Bool:=match t with
 | .int i=>decide (a≤i)&&decide (i≤b)
 |_=>false
def AV(n:Int)(p:Int×Int):Prop:=0≤p.1∧p.1<p.2∧p.2<n
theorem EW.cast{Z:Zx}{ρ:List (Option T)}{O:AI}{e:Expr}{k l:Bool}(h:EW Z ρ O e k)(z:k=l):EW Z ρ O e l:=z▸h
theorem EB.cast{Z:Zx}{ρ:List (Option T)}{O:AI}{e:Expr}{k l:Bool}(h:EB Z ρ O e k)(z:k=l):EB Z ρ O e l:=z▸h
theorem ET.cast{Z:Zx}{ρ:List (Option T)}{O:AI}{e:Expr}{k l:T}(h:ET Z ρ O e k)(z:k=l):ET Z ρ O e l:=z▸h
section
variable{P:Program}{w:World}{K:a8}{mg:Str→Option Value}{base:Heap}
def OC:Df:=LQ fun ts r=>∃t a b,ts=[t,.int a,.int b]∧BD t=false∧r=.bl (Mx t a b)
theorem UU:FnScope ["thing","least","most"] ["thing","least","most"] (AA KH):=⟨rfl,rfl,rfl,by decide+kernel,rfl,by decide+kernel,by decide+kernel⟩
theorem Rb{f:Addr}{fd:fm}(F:Fun K "is_whole" "is_whole" KH f fd)(T:Txt mg):FnOk P w K mg base (CXe P w) 1 f fd ["thing","least","most"] (EK K OC):=by
 refine Af F UU ?_ ?_
 ·rintro ts O Φ Ξ ⟨r,⟨t,a,b,rfl,_⟩,_⟩
  rfl
 ·rintro cdv A outer s H E O Ξ hr xf _ Φ ⟨_,⟨t,a,b,rfl,ht,rfl⟩,q⟩
  refine AD (Ay (EW.eb (En (Dd (EN T.nIsi T.nInt XQ Ni (ev 0) ht)) fun _=>FY (EN T.nIsi T.nBool RA HV (ev 0) ht))) (fun h=>AH (AR (El _ ?_))) (fun h=>BI ?_))
  ·have:Mx t a b=false:=by
    cases t<;>first|rfl|cases h
   rw[this] at q;exact q
  ·cases t with
   |int i=>exact AH (AR (Ts (ev 1) (ev 0) (ev 2) (by with_unfolding_all rfl) _ q))
   |bl i=>cases h
   |raw i=>cases ht
   |_=>cases h
end
abbrev Rc:Stmt:=top 17
abbrev Re:Stmt:=top 18
abbrev Xl:Stmt:=top 19
abbrev Rf:Stmt:=top 20
abbrev KN:Stmt:=top 21
def Fl(xs:List T):Prop:=∃a b c:Int,xs=[.int a,.int b,.int c]∧0≤a∧0≤c∧c<2147483648
section
variable{P:Program}{w:World}{K:a8}{mg:Str→Option Value}{base:Heap}
def Hr(K:a8):Sp:=fun vs H Q _=>∃(a:Addr) (ns:List Int),vs=[.ref a,.int 0]∧EY K H a (ns.map V.int)∧∀i,Q (.int i) H
theorem Xm:FnScope ["_law_script","_law_k"] ["_law_script","_law_k"] (AA Rc):=⟨rfl,rfl,rfl,by decide+kernel,rfl,by decide+kernel,by decide+kernel⟩
theorem UV{f:Addr}{fd:fm}(F:Fun K "_law_cell_at" "_law_cell_at" Rc f fd)(T:Txt mg):FnOk P w K mg base (CXe P w) 1 f fd ["_law_script","_law_k"] (Hr K):=by
 refine F.okX Xm (fun vs H Q E h=>?_) (fun cdv A outer s H vs Q E hr h=>?_)
 ·obtain⟨a,ns,rfl,_⟩:=h
  rfl
 ·obtain⟨a,ns,rfl,hS,k⟩:=h
  refine⟨_,Ki (VB (NL QB (pv 1) (Ec Bx (by rfl) T.nLen RB (Eb (pv 0) Gm)) (Av _)) (JR (JS (VE Dn (pv 0) (pv 1) (fun _ _=>rfl)))) NH) (JR (JS ME)),?_⟩
  refine⟨_,rfl,_,rfl,a,_,rfl,.inl hS,_,_,rfl,rfl,_,rfl,?_⟩
  refine Wd (fun h1=>?_) (fun h1=>?_)
  ·have h1:(0:Int)< ((ns.map V.int).length:Int):=by simpa using h1
   cases ns with
   |nil=>simp at h1
   |cons n ns=>exact⟨_,rfl,_,rfl,a,_,0,.int n,rfl,rfl,hS,Ag (j:=0) rfl,k n⟩
  ·exact k 0
def Rg:Df:=fun ts O Φ _=>∃n:Int,ts=[.int n]∧∀m:Int,0≤m→m<2147483629→Φ (.int m) O
theorem Rh:FnScope ["_law_seed"] ["_law_seed"] (AA Re):=⟨rfl,rfl,rfl,by decide+kernel,rfl,by decide+kernel,by decide+kernel⟩
theorem UW{f:Addr}{fd:fm}(F:Fun K "_law_next" "_law_next" Re f fd):FnOk P w K mg base (CXe P w) 1 f fd ["_law_seed"] (EK K Rg):=by
 refine Af F Rh ?_ ?_
 ·rintro ts O Φ Ξ ⟨n,rfl,_⟩
  rfl
 ·rintro cdv A outer s H E O Ξ hr xf _ Φ ⟨n,rfl,q⟩
  have b1:=jj (n+7919) (show(2147483647:Int)≠0 by decide)
  have b2:=iW (n+7919) (show(0:Int)<2147483647 by decide)
  refine AD (AM 0 (ET.we (FX (Ba (ev 0) AB) AB (by decide)) ?_) Rh.nd)
  exact AH (AR (ET.we (FX (Ba (Ba (Jq (ev 0) (ev 0) (.inl ⟨by omega,by omega⟩)) (Jq AB (ev 0) (.inl ⟨by decide,by decide⟩))) AB) AB (by decide)) (q _ (jj _ (by decide)) (iW _ (by decide)))))
def VT:Df:=fun ts O Φ _=>∃c:Int,ts=[.int c]∧∀(p:Addr) (xs:List T),O p=none→Fl xs→Φ (.raw (.ref p)) (AZ O p xs)
theorem VU:FnScope ["_law_cell","_law_left"] ["_law_cell"] (AA Xl):=⟨rfl,rfl,rfl,by decide+kernel,rfl,by decide+kernel,by decide+kernel⟩
theorem Xn{f:Addr}{fd:fm}(F:Fun K "_law_pen_of" "_law_pen_of" Xl f fd)(T:Txt mg):FnOk P w K mg base (CXe P w) 1 f fd ["_law_cell"] (EK K VT):=by
 refine Af F VU ?_ ?_
 ·rintro ts O Φ Ξ ⟨n,rfl,_⟩
  rfl
 ·rintro cdv A outer s H E O Ξ hr xf _ Φ ⟨n,rfl,q⟩
  refine AD (AM 1 (ET.we (GR T.nMax rfl (ev 0) (CK AB (ev 0))) ?_) VU.nd)
  refine AH (AR (Dp (EA.wa (AJ (ev 1) (AJ (UA T.nInt (ZS (ev 1) (Wv AB AB ⟨by decide,by decide,by decide⟩))) (AJ (FX (ev 1) AB (by decide)) AC))) ⟨by show 3≤sizeLine;decide,fun a ha=>q a _ ha ?_⟩)))
  have b1:=jj (max n (0-n)) (show(1000003:Int)≠0 by decide)
  have b2:=iW (max n (0-n)) (show(0:Int)<1000003 by decide)
  exact⟨_,_,_,rfl,by omega,b1,by omega⟩
def BA:Df:=fun ts O Φ _=>∃(p:Addr) (xs:List T) (m:Int),ts=[.raw (.ref p),.int m]∧O p=some xs∧Fl xs∧0<m∧m<1000∧∀(r:Int) (xs':List T),0≤r→r<m→Fl xs'→Φ (.int r) (AZ O p xs')
theorem Ri:FnScope ["_law_pen","_law_many","_law_found"] ["_law_pen","_law_many"] (AA Rf):=⟨rfl,rfl,rfl,by decide+kernel,rfl,by decide+kernel,by decide+kernel⟩
theorem UX{f:Addr}{fd:fm}(F:Fun K "_law_draw" "_law_draw" Rf f fd)(G:FnT P w K mg base "_law_next" 1 ["_law_seed"] Rg):FnOk P w K mg base (CXe P w) 2 f fd ["_law_pen","_law_many"] (EK K BA):=by
 refine Af F Ri ?_ ?_
 ·rintro ts O Φ Ξ ⟨p,xs,m,rfl,_⟩
  rfl
 ·rintro cdv A outer s H E O Ξ hr xf _ Φ ⟨p,_,m,rfl,hp,⟨a,b,c,rfl,a0,c0,c1⟩,m0,m1,q⟩
  refine AD (Ay (EJ (Bb hp (ev 0) AB) AB) (fun h=>?_) (fun h=>BI ?_))
  ·refine AD (AM 2 (ET.we (FX (Bb hp (ev 0) AB) (ev 1) m0) ?_) Ri.nd)
   refine AD (EL (ET.we (Em (Bb hp (ev 0) AB) (ev 1) ⟨m0,by omega⟩) (ET.we (ev 0) ⟨p,rfl,ET.we AB ⟨_,0,0,rfl,hp,rfl,?_⟩⟩)))
   exact AH (AR (ET.we (ev 2) (q _ _ (jj _ (by omega)) (iW _ m0) ⟨a/m,b,c,rfl,Int.ediv_nonneg a0 (by omega),c0,c1⟩)))
  ·refine AD (EL (Ar G hr xf (Bg (DT FN (Ar G hr xf (EA.wa (AJ (Bb hp (ev 0) AB) AC) ⟨c,rfl,fun u u0 u1=>?_⟩))))))
   refine ET.we AB (HN _ (Al ⟨u+7,rfl,fun r r0 r1=>ET.we (ev 0) ⟨p,rfl,ET.we AB ⟨_,2,2,rfl,hp,rfl,?_⟩⟩⟩))
   exact AH (AR (ET.we (FX (Em (Bb AF (ev 0) AB) AB ⟨by decide,by decide⟩) (ev 1) m0) (q _ _ (jj _ (by omega)) (iW _ m0) ⟨a,b,r,rfl,a0,r0,by omega⟩)))
def Lo:Df:=LQ fun ts r=>∃t,ts=[t]∧BD t=false∧r=.bl (Qz t&&!Jv t)
theorem Rj:FnScope ["_law_found"] ["_law_found"] (AA KN):=⟨rfl,rfl,rfl,by decide+kernel,rfl,by decide+kernel,by decide+kernel⟩
theorem Pa{f:Addr}{fd:fm}(F:Fun K "_law_whole" "_law_whole" KN f fd)(T:Txt mg):FnOk P w K mg base (CXe P w) 1 f fd ["_law_found"] (EK K Lo):=by
 refine Af F Rj ?_ ?_
 ·rintro ts O Φ Ξ ⟨r,⟨t,rfl,_⟩,_⟩
  rfl
 ·rintro cdv A outer s H E O Ξ hr xf _ Φ ⟨_,⟨t,rfl,ht,rfl⟩,q⟩
  exact AH (AR (ET.we (XC (Ml T.nIsi T.nInt XQ Ni (ev 0) ht) fun _=>XB (XD (Ml T.nIsi T.nBool RA HV (ev 0) ht))) q))
end
abbrev Fm:Stmt:=top 22
abbrev Ez:Stmt:=top 23
abbrev GV:Stmt:=top 24
def MC(ns:List Int)(i:Int):Int:=ns.getD i.toNat 0
def nm(ns:List Int)(p:Int×Int):Int×Int:=(min (MC ns p.1) (MC ns p.2),max (MC ns p.1) (MC ns p.2))
theorem Lp{ns:List Int}{i:Int}(h0:0≤i)(h1:i<ns.length):atI (ns.map T.int) i=some (.int (MC ns i)):=by
 obtain⟨j,rfl⟩:=e7 h0
 have hj:j<ns.length:=by omega
 have:=Ag (xs:=ns.map T.int) (j:=j) (v:=.int (ns.getD j 0)) (by
  rw[c9,dt hj]
  simp[gQ,hj])
 exact this
theorem Fn{α β:Type}(f:α→β):∀(l:List α) (i:Nat),(l.eraseIdx i).map f=(l.map f).eraseIdx i
 | [],_=>rfl
 |_::_,0=>rfl
 |a::l,i+1=>by
  show f a::(l.eraseIdx i).map f=f a::(l.map f).eraseIdx i
  rw[Fn f l i]
theorem Hs{α:Type}:∀(l:List α) (i:Nat) (h:i<l.length),(l[i]::l.eraseIdx i).Perm l
 |_::_,0,_=> .refl _
 |a::l,i+1,h=> (jc.swap a (l[i]'(by simpa using h)) (l.eraseIdx i)).trans ((Hs l i (by simpa using h)).cons a)
section
variable{P:Program}{w:World}{K:a8}{mg:Str→Option Value}{base:Heap}
def KO:Df:=fun ts O Φ _=>∃(n:Int) (ps:List (Int×Int)) (ns:List Int),ts=[.tup [.int n,.tup (ps.map AG)],.tup (ns.map T.int)]∧ps.length≤300∧(∀p∈ps,0≤p.1∧p.1<ns.length∧0≤p.2∧p.2<ns.length)∧(∀z∈ns,0≤z∧z<65536)∧
 ∀qs:List (Int×Int),qs.Pairwise LX→(∀q,q∈qs↔q∈ps.map (nm ns))→qs.length≤ps.length→Φ (.tup [.int n,.tup (qs.map AG)]) O
theorem OD:FnScope ["_law_web","_law_names","_law_ties"] ["_law_web","_law_names"] (AA Fm):=⟨rfl,rfl,rfl,by decide+kernel,rfl,by decide+kernel,by decide+kernel⟩
theorem Zi:(Ai ["_law_one","_law_other"] [(("_law_names" :Str),1)]).Nodup:=by decide+kernel
theorem Zj:(Ai ["_law_tie"] []).Nodup:=by decide+kernel
theorem GW{ns:List Int}{i:Int}(h0:0≤i)(h1:i<ns.length):MC ns i∈ns:=by
 unfold MC
 have:i.toNat<ns.length:=by omega
 simp[gQ,this]
theorem Rm{f:Addr}{fd:fm}(F:Fun K "_law_named" "_law_named" Fm f fd)(Tx:Txt mg):FnOk P w K mg base (CXe P w) 2 f fd ["_law_web","_law_names"] (EK K KO):=by
 refine Af F OD ?_ ?_
 ·rintro ts O Φ Ξ ⟨n,ps,ns,rfl,_⟩
  rfl
 ·rintro cdv A outer s H E O Ξ hr xf _ Φ ⟨n,ps,ns,rfl,hl,hp,hn,q⟩
  have hu:(A.deeper (jr "_law_named" (AA Fm) s.heap.objs.size f cdv)).units+8<cLine:=by have:=hr.un;omega
  have hz:ps.length≤sizeLine:=fo hl (by decide)
  refine AD (LV (i:=2) (nc:=["_law_one","_law_other"]) (cap:=[("_law_names",1)]) (by rfl) OD.nd rfl (Bf (AA Fm) ["_law_web","_law_names","_law_ties"] (by decide+kernel)) (EM (Ae (ev 0) AB) _ (Ha ps AG (fun p=>AG (MC ns p.1,MC ns p.2)) hz (fun x hx=> ⟨[some (.int x.1),some (.int x.2),some (.tup (ns.map T.int))],fun X' Oe He is O'=>?_⟩) ?_)))
  ·obtain⟨cl,s',H',fp,rfl⟩:=is
   have:=hp x hx
   exact⟨Bh 0 1 rfl Zi (by decide) (by decide),BU (AJ (Ae (ev 2) (ev 0) (Lp this.1 this.2.1)) (AJ (Ae (ev 2) (ev 1) (Lp this.2.2.1 this.2.2.2)) AC))⟩
  ·refine AH (AR (Cm (Bg (ET.we (Ae (ev 0) AB) (Bg (CN Tx.nTuple (Er (ps:=ps.map (nm ns)) Tx.nSorted Tx.nSet rfl hu ?_ (by simpa using hl) ?_ fun qs h1 h2 h3=> ⟨_,rfl,Al ⟨by show 2≤sizeLine;decide,q qs h1 h2 (by simpa using h3)⟩⟩)))))))
   ·rw[fE]
    refine CO ["_law_tie"] [] ps (fun p=>AG (MC ns p.1,MC ns p.2)) _ rfl (Bf (AA Fm) ["_law_web","_law_names","_law_ties"] (by decide+kernel)) (Am (ev 2)) hz fun x hx=> ⟨[some (AG (MC ns x.1,MC ns x.2))],fun X' Oe He is O'=>?_⟩
    obtain⟨cl,s',H',fp,rfl⟩:=is
    exact⟨AL 0 Zj (by decide),BU (AJ (Tw Tx.nMin rfl (ev 0)) (AJ (Tz Tx.nMax rfl (ev 0)) AC))⟩
   ·intro z hz
    obtain⟨p,h1,rfl⟩:=eQ.mp hz
    have:=hp p h1
    have e1:=hn _ (GW this.1 this.2.1)
    have e2:=hn _ (GW this.2.2.1 this.2.2.2)
    show 0≤max _ _∧max _ _<65536
    omega
def Ds:Df:=fun ts O Φ _=>∃(p:Addr) (xs:List T) (m:Int),ts=[.raw (.ref p),.int m]∧O p=some xs∧Fl xs∧0≤m∧m<100∧∀(ns:List Int) (xs':List T),ns.Perm ((eW m.toNat).map fun(i:Nat)=> (i:Int))→Fl xs'→Φ (.tup (ns.map T.int)) (AZ O p xs')
theorem JB:FnScope ["_law_pen","_law_many","_law_left"] ["_law_pen","_law_many"] (AA Ez):=⟨rfl,rfl,rfl,by decide+kernel,rfl,by decide+kernel,by decide+kernel⟩
theorem Zk:(Ai ["_law_place"] [(("_law_left" :Str),2),(("_law_pen" :Str),0)]).Nodup:=by decide+kernel
theorem Lq{f:Addr}{fd:fm}(F:Fun K "_law_names_by" "_law_names_by" Ez f fd)(Tx:Txt mg)(G:FnT P w K mg base "_law_draw" 2 ["_law_pen","_law_many"] BA):FnOk P w K mg base (CXe P w) 3 f fd ["_law_pen","_law_many"] (EK K Ds):=by
 refine Af F JB ?_ ?_
 ·rintro ts O Φ Ξ ⟨p,xs,m,rfl,_⟩
  rfl
 ·rintro cdv A outer s H E O Ξ hr xf _ Φ ⟨p,xs,m,rfl,hp,px,m0,m1,q⟩
  refine AD (AM 2 (RD (p1:=⟨0,0,0,0⟩) Tx.nList Tx.nRange rfl (ev 1) m0 (by omega) fun l hl=>?_) JB.nd)
  have pl:p≠l:=Jx hp hl
  refine AH (Nq (l:=l) hl (CN Tx.nTuple (Fz (nc:=["_law_place"]) (cap:=[("_law_left",2),("_law_pen",0)]) rfl (Bf (AA Ez) ["_law_pen","_law_many","_law_left"] (by decide+kernel)) (EI.wi (Ah Tx.nRange (ev 1) ⟨by omega,by omega⟩) ?_))))
  refine⟨fun i acc O'=>i≤m.toNat∧∃(as rs:List Int) (xs':List T),acc=as.map T.int∧as.length=i∧(as++rs).Perm ((eW m.toNat).map fun(i:Nat)=> (i:Int))∧Fl xs'∧O'=AZ (AZ O p xs') l (rs.map T.int),⟨fB _,[],(eW m.toNat).map fun(i:Nat)=> (i:Int),xs,rfl,rfl,.refl _,px,?_⟩,?_,?_⟩
  ·rw[Hc hp,fE]
   rfl
  ·rintro i t acc O' c e ⟨_,as,rs,xs',rfl,hi,pm,px',rfl⟩ hc
   obtain⟨hi2,rfl⟩:=Ak e
   have hcl:c≠l:=fun z=>by rw[z,AF] at hc;cases hc
   have hcp:c≠p:=fun z=>by rw[z,AQ pl,AF] at hc;cases hc
   refine⟨[some (.int (0+i)),some (.raw (.ref l)),some (.raw (.ref p))],fun X' Oe He is=>?_⟩
   have hlen:as.length+rs.length=m.toNat:=by
    have:=pm.length_eq
    simpa using this
   refine⟨?_,Cb (GH fun X' Oe He is=>?_)⟩
   ·obtain⟨cl,s',H',fp,rfl⟩:=is
    exact AL 0 Zk (by decide)
   ·obtain⟨cl,s',H',fp,rfl⟩:=is
    have ol:(AZ (AZ (AZ O p xs') l (rs.map T.int)) c (as.map T.int)) l=some (rs.map T.int):=by rw[AQ (Ne.symm hcl),AF]
    have op:(AZ (AZ (AZ O p xs') l (rs.map T.int)) c (as.map T.int)) p=some xs':=by rw[AQ (Ne.symm hcp),AQ pl,AF]
    refine LW (ET.we (ev 1) ⟨l,rfl,⟨_,ol⟩,Ar G hr Bc (EA.wa (AJ (ev 2) (AJ (Nm Tx.nLen (ev 1) ol) AC)) ⟨p,xs',_,rfl,op,px',by simp;omega,by simp;omega,fun r xs2 r0 r1 px2=>?_⟩)⟩)
    have r1:r<rs.length:=by simpa using r1
    have hr':r.toNat<rs.length:=by omega
    refine⟨rs.map T.int,r,.int rs[r.toNat],rfl,?_,r0,by omega,by simpa using r1,by rw[c9,dt hr'];rfl,?_⟩
    ·rw[AQ (Ne.symm pl),ol]
    ·refine⟨AZ (AZ O p xs2) l ((rs.eraseIdx r.toNat).map T.int),?_,?_,?_,?_⟩
     ·have e1:(rs.map T.int).eraseIdx r.toNat=(rs.eraseIdx r.toNat).map T.int:=(Fn _ _ _).symm
      rw[e1]
      rw[BK (p:=c) (a:=p) (Ne.symm hcp),BK (p:=c) (a:=l) (Ne.symm hcl),BK (p:=l) (a:=p) pl,BE,BE]
     ·rw[AQ hcl,AQ hcp]
      rw[AQ hcl,AQ hcp] at hc
      exact hc
     ·rw[b6]
      have:(1000:Nat)<sizeLine:=by decide
      omega
     ·refine⟨hi2,as++[rs[r.toNat]],rs.eraseIdx r.toNat,xs2,by simp,by simp[hi],?_,px2,rfl⟩
      refine jc.trans ?_ pm
      rw[gk]
      exact(Hs rs _ hr').append_left as
  ·rintro acc O' ⟨_,as,rs,xs',rfl,hi,pm,px',rfl⟩
   rw[AY] at hi
   have hlen:as.length+rs.length=m.toNat:=by
    have:=pm.length_eq
    simpa using this
   have:rs=[]:=jC.mp (by omega)
   subst this
   rw[gE] at pm
   refine⟨_,rfl,?_⟩
   rw[Iv hl pl]
   exact q as xs' pm px'
end
section
variable{P:Program}{w:World}{K:a8}{mg:Str→Option Value}{base:Heap}
def Dg:Df:=fun ts O Φ _=>∃(m:Int) (ss:List Int),ts=[.int m,.lst (ss.map T.int)]∧0<m∧m≤16∧ss.length≤16∧(∀s∈ss,1≤s∧s<m)∧
 ∀qs:List (Int×Int),qs.Pairwise LX→(∀q∈qs,AV m q)→qs.length≤256→Φ (.tup [.int m,.tup (qs.map AG)]) O
theorem Dh:FnScope ["_law_many","_law_steps","_law_ties","_law_step","_law_place","_law_other"] ["_law_many","_law_steps"] (AA GV):=⟨rfl,rfl,rfl,by decide+kernel,rfl,by decide+kernel,by decide+kernel⟩
theorem JC{m s j:Int}(hs:1≤s∧s<m)(hj:0≤j∧j<m):AV m (min j ((j+s)%m),max j ((j+s)%m)):=by
 unfold AV
 by_cases h:j+s<m
 ·rw[Int.emod_eq_of_lt (by omega) h]
  show 0≤min _ _∧min _ _<max _ _∧max _ _<_
  omega
 ·have e:j+s=(j+s-m)+m*1:=by omega
  rw[e,Int.add_mul_emod_self_left,Int.emod_eq_of_lt (by omega) (by omega)]
  show 0≤min _ _∧min _ _<max _ _∧max _ _<_
  omega
theorem Ad:(1000:Nat)<sizeLine:=by decide
theorem Pb{f:Addr}{fd:fm}(F:Fun K "_law_turned" "_law_turned" GV f fd)(Tx:Txt mg):FnOk P w K mg base (CXe P w) 2 f fd ["_law_many","_law_steps"] (EK K Dg):=by
 refine Af F Dh ?_ ?_
 ·rintro ts O Φ Ξ ⟨m,ss,rfl,_⟩
  rfl
 ·rintro cdv A outer s H E O Ξ hr xf _ Φ ⟨m,ss,rfl,m0,m1,hn,hs,q⟩
  have hu:(A.deeper (jr "_law_turned" (AA GV) s.heap.objs.size f cdv)).units+8<cLine:=by have:=hr.un;omega
  have sb:=Ad
  refine AD (AM 2 (Dp (Al ⟨fB _,fun l hl=>?_⟩)) Dh.nd)
  refine AD (As Ab.own rfl (Am (ev 1) _ ⟨fun i ρ' O'=>∃(qs:List (Int×Int)) (v3 v4 v5:Option T),ρ'=[some (.int m),some (.lst (ss.map T.int)),some (.raw (.ref l)),v3,v4,v5]∧O'=AZ O l (qs.map AG)∧(∀q∈qs,AV m q)∧qs.length≤16*i,⟨[],none,none,none,rfl,rfl,by simp,by simp⟩,?_,?_⟩))
  ·rintro i t _ _ e ⟨qs,v3,v4,v5,rfl,rfl,hq,hz⟩
   rw[c9] at e
   cases es:ss[i]? with
   |none=>rw[es] at e;cases e
   |some st=>
    rw[es] at e
    cases e
    have hst:=hs st (dw es)
    have hi:=(eB.mp es).1
    refine⟨[some (.int m),some (.lst (ss.map T.int)),some (.raw (.ref l)),some (.int st),v4,v5],AL 3 Dh.nd (by show 3<6;decide),AH (As Ab.own rfl (EI.wi (Ah Tx.nRange (ev 0) ⟨by omega,by omega⟩) ⟨fun j ρ' O'=>∃(qs:List (Int×Int)) (v4 v5:Option T),ρ'=[some (.int m),some (.lst (ss.map T.int)),some (.raw (.ref l)),some (.int st),v4,v5]∧O'=AZ O l (qs.map AG)∧(∀q∈qs,AV m q)∧qs.length≤16*i+j,⟨qs,v4,v5,rfl,rfl,hq,by omega⟩,?_,?_⟩))⟩
    ·rintro j t _ _ e ⟨qs,v4,v5,rfl,rfl,hq,hz⟩
     obtain⟨hj,rfl⟩:=Ak e
     refine⟨[some (.int m),some (.lst (ss.map T.int)),some (.raw (.ref l)),some (.int st),some (.int (0+j)),v5],AL 4 Dh.nd (by show 4<6;decide),?_⟩
     refine AD (AM 5 (ET.we (FX (Ba (ev 4) (ev 3)) (ev 0) m0) ?_) Dh.nd)
     refine AH (Ca (Be (ET.we (ev 2) ⟨l,rfl,⟨_,AF⟩,ET.we (BU (AJ (GQ Tx.nMin rfl (ev 4) (ev 5)) (AJ (GR Tx.nMax rfl (ev 4) (ev 5)) AC))) ⟨_,AF,?_,?_⟩⟩)))
     ·rw[b6];omega
     ·refine⟨qs++[(min (0+(j:Int)) ((0+(j:Int)+st)%m),max (0+(j:Int)) ((0+(j:Int)+st)%m))],_,_,rfl,?_,fun z hz=>?_,by simp;omega⟩
      ·rw[BE,fj];rfl
      ·rcases eO.mp hz with hz|hz
       ·exact hq z hz
       ·rw[dr.mp hz]
        exact JC hst ⟨by omega,by omega⟩
    ·rintro _ _ ⟨qs,v4,v5,rfl,rfl,hq,hz⟩
     rw[AY] at hz
     exact⟨qs,_,_,_,rfl,rfl,hq,by omega⟩
  ·rintro _ _ ⟨qs,v3,v4,v5,rfl,rfl,hq,hz⟩
   rw[b6] at hz
   refine Bn (p:=l) (n:=2) (ts:=qs.map AG) AF hl rfl ?_
   rw[Az hl]
   refine AH (AR (Cm (Bg (ET.we (ev 0) (Bg (CN Tx.nTuple (Er (ps:=qs) Tx.nSorted Tx.nSet rfl hu (ev 2) (by omega) (fun z hz=>?_) fun rs h1 h2 h3=> ⟨_,rfl,Al ⟨by show 2≤sizeLine;decide,q rs h1 (fun z hz=>hq z ((h2 z).mp hz)) (by omega)⟩⟩)))))))
   have:=hq z hz
   unfold AV at this
   omega
end
abbrev Bv:Stmt:=top 25
def PO(O0:AI)(p:Addr)(O:AI):Prop:=∃xs,O=AZ O0 p xs∧Fl xs
theorem PO.at{O0 O:AI}{p:Addr}(h:PO O0 p O):∃xs,O p=some xs∧Fl xs:=by
 obtain⟨xs,rfl,px⟩:=h
 exact⟨xs,AF,px⟩
theorem PO.step{O0 O:AI}{p:Addr}{xs:List T}(h:PO O0 p O)(px:Fl xs):PO O0 p (AZ O p xs):=by
 obtain⟨ys,rfl,_⟩:=h
 exact⟨xs,BE,px⟩
theorem PO.start{O:AI}{p:Addr}{xs:List T}(h:O p=some xs)(px:Fl xs):PO O p O:=⟨xs,(Hc h).symm,px⟩
section
variable{P:Program}{w:World}{K:a8}{mg:Str→Option Value}{base:Heap}
section
variable{Z:Zx}{ρ:List (Option T)}{O O0 O1:AI}{a b:Expr}{Φ:BW}{pos q:Pos}{p c:Addr}{m:Int}{acc:List T}
theorem Ce(G:FnT Z.X.prog Z.X.w Z.X.K Z.X.mg Z.X.base "_law_draw" 2 ["_law_pen","_law_many"] BA)(hr:Room 2 Z.X.A)(xf:XFly Z.X Z.W)(po:PO O0 p O)(ha:ET Z ρ O a (.raw (.ref p)))(hb:ET Z ρ O b (.int m))(m0:0<m)(m1:m<1000)(k:∀r O',0≤r→r<m→PO O0 p O'→Φ (.int r) O')(hg:Gl Z.X "_law_draw":=by rfl)
  (he:du [a,b] Z.X.env=(false,eval a Z.X.env)::du [b] Z.X.env:=by rfl) (he2:du [b] Z.X.env=(false,eval b Z.X.env)::du [] Z.X.env:=by rfl) (hpl:(i7 pos (du [b] Z.X.env)).any (·.1)=false:=by rfl):WE Z ρ O (.Call (.Name "_law_draw" q) [a,b] [] pos) Φ:=by
 obtain⟨xs,hp,px⟩:=po.at
 exact Ar G hr xf (EA.wa (AJ ha (AJ hb AC he2) he) ⟨p,xs,m,rfl,hp,px,m0,m1,fun r xs' r0 r1 px'=>k r _ r0 r1 (po.step px')⟩) hg (by decide) he hpl
theorem Br(G:FnT Z.X.prog Z.X.w Z.X.K Z.X.mg Z.X.base "_law_draw" 2 ["_law_pen","_law_many"] BA)(hr:Room 2 Z.X.A)(xf:XFly Z.X Z.W)(po:PO O0 p O)(hc:O c=none)(ha:ET Z ρ (AZ O c acc) a (.raw (.ref p)))(hb:ET Z ρ (AZ O c acc) b (.int m))(m0:0<m)(m1:m<1000)(k:∀r O',0≤r→r<m→PO O0 p O'→O' c=none→Φ (.int r) (AZ O' c acc))(hg:Gl Z.X "_law_draw":=by rfl)
  (he:du [a,b] Z.X.env=(false,eval a Z.X.env)::du [b] Z.X.env:=by rfl) (he2:du [b] Z.X.env=(false,eval b Z.X.env)::du [] Z.X.env:=by rfl) (hpl:(i7 pos (du [b] Z.X.env)).any (·.1)=false:=by rfl):WE Z ρ (AZ O c acc) (.Call (.Name "_law_draw" q) [a,b] [] pos) Φ:=by
 obtain⟨xs,hp,px⟩:=po.at
 have hpc:p≠c:=Jx hp hc
 refine Ar G hr xf (EA.wa (AJ ha (AJ hb AC he2) he) ⟨p,xs,m,rfl,by rw[AQ hpc];exact hp,px,m0,m1,fun r xs' r0 r1 px'=>?_⟩) hg (by decide) he hpl
 rw[BK hpc]
 exact k r _ r0 r1 (po.step px') (by rw[AQ (Ne.symm hpc)];exact hc)
end
def OE:Df:=fun ts O Φ _=>∃(p:Addr) (xs:List T) (most:Int),ts=[.raw (.ref p),.int most]∧O p=some xs∧Fl xs∧1≤most∧most≤16∧∀(n:Int) (ps:List (Int×Int)) (O':AI),1≤n→n≤most→(∀q∈ps,AV n q)→ps.length≤256→PO O p O'→Φ (.tup [.int n,.tup (ps.map AG)]) O'
def DM:List Str:=["_law_pen","_law_most","_law_way","_law_many","_law_every","_law_other","_law_side","_law_ring"]
theorem Cf:FnScope DM ["_law_pen","_law_most"] (AA Bv):=⟨rfl,rfl,rfl,by decide+kernel,rfl,by decide+kernel,by decide+kernel⟩
theorem Zl:(Ai ["_law_one"] [(("_law_other" :Str),5)]).Nodup:=by decide+kernel
theorem Zm:(Ai ["_law_pair"] [(("_law_pen" :Str),0),(("_law_way" :Str),2)]).Nodup:=by decide+kernel
theorem Zo:(Ai ["_law_step"] [(("_law_pen" :Str),0)]).Nodup:=by decide+kernel
theorem Zp:(Ai ["_law_one","_law_other"] [(("_law_side" :Str),6)]).Nodup:=by decide+kernel
theorem VV:(Ai ["_law_place"] []).Nodup:=by decide+kernel
theorem Zq:(Ai ["_law_place"] [(("_law_pen" :Str),0)]).Nodup:=by decide+kernel
theorem Zr{r:Int}(r0:0≤r)(r1:r<3):∃m:Int,atI [T.int 2,T.int 3,T.int 6] r=some (.int m)∧0<m∧m<1000:=by
 have:r=0∨r=1∨r=2:=by omega
 rcases this with rfl|rfl|rfl
 ·exact⟨2,rfl,by decide,by decide⟩
 ·exact⟨3,rfl,by decide,by decide⟩
 ·exact⟨6,rfl,by decide,by decide⟩
def Fo(i:Nat):Stmt:=(Aq Bv).getD i (.Pass ⟨0,0,0,0⟩)
def Zs:Stmt→List Stmt
 | .If _ a _ _=>a
 |_=> []
abbrev zS(P:Program)(w:World)(K:a8)(mg:Str→Option Value)(base:Heap)(f:Addr)(cdv:Value)(A:eU)(outer:List Env)(s:a9)(H:Hp)(E:XK)(O:AI)(Ξ:Value→AI→Prop):Zx:=zB P w K mg base DM "_law_shape" (AA Bv) f cdv A outer s H E O Ξ
abbrev ES(p:Addr)(most way n:Int)(es:List (Int×Int))(v5:Option T):List (Option T):=[some (.raw (.ref p)),some (.int most),some (.int way),some (.int n),some (.lst (es.map AG)),v5,none,none]
end
abbrev DN:Stmt:=top 26
section
variable{P:Program}{w:World}{K:a8}{mg:Str→Option Value}{base:Heap}
def JD(n:Int)(p:Int×Int):Prop:=0≤p.1∧p.1<n∧0≤p.2∧p.2<n∧p.1≠p.2
def OF:Df:=fun ts O Φ _=>∃(p:Addr) (xs:List T) (most:Int),ts=[.raw (.ref p),.int most]∧O p=some xs∧Fl xs∧1≤most∧most≤16∧∀(n:Int) (ps:List (Int×Int)) (O':AI),1≤n→n≤most→(∀q∈ps,AV n q)→ps.Pairwise LX→ps.length≤257→PO O p O'→Φ (.tup [.int n,.tup (ps.map AG)]) O'
def Ht:List Str:=["_law_pen","_law_most","_law_many","_law_ties","_law_way","_law_one"]
theorem FA:FnScope Ht ["_law_pen","_law_most"] (AA DN):=⟨rfl,rfl,rfl,by decide+kernel,rfl,by decide+kernel,by decide+kernel⟩
theorem Hu{n:Int}{ns:List Int}(n0:0≤n)(pm:ns.Perm ((eW n.toNat).map fun(i:Nat)=> (i:Int))):(ns.length:Int)=n∧(∀z∈ns,0≤z∧z<n)∧ns.Nodup:=by
 refine⟨?_,fun z hz=>?_,?_⟩
 ·have:=pm.length_eq
  simp at this
  omega
 ·obtain⟨i,hi,rfl⟩:=eQ.mp (pm.mem_iff.mp hz)
  have:=fy.mp hi
  omega
 ·refine pm.nodup_iff.mpr ?_
  show fv _ _
  rw[hC]
  exact(List.nodup_range).imp fun h z=>h (Int.ofNat.inj z)
theorem Xo{ns:List Int}(nd:ns.Nodup){i j:Int}(hi:0≤i∧i<ns.length)(hj:0≤j∧j<ns.length)(h:i≠j):MC ns i≠MC ns j:=by
 unfold MC
 have h1:i.toNat<ns.length:=by omega
 have h2:j.toNat<ns.length:=by omega
 have e1:ns.getD i.toNat 0=ns[i.toNat]:=by simp[gQ,h1]
 have e2:ns.getD j.toNat 0=ns[j.toNat]:=by simp[gQ,h2]
 rw[e1,e2]
 intro z
 have pw:=fF.mp nd
 rcases Nat.lt_or_gt_of_ne (show i.toNat≠j.toNat by omega) with hl|hl
 ·exact pw _ _ h1 h2 hl z
 ·exact pw _ _ h2 h1 hl z.symm
theorem UY{n:Int}{ns:List Int}(hl:(ns.length:Int)=n)(hb:∀z∈ns,0≤z∧z<n)(nd:ns.Nodup){q:Int×Int}(h:JD n q):AV n (nm ns q):=by
 obtain⟨h1,h2,h3,h4,h5⟩:=h
 have e1:=hb _ (GW (ns:=ns) h1 (by omega))
 have e2:=hb _ (GW (ns:=ns) h3 (by omega))
 have e3:=Xo nd (i:=q.1) (j:=q.2) ⟨h1,by omega⟩ ⟨h3,by omega⟩ h5
 unfold AV nm
 show 0≤min _ _∧min _ _<max _ _∧max _ _<n
 omega
theorem Rn{f:Addr}{cdv:Value}{A:eU}{outer:List Env}{s:a9}{H:Hp}{E:XK}{O0 O1:AI}{Ξ:Value→AI→Prop}{p l:Addr}{most n:Int}{v4 v5:Option T}{Φ:BW}{qs:List (Int×Int)}
  (hr:Room 3 (zB P w K mg base Ht "_law_web_by" (AA DN) f cdv A outer s H E O0 Ξ).X.A) (xf:XFly (zB P w K mg base Ht "_law_web_by" (AA DN) f cdv A outer s H E O0 Ξ).X (zB P w K mg base Ht "_law_web_by" (AA DN) f cdv A outer s H E O0 Ξ).W)
  (Tx:Txt mg) (Gn:FnT P w K mg base "_law_named" 2 ["_law_web","_law_names"] KO) (Gb:FnT P w K mg base "_law_names_by" 3 ["_law_pen","_law_many"] Ds)
  (po:PO O0 p O1) (hl:O0 l=none) (hpl:p≠l) (n0:1≤n) (n1:n≤16) (hq:∀q∈qs,JD n q) (hz:qs.length≤257)
  (q:∀(ps:List (Int×Int)) (O':AI),(∀q∈ps,AV n q)→ps.Pairwise LX→ps.length≤257→PO O0 p O'→Φ (.tup [.int n,.tup (ps.map AG)]) O'):
  Eo (zB P w K mg base Ht "_law_web_by" (AA DN) f cdv A outer s H E O0 Ξ) [some (.raw (.ref p)),some (.int most),some (.int n),some (.raw (.ref l)),v4,v5] (AZ O1 l (qs.map AG)) [(Aq DN).getD 5 (.Pass ⟨0,0,0,0⟩)] {nx:=fun _ O'=>Φ .non O',rt:=Φ}:=by
 obtain⟨xs,rfl,px⟩:=po
 have hp:AZ (AZ O0 p xs) l (qs.map AG) p=some xs:=by rw[AQ hpl,AF]
 refine AH (Nq (l:=l) hl (Ar Gn (hr.mono (by decide)) xf (CQ (ET.we (BU (AO (ev 2) (AO (PU Tx.nTuple AF (ev 3)) AC))) (CQ (Ar Gb hr xf (EA.wa (AO (ev 0) (AO (ev 2) AC)) ⟨p,xs,n,rfl,hp,px,by omega,by omega,fun ns xs' pm px'=>Al ?_⟩)))))))
 obtain⟨h1,h2,h3⟩:=Hu (by omega) pm
 refine⟨n,qs,ns,rfl,by omega,fun z hz=>?_,fun z hz=>?_,fun rs r1 r2 r3=>?_⟩
 ·have:=hq z hz
  unfold JD at this
  omega
 ·have:=h2 z hz
  omega
 ·have e:CW (AZ (AZ (AZ O0 p xs) l (qs.map AG)) p xs') l=AZ O0 p xs':=by
   rw[BK hpl,BE,Iv hl hpl]
  show Φ _ (CW (AZ (AZ (AZ O0 p xs) l (qs.map AG)) p xs') l)
  rw[e]
  refine q rs _ (fun z hz=>?_) r1 (by omega) ⟨xs',rfl,px'⟩
  obtain⟨y,hy,rfl⟩:=eQ.mp ((r2 z).mp hz)
  exact UY h1 h2 h3 (hq y hy)
theorem Pc{f:Addr}{fd:fm}(F:Fun K "_law_web_by" "_law_web_by" DN f fd)(Tx:Txt mg)(G:FnT P w K mg base "_law_draw" 2 ["_law_pen","_law_many"] BA)(Gs:FnT P w K mg base "_law_shape" 3 ["_law_pen","_law_most"] OE)(Gn:FnT P w K mg base "_law_named" 2 ["_law_web","_law_names"] KO)(Gb:FnT P w K mg base "_law_names_by" 3 ["_law_pen","_law_many"] Ds):
  FnOk P w K mg base (CXe P w) 4 f fd ["_law_pen","_law_most"] (EK K OF):=by
 refine Af F FA ?_ ?_
 ·rintro ts O Φ Ξ ⟨p,xs,m,rfl,_⟩
  rfl
 ·rintro cdv A outer s H E O0 Ξ hr xf _ Φ ⟨p,xs,most,rfl,hp,px,t0,t1,q⟩
  have hu:(A.deeper (jr "_law_web_by" (AA DN) s.heap.objs.size f cdv)).units<cLine:=by have:=hr.un;omega
  refine AD (XH (n:=6) (Ar Gs hr xf (EA.wa (AO (ev 0) (AO (ev 1) AC)) ⟨p,xs,most,rfl,hp,px,t0,t1,fun n ps O1 n0 n1 hps hz po1=> ⟨[some (.raw (.ref p)),some (.int most),some (.int n),some (.tup (ps.map AG)),none,none],Bh 2 3 rfl FA.nd (by decide) (by decide),?_⟩⟩)))
  have q':∀(ps:List (Int×Int)) (O':AI),(∀q∈ps,AV n q)→ps.Pairwise LX→ps.length≤257→PO O0 p O'→Φ (.tup [.int n,.tup (ps.map AG)]) O':=fun ps O' a b c d=>q n ps O' n0 n1 a b c d
  refine AD (AM 3 (PR Tx.nList (ev 3) fun l hl1=>?_) FA.nd)
  have hl:O0 l=none:=by
   obtain⟨ys,rfl,_⟩:=po1
   by_cases hb:l=p
   ·rw[hb,AF] at hl1;cases hl1
   ·rw[AQ hb] at hl1;exact hl1
  have hpl:p≠l:=Jx hp hl
  have hD:∀q∈ps,JD n q:=fun z hz=>by
   have:=hps z hz
   unfold AV at this
   unfold JD
   omega
  refine AD (AM 4 (Br G (hr.mono (by decide)) xf po1 hl1 (ev 0) AB (by decide) (by decide) fun way O2 w0 w1 po2 hc2=>?_) FA.nd)
  refine AD (Ng (Ψ:={nx:=fun ρ' O'=>∃(qs:List (Int×Int)) (O3:AI),ρ'=[some (.raw (.ref p)),some (.int most),some (.int n),some (.raw (.ref l)),some (.int way),none]∧O'=AZ O3 l (qs.map AG)∧O3 l=none∧PO O0 p O3∧(∀q∈qs,JD n q)∧qs.length≤256,rt:=Φ}) (Ay (EW.eb (De (EJ (ev 4) AB) fun _=>CZ (RE hu AF (ev 3)))) (fun h=>?_) (fun h=>BI ⟨ps,O2,rfl,rfl,hc2,po2,hD,hz⟩)) ?_ (fun _ _ z=>z) (fun _ _ z=>z) (fun _ _ z=>z))
  ·have h:(decide (way=0)&&!(ps.map AG).isEmpty)=true:=h
   have hne:0<ps.length:=by
    simp at h
    exact List.length_pos_iff.mpr h.2
   refine AH (Ca (LW (ET.we (ev 3) ⟨l,rfl,⟨_,AF⟩,Br G (hr.mono (by decide)) xf po2 hc2 (ev 0) (Nm Tx.nLen (ev 3) AF) (by simp;omega) (by simp;omega) fun r O3 r0 r1 po3 hc3=>?_⟩)))
   have r1:r<ps.length:=by simpa using r1
   have hr':r.toNat<ps.length:=by omega
   refine⟨ps.map AG,r,AG ps[r.toNat],rfl,AF,r0,by omega,by simpa using r1,by rw[c9,dt hr'];rfl,?_⟩
   refine⟨ps.eraseIdx r.toNat,O3,rfl,by rw[BE,Fn],hc3,po3,fun z hz=>hD z (List.mem_of_mem_eraseIdx hz),?_⟩
   have:=List.length_eraseIdx_le ps r.toNat
   omega
  ·rintro _ _ ⟨qs,O3,rfl,rfl,hc3,po3,hq,hz3⟩
   refine AD (Ay (EW.eb (De (EJ (ev 4) AB) fun _=>CZ (Nd (ev 2) AB))) (fun h=>?_) (fun h=>BI (Rn hr xf Tx Gn Gb po3 hl hpl n0 (by omega) hq (by omega) q')))
   have h:(decide (way=1)&&decide (1<n))=true:=h
   have n2:1<n:=by simp at h;exact h.2
   refine AD (AM 5 (Br G (hr.mono (by decide)) xf po3 hc3 (ev 0) (ev 2) (by omega) (by omega) fun one O4 o0 o1 po4 hc4=>?_) FA.nd)
   refine AH (Ca (Be (ET.we (ev 3) ⟨l,rfl,⟨_,AF⟩,?_⟩)))
   refine Cm (CQ (ET.we (ev 5) (CQ ?_)))
   refine DT Py (DT FN (ET.we (Ba (ev 5) AB) ?_))
   refine Br G (hr.mono (by decide)) xf po4 hc4 (ev 0) (CK (ev 2) AB) (by omega) (by omega) fun r O5 r0 r1 po5 hc5=>?_
   refine HN _ (ET.we (ev 2) (Qq (C:=fun _ j=>0<j) (show 0<n by omega) _ ?_))
   refine Al ⟨by show 2≤sizeLine;decide,_,AF,?_,?_⟩
   ·rw[b6]
    have:=Ad
    omega
   ·rw[BE]
    have e:(qs.map AG++[T.tup [.int one,.int ((one+1+r)%n)]])=(qs++[(one,(one+1+r)%n)]).map AG:=by rw[fj];rfl
    rw[e]
    refine Rn hr xf Tx Gn Gb po5 hl hpl n0 (by omega) (fun z hz=>?_) (by simp;omega) q'
    rcases eO.mp hz with hz|hz
    ·exact hq z hz
    ·rw[dr.mp hz]
     have:=JC (m:=n) (s:=1+r) (j:=one) ⟨by omega,by omega⟩ ⟨o0,o1⟩
     unfold AV at this
     have e2:one+1+r=one+(1+r):=by omega
     rw[e2]
     have b0:=jj (one+(1+r)) (show n≠0 by omega)
     have b1:=iW (one+(1+r)) (show 0<n by omega)
     show 0≤one∧one<n∧0≤(one+(1+r))%n∧(one+(1+r))%n<n∧one≠(one+(1+r))%n
     omega
end
open Gr
section
variable{P:Program}{w:World}{K:a8}{mg:Str→Option Value}{base:Heap}{CP:Addr}
def OG:Df:=LQ fun ts r=>∃n u t,ts=[.tup [.int n,u],t]∧BD t=false∧r=.bl (Mx t 0 (n-1))
theorem UZ:FnScope ["web","thing"] ["web","thing"] (AA Mt):=⟨rfl,rfl,rfl,by decide+kernel,rfl,by decide+kernel,by decide+kernel⟩
theorem Ro{f:Addr}{fd:fm}(F:Fun K "is_place" "is_place" Mt f fd)(G:FnT P w K mg base "is_whole" 1 ["thing","least","most"] OC):FnOk P w K mg base (CXe P w) 2 f fd ["web","thing"] (EK K OG):=by
 refine Af F UZ ?_ ?_
 ·rintro ts O Φ Ξ ⟨r,⟨n,u,t,rfl,_⟩,_⟩
  rfl
 ·rintro cdv A outer s H E O Ξ hr xf _ Φ ⟨_,⟨n,u,t,rfl,ht,rfl⟩,q⟩
  exact AH (AR (ET.we (BN G hr xf (AO (ev 1) (AO AB (AO (CK (Ae (ev 0) AB) AB) AC))) ⟨t,0,n-1,rfl,ht,rfl⟩) q))
def BV(qs:List (Int×Int))(i:Nat):List Int:=qs.filterMap fun p=>if p.1=(i:Int) then some p.2 else if p.2=(i:Int) then some p.1 else none
theorem Lr{qs:List (Int×Int)}{p:Int×Int}{i:Nat}:BV (qs++[p]) i=BV qs i++(if p.1=(i:Int) then[p.2] else if p.2=(i:Int) then[p.1] else[]):=by
 unfold BV
 rw[List.filterMap_append]
 congr 1
 by_cases h:p.1=(i:Int)
 ·simp[h]
 ·by_cases h2:p.2=(i:Int)
  ·simp[h,h2]
  ·simp[h,h2]
theorem EU{qs:List (Int×Int)}{i:Nat}:(BV qs i).length≤qs.length:=List.length_filterMap_le ..
def Hv(n:Int)(ps:List (Int×Int)):T:=.lst ((eW n.toNat).map fun i=> .lst ((BV ps i).map T.int))
structure Nst(n:Int)(O:AI)(l:Addr)(qs:List (Int×Int))(rs:List (Addr×List T)):Prop where
 len:(rs.length:Int)=n
 nd:(rs.map fK).Nodup
 ne:∀r∈rs,r.1≠l
 fr:∀r∈rs,O r.1=none
 val:∀(i:Nat) r,rs[i]?=some r→r.2=(BV qs i).map T.int
theorem Bt{rs:List (Addr×List T)}{i:Nat}{r:Addr×List T}{vs:List T}(h:rs[i]?=some r):(rs.set i (r.1,vs)).map fK=rs.map fK:=UG (us:=r.2) h
theorem Xp{O:AI}{rs:List (Addr×List T)}{l:Addr}{i:Nat}{r:Addr×List T}{us:List T}(e:rs[i]?=some r)(hn:(rs.map fK).Nodup)(hl:∀r∈rs,r.1≠l):
  AZ (AZ (GA O rs) l (rs.map Bu)) r.1 us=AZ (GA O (rs.set i (r.1,us))) l ((rs.set i (r.1,us)).map Bu):=by
 rw[BK (hl r (dw e)),UF (us:=r.2) hn e]
 congr 1
 have:=Bt (vs:=us) e
 have e1:∀rs:List (Addr×List T),rs.map Bu=(rs.map fK).map fun a=>T.raw (.ref a):=fun rs=>by rw[fE];rfl
 rw[e1,e1,this]
theorem Nst.set2{n:Int}{O:AI}{l:Addr}{qs:List (Int×Int)}{rs:List (Addr×List T)}(h:Nst n O l qs rs){a b:Nat}(hab:a≠b){ra rb:Addr×List T}(ea:rs[a]?=some ra)(eb:rs[b]?=some rb):
  Nst n O l (qs++[((a:Int),(b:Int))]) ((rs.set a (ra.1,ra.2++[T.int b])).set b (rb.1,rb.2++[T.int a])):=by
 have eb':(rs.set a (ra.1,ra.2++[T.int b]))[b]?=some rb:=by rw[fc hab];exact eb
 have m1:=Bt (vs:=ra.2++[T.int b]) ea
 have m2:=Bt (vs:=rb.2++[T.int a]) eb'
 have hm:∀r∈((rs.set a (ra.1,ra.2++[T.int b])).set b (rb.1,rb.2++[T.int a])),∃r'∈rs,r'.1=r.1:=fun r hr=>by
  have:r.1∈(((rs.set a (ra.1,ra.2++[T.int b])).set b (rb.1,rb.2++[T.int a])).map fK):=gU hr
  rw[m2,m1] at this
  obtain⟨r',h1,h2⟩:=eQ.mp this
  exact⟨r',h1,h2⟩
 refine⟨by rw[iL,iL];exact h.len,by rw[m2,m1];exact h.nd,fun r hr=>?_,fun r hr=>?_,fun i r e=>?_⟩
 ·obtain⟨r',h1,h2⟩:=hm r hr
  rw[←h2];exact h.ne r' h1
 ·obtain⟨r',h1,h2⟩:=hm r hr
  rw[←h2];exact h.fr r' h1
 ·have la:=(eB.mp ea).1
  have lb:=(eB.mp eb).1
  rw[Lr,fj]
  by_cases h1:i=b
  ·subst h1
   rw[eZ (by rw[iL];exact lb)] at e
   cases e
   have:¬((a:Int)=(i:Int)):=by omega
   show rb.2++[T.int a]=_
   rw[h.val i rb eb]
   simp[this]
  ·rw[fc (fun z=>h1 z.symm)] at e
   by_cases h2:i=a
   ·subst h2
    rw[eZ la] at e
    cases e
    show ra.2++[T.int b]=_
    rw[h.val i ra ea]
    simp
   ·rw[fc (fun z=>h2 z.symm)] at e
    have n1:¬((a:Int)=(i:Int)):=by omega
    have n2:¬((b:Int)=(i:Int)):=by omega
    rw[h.val i r e]
    simp[n1,n2]
theorem Nst.tree{n:Int}{O:AI}{l:Addr}{ps:List (Int×Int)}{rs:List (Addr×List T)}(h:Nst n O l ps rs):T.lst (rs.map fun r=>T.lst r.2)=Hv n ps:=by
 have hl:=h.len
 unfold Hv
 congr 1
 apply gI
 intro i
 rw[c9,c9]
 by_cases hi:i<rs.length
 ·rw[dt hi,j7 (by omega)]
  show some (T.lst rs[i].2)=_
  rw[h.val i rs[i] (dt hi)]
  rfl
 ·rw[iA (by omega),iA (by rw[gH];omega)]
  rfl
def GX:Df:=LQ fun ts r=>∃n ps,ts=[BY n ps]∧0≤n∧n≤200∧EZ n ps∧ps.length≤200∧r=Hv n ps
theorem KP:FnScope ["web","nears","a","b"] ["web"] (AA KI):=⟨rfl,rfl,rfl,by decide+kernel,rfl,by decide+kernel,by decide+kernel⟩
theorem Zt:(Ai ["place"] []).Nodup:=by decide+kernel
theorem Rp{f:Addr}{fd:fm}(F:Fun K "nears_of" "nears_of" KI f fd)(Tx:Txt mg):FnOk P w K mg base (CXe P w) 1 f fd ["web"] (EK K GX):=by
 refine Af F KP ?_ ?_
 ·rintro ts O Φ Ξ ⟨r,⟨n,ps,rfl,_⟩,_⟩
  rfl
 ·rintro cdv A outer s H E O Ξ hr xf _ Φ ⟨_,⟨n,ps,rfl,n0,n1,hw,hl,rfl⟩,q⟩
  have sb:=Ad
  refine AD (Fh (i:=1) (nc:=["place"]) (cap:=[]) (by rfl) KP.nd rfl (Bf (AA KI) ["web","nears","a","b"] (by decide+kernel)) (EI.wi (Ah Tx.nRange (Ae (ev 0) AB) ⟨by omega,by omega⟩) ?_))
  refine⟨fun i acc O'=>i≤200∧∃as:List Addr,acc=(as.map fun a=> (a,([]:List T))).map Bu∧as.length=i∧as.Nodup∧(∀a∈as,O a=none)∧O'=GA O (as.map fun a=> (a,[])),⟨by omega,[],rfl,rfl,by simp,(fun _ h=>by cases h),rfl⟩,?_,?_⟩
  ·rintro i t acc O' c e ⟨_,as,rfl,hal,hnd,hfr,rfl⟩ hc
   obtain⟨hi,rfl⟩:=Ak e
   refine⟨[some (.int (0+(i:Int)))],fun X' Oe He is=> ⟨?_,Cb (GH fun X' Oe He is=>?_)⟩⟩
   ·obtain⟨cl,s',H',fp,rfl⟩:=is
    exact AL 0 Zt (by decide)
   ·obtain⟨cl,s',H',fp,rfl⟩:=is
    refine Dp (Al ⟨fB _,fun p hp=>?_⟩)
    have hpc:p≠c:=fun z=>by rw[z,AF] at hp;cases hp
    rw[AQ hpc] at hp
    have hpa:p∉as:=fun z=>by
     rw[Cn (rs:=as.map fun a=> (a,[])) (r:=(p,[])) (by rw[fE];simpa[kO] using hnd) (gU z)] at hp
     cases hp
    have hpO:O p=none:=by
     rw[Cd fun r hr=>by
      obtain⟨a,ha,rfl⟩:=eQ.mp hr
      exact fun z=>hpa (z▸ha)] at hp
     exact hp
    refine⟨AZ (GA O (as.map fun a=> (a,[]))) p [],BK hpc,by rw[AQ hpc.symm];exact hc,by rw[b6,b6];omega,by omega,as++[p],by rw[fj,fj];rfl,by simp;omega,?_,fun a ha=>?_,?_⟩
    ·rw[fX]
     refine⟨hnd,by simp,fun a ha b hb z=>?_⟩
     rw[dr.mp hb] at z
     exact hpa (z▸ha)
    ·rcases eO.mp ha with ha|ha
     ·exact hfr a ha
     ·rw[dr.mp ha];exact hpO
    ·rw[fj];exact(Lb (r:=(p,[]))).symm
  ·rintro acc O' ⟨_,as,rfl,hal,hnd,hfr,rfl⟩ l hlO
   rw[AY] at hal
   have hkeys:((as.map fun a=> (a,([]:List T))).map fK)=as:=by rw[fE];simp[kO]
   have nst0:Nst n O l [] (as.map fun a=> (a,([]:List T))):=by
    refine⟨by rw[b6];omega,by rw[hkeys];exact hnd,fun r hr z=>?_,fun r hr=>?_,fun i r e=>?_⟩
    ·rw[←z,Cn (by rw[hkeys];exact hnd) hr] at hlO
     cases hlO
    ·obtain⟨a,ha,rfl⟩:=eQ.mp hr
     exact hfr a ha
    ·have:=dw e
     obtain⟨a,ha,rfl⟩:=eQ.mp this
     rfl
   have hlO':O l=none:=by
    rw[Cd nst0.ne] at hlO
    exact hlO
   refine AD (As Ab.own rfl (EI.wi (EM (Ae (ev 0) AB)) ⟨fun j ρ' O'=>∃rs v2 v3,ρ'=[some (BY n ps),some (.raw (.ref l)),v2,v3]∧O'=AZ (GA O rs) l (rs.map Bu)∧Nst n O l (ps.take j) rs,⟨_,none,none,rfl,rfl,by rw[kJ];exact nst0⟩,?_,?_⟩))
   ·rintro j t _ _ e ⟨rs,v2,v3,rfl,rfl,nst⟩
    rw[c9] at e
    cases ec:ps[j]? with
    |none=>rw[ec] at e;cases e
    |some z=>
     rw[ec] at e
     cases e
     have hb:=hw z (dw ec)
     have hlen:=nst.len
     have htl:(ps.take j).length≤200:=by rw[fk];omega
     obtain⟨a,ea⟩:=e7 hb.1
     obtain⟨b,eb⟩:=e7 (show 0≤z.2 by omega)
     have ha:a<rs.length:=by omega
     have hb':b<rs.length:=by omega
     have hab:a≠b:=by omega
     have ga:=dt ha
     have gb:(rs.set a (rs[a].1,rs[a].2++[T.int b]))[b]?=some rs[b]:=by rw[fc hab];exact dt hb'
     have m1:=Bt (vs:=rs[a].2++[T.int b]) ga
     have nd1:((rs.set a (rs[a].1,rs[a].2++[T.int b])).map fK).Nodup:=by rw[m1];exact nst.nd
     have ne1:∀r∈rs.set a (rs[a].1,rs[a].2++[T.int b]),r.1≠l:=fun r hr=>by
      have:r.1∈(rs.set a (rs[a].1,rs[a].2++[T.int b])).map fK:=gU hr
      rw[m1] at this
      obtain⟨r',h1,h2⟩:=eQ.mp this
      rw[←h2];exact nst.ne r' h1
     have la:rs[a].2.length≤200:=by rw[nst.val a rs[a] ga,b6];exact fo EU htl
     have lb:rs[b].2.length≤200:=by rw[nst.val b rs[b] (dt hb'),b6];exact fo EU htl
     have ez:z=((a:Int),(b:Int)):=by rw[←ea,←eb]
     subst ez
     refine⟨[some (BY n ps),some (.raw (.ref l)),some (.int a),some (.int b)],Bh 2 3 rfl KP.nd (by show 2<4;decide) (by show 3<4;decide),?_⟩
     refine AD (Ca (Be (ET.we (Bb (ts:=rs.map Bu) AF (ev 1) (ev 2) (Ag (by rw[c9,ga];rfl))) ⟨rs[a].1,rfl,⟨rs[a].2,?_⟩,ET.we (ev 3) ⟨rs[a].2,?_,by omega,?_⟩⟩)))
     ·rw[AQ (nst.ne _ (gF ha))];exact Cn nst.nd (gF ha)
     ·rw[AQ (nst.ne _ (gF ha))];exact Cn nst.nd (gF ha)
     ·rw[Xp ga nst.nd nst.ne]
      refine AH (Ca (Be (ET.we (Bb (ts:=(rs.set a (rs[a].1,rs[a].2++[T.int b])).map Bu) AF (ev 1) (ev 3) (Ag (by rw[c9,gb];rfl))) ⟨rs[b].1,rfl,⟨rs[b].2,?_⟩,ET.we (ev 2) ⟨rs[b].2,?_,by omega,?_⟩⟩)))
      ·rw[AQ (ne1 _ (dw gb))];exact Cn nd1 (dw gb)
      ·rw[AQ (ne1 _ (dw gb))];exact Cn nd1 (dw gb)
      ·rw[Xp gb nd1 ne1]
       refine⟨_,_,_,rfl,rfl,?_⟩
       have:ps.take (j+1)=ps.take j++[((a:Int),(b:Int))]:=by
        rw[fQ,ec];rfl
       rw[this]
       exact nst.set2 hab ga (dt hb')
   ·rintro _ _ ⟨rs,v2,v3,rfl,rfl,nst⟩
    rw[b6,fR] at nst
    refine Le nst.nd nst.ne nst.fr nst.fr ?_
    refine Bn (p:=l) (n:=1) (ts:=rs.map fun r=>T.lst r.2) AF hlO' rfl ?_
    rw[Az hlO']
    refine AH (AR (ET.we (ev 1) ?_))
    show Φ (T.lst (rs.map fun r=>T.lst r.2)) O
    rw[nst.tree]
    exact q
end
section
variable{P:Program}{w:World}{K:a8}{mg:Str→Option Value}{base:Heap}{CP:Addr}
theorem JE{n:Int}{ps:List (Int×Int)}(hw:EZ n ps){i:Nat}{v:Int}:v∈BV ps i↔Adj ps (i:Int) v:=by
 unfold BV Adj
 rw[iU]
 constructor
 ·rintro⟨p,hp,e⟩
  by_cases h:p.1=(i:Int)
  ·rw[if_pos h] at e
   cases e
   exact .inl (by rw[←h];exact hp)
  ·rw[if_neg h] at e
   by_cases h2:p.2=(i:Int)
   ·rw[if_pos h2] at e
    cases e
    exact .inr (by rw[←h2];exact hp)
   ·rw[if_neg h2] at e;cases e
 ·rintro(h|h)
  ·exact⟨_,h,by simp⟩
  ·have:=hw _ h
   simp only at this
   exact⟨_,h,by rw[if_neg (by omega)];simp⟩
theorem FB{m:Nat}{i:Nat}(h:i<m):Os m (i:Int)=some i:=by
 unfold Os
 rw[if_pos (by omega),if_pos (by omega)]
 rfl
structure WebN(n:Int)(ps:List (Int×Int)):Prop where
 n0:0≤n
 n1:n≤200
 hw:EZ n ps
 hl:ps.length≤200
def AS:Option Nat→T
 |none=> .non
 |some d=> .int d
theorem Hw{x:Option Nat}:BD (AS x)=false:=by cases x<;>rfl
theorem Hx{x:Option Nat}:Iw (AS x)=x.isNone:=by cases x<;>rfl
def Rq:List Str:=["nears","starts","fars","start","border","steps","beyond","place","near"]
theorem Cp:FnScope Rq ["nears","starts"] (AA JA):=⟨rfl,rfl,rfl,by decide+kernel,rfl,by decide+kernel,by decide+kernel⟩
theorem Zu:(Ai ["near"] []).Nodup:=by decide+kernel
def cU(i:Nat):Stmt:=(Aq JA).getD i (.Pass ⟨0,0,0,0⟩)
def Dz:Stmt→List Stmt
 | .While _ b _ _=>b
 | .For _ _ b _ _=>b
 |_=> []
def cV(i:Nat):Stmt:=(Dz (cU 4)).getD i (.Pass ⟨0,0,0,0⟩)
variable{f:Addr}{cdv:Value}{A:eU}{outer:List Env}{s:a9}{H:Hp}{E:XK}{O:AI}{Ξ:Value→AI→Prop}{n:Int}{ps:List (Int×Int)}{S bs:List Int}{l lb:Addr}
abbrev zF(P:Program)(w:World)(K:a8)(mg:Str→Option Value)(base:Heap)(f:Addr)(cdv:Value)(A:eU)(outer:List Env)(s:a9)(H:Hp)(E:XK)(O:AI)(Ξ:Value→AI→Prop):Zx:=zB P w K mg base Rq "fars_from" (AA JA) f cdv A outer s H E O Ξ
abbrev GJ(O:AI)(l lb:Addr)(fs:List (Option Nat))(Aj:List Int):AI:=AZ (AZ O l (fs.map AS)) lb (Aj.map T.int)
end
section
variable{P:Program}{w:World}{K:a8}{mg:Str→Option Value}{base:Heap}{CP:Addr}{f:Addr}{cdv:Value}{A:eU}{outer:List Env}{s:a9}{H:Hp}{E:XK}{O:AI}{Ξ:Value→AI→Prop}{n:Int}{ps:List (Int×Int)}{S bs:List Int}{l lb:Addr}
end
open GrR
abbrev BQ(rows:List (List Int)):T:=.lst (rows.map fun r=> .lst (r.map T.int))
def Rw(rows:List (List Int))(u v:Int):Prop:=0≤u∧v∈rows.getD u.toNat []
structure RowsN(n:Int)(rows:List (List Int)):Prop where
 len:(rows.length:Int)=n
 n1:n≤200
 hw:Zh n (Rw rows)
theorem Ls{rows:List (List Int)}{i:Nat}{v:Int}:v∈rows.getD i []↔Rw rows (i:Int) v:=by
 unfold Rw
 rw[fg]
 exact⟨fun h=> ⟨by omega,h⟩,fun h=>h.2⟩
theorem FD{rows:List (List Int)}{i:Nat}(h:i<rows.length):atI (rows.map fun r=>T.lst (r.map T.int)) (i:Int)=some (.lst ((rows.getD i []).map T.int)):=
 Ag (by rw[c9,dt h];simp[gQ,h])
theorem Rr{R:Int→Int→Prop}{S:List Int}{v:Int}:IsD R S v 0↔v∈S:=by
 constructor
 ·rintro⟨w,_⟩
  cases w with
  |«at» h=>exact h
 ·intro h
  exact⟨.at h,fun j hj=>by omega⟩
section
variable{P:Program}{w:World}{K:a8}{mg:Str→Option Value}{base:Heap}{f:Addr}{cdv:Value}{A:eU}{outer:List Env}{s:a9}{H:Hp}{E:XK}{O:AI}{Ξ:Value→AI→Prop}{n:Int}{rows:List (List Int)}{S bs:List Int}{l lb:Addr}
def KQ:Df:=fun ts O Φ _=>∃n rows S,ts=[BQ rows,.lst (S.map T.int)]∧RowsN n rows∧(∀z∈S,0≤z∧z<n)∧∀fs,All n (Rw rows) S fs→Φ (.lst (fs.map AS)) O
abbrev GK(n:Int)(rows:List (List Int))(S:List Int)(l:Addr)(v3:Option T)(bs:List Int)(k:Nat)(v6 v7 v8:Option T):List (Option T):=[some (BQ rows),some (.lst (S.map T.int)),some (.raw (.ref l)),v3,some (.lst (bs.map T.int)),some (.int (k:Int)),v6,v7,v8]
theorem Pd{v3 v7:Option T}{k:Nat}{fs:List (Option Nat)}{Aj ds:List Int}{u:Int}{v:Nat}{Φ:BW}{N Bk Ct:Fy}(hll:lb≠l)(n1:n≤200)(hv:(v:Int)<n)(m:Mid n (Rw rows) S k fs Aj ds)(nd:Aj.Nodup)(hw:Zh n (Rw rows))(hS:∀z∈S,0≤z∧z<n)(hu:IsD (Rw rows) S u k)(a:Rw rows u v)
  (q:∀fs Aj,Mid n (Rw rows) S k fs Aj (ds++[(v:Int)])→Aj.Nodup→N (GK n rows S l v3 bs (k+1) (some (.raw (.ref lb))) v7 (some (.int v))) (GJ O l lb fs Aj)):
  Eo (zF P w K mg base f cdv A outer s H E O Ξ) (GK n rows S l v3 bs (k+1) (some (.raw (.ref lb))) v7 (some (.int v))) (GJ O l lb fs Aj) (Dz ((Dz (cV 2)).getD 0 (.Pass ⟨0,0,0,0⟩))) {nx:=N,rt:=Φ,bk:=Bk,ct:=Ct}:=by
 have sb:=Ad
 have hl:=m.len
 have hlt:v<fs.length:=by omega
 have gl:GJ O l lb fs Aj l=some (fs.map AS):=by
  show AZ (AZ O l _) lb _ l=_
  rw[AQ hll.symm,AF]
 have gv:atI (fs.map AS) (v:Int)=some (AS fs[v]):=Ag (by rw[c9,dt hlt];rfl)
 refine AH (Ay (Fg Hw (Bb gl (ev 2) (ev 8) gv)) (fun h=>?_) (fun h=>BI ?_))
 ·rw[Hx] at h
  have hn:fs[(v:Int).toNat]?=some none:=by
   rw[fg,dt hlt]
   cases z:fs[v] with
   |none=>rfl
   |some d=>rw[z] at h;cases h
  have hb:Aj.length≤n.toNat:=Gr.KB nd fun z hz=> (m.sub z hz).1.inb hw hS
  refine AD (EL (ET.we (ev 5) (ET.we (ev 2) ⟨l,rfl,ET.we (ev 8) ⟨_,_,v,rfl,gl,by rw[b6];exact FB hlt,?_⟩⟩)))
  have eo:AZ (GJ O l lb fs Aj) l ((fs.map AS).set v (.int ((k+1:Nat):Int)))=GJ O l lb (fs.set v (some (k+1))) Aj:=by
   show AZ (AZ (AZ O l _) lb _) l _=_
   rw[BK hll.symm,BE]
   show _=AZ (AZ O l ((fs.set v (some (k+1))).map AS)) lb _
   rw[jJ]
   rfl
  rw[eo]
  refine AH (Ca (Be (ET.we (ev 6) ⟨lb,rfl,⟨_,AF⟩,ET.we (ev 8) ⟨Aj.map T.int,AF,by rw[b6];omega,?_⟩⟩)))
  have m2:=m.hit (v:=(v:Int)) (by omega) hv hn hu a
  rw[fg] at m2
  have:=q _ _ m2 (by
   rw[fX]
   refine⟨nd,by simp,fun x hx y hy z=>?_⟩
   rw[dr.mp hy] at z
   exact m.fresh (by omega) hv hn (z▸hx))
  have e2:AZ (GJ O l lb (fs.set v (some (k+1))) Aj) lb (Aj.map T.int++[T.int v])=GJ O l lb (fs.set v (some (k+1))) (Aj++[(v:Int)]):=by
   show AZ (AZ (AZ O l _) lb _) lb _=AZ (AZ O l _) lb _
   rw[BE,fj]
   rfl
  rw[e2]
  exact this
 ·rw[Hx] at h
  cases z:fs[v] with
  |none=>rw[z] at h;cases h
  |some d=>exact q fs Aj (m.miss (by omega) hv (d:=d) (by rw[fg,dt hlt,z])) nd
theorem My{v3 v8:Option T}{k:Nat}{fs:List (Option Nat)}{Aj ds:List Int}{u:Nat}{Φ:BW}{N Bk Ct:Fy}(hll:lb≠l)(hrl:(rows.length:Int)=n)(n1:n≤200)(hu0:(u:Int)<n)(m:Mid n (Rw rows) S k fs Aj ds)(nd:Aj.Nodup)(hw:Zh n (Rw rows))(hS:∀z∈S,0≤z∧z<n)(hu:IsD (Rw rows) S u k)
  (q:∀v8 fs Aj ds',Mid n (Rw rows) S k fs Aj ds'→Aj.Nodup→(∀v∈ds,v∈ds')→(∀v,Rw rows u v→v∈ds')→N (GK n rows S l v3 bs (k+1) (some (.raw (.ref lb))) (some (.int u)) v8) (GJ O l lb fs Aj)):
  Eo (zF P w K mg base f cdv A outer s H E O Ξ) (GK n rows S l v3 bs (k+1) (some (.raw (.ref lb))) (some (.int u)) v8) (GJ O l lb fs Aj) (Dz (cV 2)) {nx:=N,rt:=Φ,bk:=Bk,ct:=Ct}:=by
 refine AH (As Ab.own rfl (EI.wi (Am (CM (ev 0) (ev 7) (FD (by omega)))) ⟨fun j ρ' O'=>∃v8 fs Aj ds',ρ'=GK n rows S l v3 bs (k+1) (some (.raw (.ref lb))) (some (.int u)) v8∧O'=GJ O l lb fs Aj∧Mid n (Rw rows) S k fs Aj ds'∧Aj.Nodup∧(∀v∈ds,v∈ds')∧∀v∈(rows.getD u []).take j,v∈ds',⟨v8,fs,Aj,ds,rfl,rfl,m,nd,fun _ h=>h,fun v h=>by simp at h⟩,?_,?_⟩))
 ·rintro j t _ _ e ⟨v8,fs,Aj,ds',rfl,rfl,m,nd,h1,h2⟩
  rw[c9] at e
  cases ec:(rows.getD u [])[j]? with
  |none=>rw[ec] at e;cases e
  |some z=>
   rw[ec] at e
   cases e
   have a:=Ls.mp (dw ec)
   have hb:=hw _ _ a
   obtain⟨v,rfl⟩:=e7 hb.1
   refine⟨GK n rows S l v3 bs (k+1) (some (.raw (.ref lb))) (some (.int u)) (some (.int v)),AL 8 Cp.nd (by show 8<9;decide),Pd hll n1 hb.2 m nd hw hS hu a fun fs' bey' m' nd'=> ⟨_,_,_,_,rfl,rfl,m',nd',fun x hx=>gK _ (h1 x hx),fun x hx=>?_⟩⟩
   rw[fQ,ec] at hx
   rcases eO.mp hx with hx|hx
   ·exact gK _ (h2 x hx)
   ·exact fP _ hx
 ·rintro _ _ ⟨v8,fs,Aj,ds',rfl,rfl,m,nd,h1,h2⟩
  rw[b6,fR] at h2
  exact q v8 fs Aj ds' m nd h1 fun v a=>h2 v (Ls.mpr a)
theorem Mz{v3 v6 v7 v8:Option T}{k:Nat}{fs:List (Option Nat)}{Φ:BW}{N Bk Ct:Fy}(hlO:O l=none)(wn:RowsN n rows)(hS:∀z∈S,0≤z∧z<n)(h:Fr n (Rw rows) S k fs)(hb:∀v,v∈bs↔IsD (Rw rows) S v k)
  (q:∀v6 v7 v8 fs Aj,Fr n (Rw rows) S (k+1) fs→(∀v,v∈Aj↔IsD (Rw rows) S v (k+1))→N (GK n rows S l v3 Aj (k+1) v6 v7 v8) (AZ O l (fs.map AS))):
  Eo (zF P w K mg base f cdv A outer s H E O Ξ) (GK n rows S l v3 bs k v6 v7 v8) (AZ O l (fs.map AS)) (Dz (cU 4)) {nx:=N,rt:=Φ,bk:=Bk,ct:=Ct}:=by
 have sb:=Ad
 refine AD (XG 5 WB rfl (ET.we AB (fun H v w Q ok r1 r2 acc=> ⟨_,_,r1.int_inv,r2.int_inv,acc _ H (.int (((k+1:Nat):Int))) _ ?_ (.refl ok) (.int _)⟩)) Cp.nd)
 refine AD (AM 6 (Dp (Al ⟨fB _,fun lb hlb=>?_⟩)) Cp.nd)
 have hll:lb≠l:=fun z=>by rw[z,AF] at hlb;cases hlb
 have hlb':O lb=none:=by rw[AQ hll] at hlb;exact hlb
 refine AD (As Ab.own rfl (EI.wi (Am (ev 4)) ⟨fun i ρ' O'=>∃v7 v8 fs Aj ds,ρ'=GK n rows S l v3 bs (k+1) (some (.raw (.ref lb))) v7 v8∧O'=GJ O l lb fs Aj∧Mid n (Rw rows) S k fs Aj ds∧Aj.Nodup∧∀u∈bs.take i,∀v,Rw rows u v→v∈ds,⟨v7,v8,fs,[],[],rfl,rfl,h.mid,by simp,fun u hu=>by simp at hu⟩,?_,?_⟩))
 ·rintro i t _ _ e ⟨v7,v8,fs,Aj,ds,rfl,rfl,m,nd,h1⟩
  rw[c9] at e
  cases ec:bs[i]? with
  |none=>rw[ec] at e;cases e
  |some z=>
   rw[ec] at e
   cases e
   have hz:=(hb z).mp (dw ec)
   have hi:=hz.1.inb wn.hw hS
   obtain⟨u,rfl⟩:=e7 hi.1
   refine⟨GK n rows S l v3 bs (k+1) (some (.raw (.ref lb))) (some (.int u)) v8,AL 7 Cp.nd (by show 7<9;decide),My hll wn.len wn.n1 hi.2 m nd wn.hw hS hz fun v8 fs' bey' ds' m' nd' g1 g2=> ⟨_,_,_,_,ds',rfl,rfl,m',nd',fun x hx v a=>?_⟩⟩
   rw[fQ,ec] at hx
   rcases eO.mp hx with hx|hx
   ·exact g1 v (h1 x hx v a)
   ·have:x=(u:Int):=by simpa using hx
    rw[this] at a
    exact g2 v a
 ·rintro _ _ ⟨v7,v8,fs,Aj,ds,rfl,rfl,m,nd,h1⟩
  rw[b6,fR] at h1
  obtain⟨h2,h3⟩:=m.done fun u v hu a=>h1 u ((hb u).mpr hu) v a
  refine Bn (p:=lb) (n:=6) (ts:=Aj.map T.int) AF hlb' rfl ?_
  rw[show CW (GJ O l lb fs Aj) lb=AZ O l (fs.map AS) from Az (by rw[AQ hll];exact hlb')]
  exact AH (AM 4 (ET.we (ev 6) (q _ _ _ fs Aj h2 h3)) Cp.nd)
theorem Rt{fd:fm}(F:Fun K "fars_from" "fars_from" JA f fd):FnOk P w K mg base (CXe P w) 1 f fd ["nears","starts"] (EK K KQ):=by
 refine Af F Cp ?_ ?_
 ·rintro ts O Φ Ξ ⟨n,rows,S,rfl,_⟩
  rfl
 ·rintro cdv A outer s H E O Ξ hr xf _ Φ ⟨n,rows,S,rfl,wn,hS,q⟩
  have sb:=Ad
  have n0:=wn.len
  have n1:=wn.n1
  refine AD (Fh (i:=2) (nc:=["near"]) (cap:=[]) (by rfl) Cp.nd rfl (Bf (AA JA) Rq (by decide+kernel)) (EI.wi (Am (ev 0)) ?_))
  refine⟨fun i acc O'=>i≤200∧acc=(eE i (none:Option Nat)).map AS∧O=O',⟨by omega,rfl,rfl⟩,?_,?_⟩
  ·rintro i t acc _ c e ⟨_,rfl,rfl⟩ hc
   have hi:i<rows.length:=by
    have:=(eB.mp e).1
    simpa using this
   refine⟨[some t],fun X' Oe He is=> ⟨?_,Cb (GH fun X' Oe He is=>?_)⟩⟩
   ·obtain⟨cl,s',H',fp,rfl⟩:=is
    exact AL 0 Zu (by decide)
   ·obtain⟨cl,s',H',fp,rfl⟩:=is
    exact ET.we CJ ⟨O,rfl,hc,by rw[b6,gr];omega,by omega,by rw[List.replicate_succ',fj];rfl,rfl⟩
  ·rintro acc _ ⟨_,rfl,rfl⟩ l hlO
   rw[b6]
   refine AD (As Ab.own rfl (EI.wi (Am (ev 1)) ⟨fun j ρ' O'=>∃(fs:List (Option Nat)) (v3:Option T),ρ'=[some (BQ rows),some (.lst (S.map T.int)),some (.raw (.ref l)),v3,none,none,none,none,none]∧O'=AZ O l (fs.map AS)∧(fs.length:Int)=n∧∀v:Int,0≤v→v<n→∀d,fs[v.toNat]?=some (some d)↔(d=0∧v∈S.take j),⟨_,none,rfl,rfl,by rw[gr];omega,fun v v0 v1 d=>?_⟩,?_,?_⟩))
   ·rw[gG]
    simp
   ·rintro j t _ _ e ⟨fs,v3,rfl,rfl,hl,hf⟩
    rw[c9] at e
    cases ec:S[j]? with
    |none=>rw[ec] at e;cases e
    |some z=>
     rw[ec] at e
     cases e
     have hz:=hS z (dw ec)
     obtain⟨v,rfl⟩:=e7 hz.1
     have hlt:v<fs.length:=by omega
     refine⟨[some (BQ rows),some (.lst (S.map T.int)),some (.raw (.ref l)),some (.int v),none,none,none,none,none],AL 3 Cp.nd (by show 3<9;decide),?_⟩
     refine AH (EL (ET.we AB (ET.we (ev 2) ⟨l,rfl,ET.we (ev 3) ⟨_,_,v,rfl,AF,by rw[b6];exact FB hlt,?_⟩⟩)))
     refine⟨fs.set v (some 0),_,rfl,by rw[BE,jJ];rfl,by rw[iL];exact hl,fun y y0 y1 d=>?_⟩
     rw[fQ,ec]
     by_cases hy:y=(v:Int)
     ·subst hy
      rw[fg,eZ hlt]
      simp[eq_comm]
     ·rw[fc (by omega),hf y y0 y1 d]
      simp[hy]
   ·rintro _ _ ⟨fs,v3,rfl,rfl,hl,hf⟩
    rw[b6,fR] at hf
    have fr:Fr n (Rw rows) S 0 fs:=KA hl hf
    refine AD (AM 4 (ET.we (ev 1) ?_) Cp.nd)
    refine AD (AM 5 (ET.we AB ?_) Cp.nd)
    refine AD (RO Ab.own (fun m ρ' O'=>∃(k:Nat) (bs:List Int) (fs:List (Option Nat)) (v3 v6 v7 v8:Option T),ρ'=GK n rows S l v3 bs k v6 v7 v8∧O'=AZ O l (fs.map AS)∧Fr n (Rw rows) S k fs∧(∀v,v∈bs↔IsD (Rw rows) S v k)∧m=n.toNat+1-k) ⟨_,0,S,fs,v3,none,none,none,rfl,rfl,fr,fun v=>Rr.symm,rfl⟩ ?_)
    rintro m _ _ ⟨k,bs,fs,v3,v6,v7,v8,rfl,rfl,fr,hb,rfl⟩
    refine(show EB (zF P w K mg base f cdv A outer s H E O Ξ) (GK n rows S l v3 bs k v6 v7 v8) (AZ O l (fs.map AS)) _ (!(bs.map T.int).isEmpty) from HR (t:=T.lst (bs.map T.int)) (ev 4) rfl) _ ?_
    cases bs with
    |nil=>
     refine TK ?_
     have al:=fr.all_end fun v hv=>by
      have:=(hb v).mpr hv
      cases this
     refine Bn (p:=l) (n:=2) (ts:=fs.map AS) AF hlO rfl ?_
     rw[Az hlO]
     exact AH (AR (ET.we (ev 2) (q fs al)))
    |cons b bs'=>
     refine GH (Mz hlO wn hS fr hb fun v6 v7 v8 fs' Aj fr' hb'=> ⟨_,?_,k+1,Aj,fs',_,v6,v7,v8,rfl,rfl,fr',hb',rfl⟩)
     have:=((hb b).mp (by simp)).lt wn.hw hS
     omega
end
section
variable{P:Program}{w:World}{K:a8}{mg:Str→Option Value}{base:Heap}
def Xq:List Str:=["_law_web","_law_many","_law_far_here","_law_place","_law_size","_law_one","_law_other","_law_a","_law_b"]
theorem GD:FnScope Xq ["_law_web"] (AA Mu):=⟨rfl,rfl,rfl,by decide+kernel,rfl,by decide+kernel,by decide+kernel⟩
abbrev Dw(O:AI)(l:Addr)(rs:List (Addr×List T))(p:Nat)(r:Addr×List T)(fs:List (Option Nat)):AI:=AZ (GA O (rs.set p (r.1,fs.map AS))) l ((rs.set p (r.1,fs.map AS)).map Bu)
section
variable{O:AI}{l:Addr}{rs:List (Addr×List T)}{p:Nat}{r:Addr×List T}{fs gs:List (Option Nat)}
theorem Ru{us:List T}(e:rs[p]?=some r):(rs.set p (r.1,us)).map Bu=rs.map Bu:=by
 have:=Bt (vs:=us) e
 have e1:∀rs:List (Addr×List T),rs.map Bu=(rs.map fK).map fun a=>T.raw (.ref a):=fun rs=>by rw[fE];rfl
 rw[e1,e1,this]
theorem Rv{us:List T}(e:rs[p]?=some r)(nd:(rs.map fK).Nodup):((rs.set p (r.1,us)).map fK).Nodup:=by rw[Bt e];exact nd
theorem Xr{us:List T}(e:rs[p]?=some r)(ne:∀r∈rs,r.1≠l):∀r'∈rs.set p (r.1,us),r'.1≠l:=fun r' hr=>by
 have:r'.1∈(rs.set p (r.1,us)).map fK:=gU hr
 rw[Bt e] at this
 obtain⟨r2,h1,h2⟩:=eQ.mp this
 rw[←h2];exact ne r2 h1
theorem OH{us:List T}(e:rs[p]?=some r):(rs.set p (r.1,us))[p]?=some (r.1,us):=eZ (eB.mp e).1
theorem OI(e:rs[p]?=some r):Dw O l rs p r fs l=some (rs.map Bu):=by
 show AZ _ l _ l=_
 rw[AF,Ru e]
theorem OJ(e:rs[p]?=some r)(nd:(rs.map fK).Nodup)(ne:∀r∈rs,r.1≠l):Dw O l rs p r fs r.1=some (fs.map AS):=by
 show AZ _ l _ r.1=_
 rw[AQ (ne r (dw e))]
 exact Cn (r:=(r.1,fs.map AS)) (Rv e nd) (dw (OH e))
theorem OK(e:rs[p]?=some r)(nd:(rs.map fK).Nodup)(ne:∀r∈rs,r.1≠l):AZ (Dw O l rs p r fs) r.1 (gs.map AS)=Dw O l rs p r gs:=by
 have:=Xp (O:=O) (us:=gs.map AS) (OH (us:=fs.map AS) e) (Rv e nd) (Xr e ne)
 rw[List.set_set] at this
 exact this
end
theorem Ua{x:Option Nat}{k:Nat}{i:Int}(hi:i=(k:Int)):iD (dT (AS x)) (dT (.int i))=decide (x=some k):=by
 subst hi
 cases x with
 |none=>rfl
 |some d=>
  show((d:Int)==(k:Int))=decide (some d=some k)
  rw[ic]
  simp
  omega
theorem Ub{x:Option Nat}:CS (AS x)=true:=by cases x<;> (unfold AS;rw[CS])
theorem NA{x:Option Nat}:(dT (AS x)).depth≤100:=by cases x<;>simp[AS,dT,PyData.depth]
variable{f:Addr}{cdv:Value}{A:eU}{outer:List Env}{s:a9}{H:Hp}{E:XK}{O:AI}{Ξ:Value→AI→Prop}{n:Int}{ps:List (Int×Int)}{l:Addr}{rs:List (Addr×List T)}{p:Nat}{r:Addr×List T}
abbrev zG(P:Program)(w:World)(K:a8)(mg:Str→Option Value)(base:Heap)(f:Addr)(cdv:Value)(A:eU)(outer:List Env)(s:a9)(H:Hp)(E:XK)(O:AI)(Ξ:Value→AI→Prop):Zx:=zB P w K mg base Xq "_law_far" (AA Mu) f cdv A outer s H E O Ξ
abbrev Dx(n:Int)(ps:List (Int×Int))(l:Addr)(p:Nat)(v4 v5 v6 v7 v8:Option T):List (Option T):=[some (BY n ps),some (.int n),some (.raw (.ref l)),some (.int (0+(p:Int))),v4,v5,v6,v7,v8]
def Zv(i:Nat):Stmt:=(Aq Mu).getD i (.Pass ⟨0,0,0,0⟩)
def YU(s:Stmt)(i:Nat):Stmt:=(Dz s).getD i (.Pass ⟨0,0,0,0⟩)
theorem OL{v5 v6:Option T}{k a b:Nat}{fs:List (Option Nat)}{Aj ds:List Int}{Φ:BW}{N Bk Ct:Fy}(hu:(zG P w K mg base f cdv A outer s H E O Ξ).X.A.units+101<cLine)(er:rs[p]?=some r)(nd:(rs.map fK).Nodup)(ne:∀r∈rs,r.1≠l)(ha:(a:Int)<n)(hb:(b:Int)<n)(m:Mid n ps [(p:Int)] k fs Aj ds)(ad:Adj ps a b)
  (q:∀fs Aj ds',Mid n ps [(p:Int)] k fs Aj ds'→(∀v∈ds,v∈ds')→(IsD ps [(p:Int)] a k→(b:Int)∈ds')→N (Dx n ps l p (some (.int (1+(k:Int)))) v5 v6 (some (.int a)) (some (.int b))) (Dw O l rs p r fs)):
  Eo (zG P w K mg base f cdv A outer s H E O Ξ) (Dx n ps l p (some (.int (1+(k:Int)))) v5 v6 (some (.int a)) (some (.int b))) (Dw O l rs p r fs) (Dz (YU (YU (YU (Zv 2) 1) 0) 0)) {nx:=N,rt:=Φ,bk:=Bk,ct:=Ct}:=by
 have hl:=m.len
 have la:a<fs.length:=by omega
 have lb:b<fs.length:=by omega
 have er':(rs.map Bu)[p]?=some (.raw (.ref r.1)):=by rw[c9,er];rfl
 have gp:atI (rs.map Bu) (0+(p:Int))=some (.raw (.ref r.1)):=by rw[ja];exact Ag er'
 have ga:atI (fs.map AS) (a:Int)=some (AS fs[a]):=Ag (by rw[c9,dt la];rfl)
 have gb:atI (fs.map AS) (b:Int)=some (AS fs[b]):=Ag (by rw[c9,dt lb];rfl)
 have ea:=m.eq a (by omega) ha
 rw[fg,dt la] at ea
 refine AH (Ay (k:=decide (fs[a]=some k)&&(fs[b]).isNone) (EW.eb (De (EB.cast (BF (RL hu) (Av _) (Xa Ub (by rw[CS]) NA) (Bb (OJ er nd ne) (Bb (OI er) (ev 2) (ev 3) gp) (ev 7) ga) (CK (ev 4) AB)) (Ua (by omega))) fun _=>CZ (EB.cast (Fg Hw (Bb (OJ er nd ne) (Bb (OI er) (ev 2) (ev 3) gp) (ev 8) gb)) Hx))) (fun h=>?_) (fun h=>BI ?_))
 ·rw[fx] at h
  have h1:fs[a]=some k:=of_decide_eq_true h.1
  have hn:fs[(b:Int).toNat]?=some none:=by
   rw[fg,dt lb]
   cases z:fs[b] with
   |none=>rfl
   |some d=>rw[z] at h;cases h.2
  have ia:IsD ps [(p:Int)] a k:=by
   rcases(ea k).mp (by rw[h1]) with z|z
   ·exact z.2
   ·omega
  refine AH (EL (ET.we (ev 4) (ET.we (Bb (OI er) (ev 2) (ev 3) gp) ⟨r.1,rfl,ET.we (ev 8) ⟨_,_,b,rfl,OJ er nd ne,by rw[b6];exact FB lb,?_⟩⟩)))
  have e1:(fs.map AS).set b (.int (1+(k:Int)))=(fs.set b (some (k+1))).map AS:=by
   rw[jJ]
   congr 1
   show T.int _=T.int ((k+1:Nat):Int)
   congr 1
   omega
  rw[e1,OK er nd ne]
  have m2:=m.hit (v:=(b:Int)) (by omega) hb hn ia ad
  rw[fg] at m2
  exact q _ _ _ m2 (fun v hv=>gK _ hv) (fun _=>by simp)
 ·by_cases h1:fs[a]=some k
  ·rw[decide_eq_true h1,jw] at h
   cases z:fs[b] with
   |none=>rw[z] at h;cases h
   |some d=>exact q _ _ _ (m.miss (v:=(b:Int)) (by omega) hb (d:=d) (by rw[fg,dt lb,z])) (fun v hv=>gK _ hv) (fun _=>by simp)
  ·exact q _ _ _ m (fun v hv=>hv) (fun i=>absurd (gc.inj ((ea k).mpr (.inl ⟨dv _,i⟩))) h1)
end
section
variable{P:Program}{w:World}{K:a8}{mg:Str→Option Value}{base:Heap}{f:Addr}{cdv:Value}{A:eU}{outer:List Env}{s:a9}{H:Hp}{E:XK}{O:AI}{Ξ:Value→AI→Prop}{n:Int}{ps:List (Int×Int)}{l:Addr}{rs:List (Addr×List T)}{p:Nat}{r:Addr×List T}
theorem Uc{v7 v8:Option T}{k c e:Nat}{fs:List (Option Nat)}{Aj ds:List Int}{Φ:BW}{N Bk Ct:Fy}(hu:(zG P w K mg base f cdv A outer s H E O Ξ).X.A.units+101<cLine)(er:rs[p]?=some r)(nd:(rs.map fK).Nodup)(ne:∀r∈rs,r.1≠l)(hc:(c:Int)<n)(he:(e:Int)<n)(m:Mid n ps [(p:Int)] k fs Aj ds)(ad:Adj ps c e)
  (q:∀v7 v8 fs Aj ds',Mid n ps [(p:Int)] k fs Aj ds'→(∀v∈ds,v∈ds')→(IsD ps [(p:Int)] c k→(e:Int)∈ds')→(IsD ps [(p:Int)] e k→(c:Int)∈ds')→N (Dx n ps l p (some (.int (1+(k:Int)))) (some (.int c)) (some (.int e)) v7 v8) (Dw O l rs p r fs)):
  Eo (zG P w K mg base f cdv A outer s H E O Ξ) (Dx n ps l p (some (.int (1+(k:Int)))) (some (.int c)) (some (.int e)) v7 v8) (Dw O l rs p r fs) (Dz (YU (YU (Zv 2) 1) 0)) {nx:=N,rt:=Φ,bk:=Bk,ct:=Ct}:=by
 refine AH (As Ab.own rfl (EI.wi (Am (BH (ts:=[((c:Int),(e:Int)),((e:Int),(c:Int))].map AG) (AO (Bl (ev 5) (ev 6)) (AO (Bl (ev 6) (ev 5)) AC)) (by show 2≤sizeLine;decide))) ⟨fun i ρ' O'=>∃v7 v8 fs Aj ds',ρ'=Dx n ps l p (some (.int (1+(k:Int)))) (some (.int c)) (some (.int e)) v7 v8∧O'=Dw O l rs p r fs∧Mid n ps [(p:Int)] k fs Aj ds'∧(∀v∈ds,v∈ds')∧(1≤i→IsD ps [(p:Int)] c k→(e:Int)∈ds')∧(2≤i→IsD ps [(p:Int)] e k→(c:Int)∈ds'),⟨v7,v8,fs,Aj,ds,rfl,rfl,m,fun _ h=>h,fun h=>by omega,fun h=>by omega⟩,?_,?_⟩))
 ·rintro i t _ _ et ⟨v7,v8,fs,Aj,ds',rfl,rfl,m,h0,h1,h2⟩
  match i,et with
  |0,et=>
   cases et
   exact⟨Dx n ps l p (some (.int (1+(k:Int)))) (some (.int c)) (some (.int e)) (some (.int c)) (some (.int e)),Bh 7 8 rfl GD.nd (by show 7<9;decide) (by show 8<9;decide),OL hu er nd ne hc he m ad fun fs Aj ds2 m2 g0 g1=> ⟨_,_,_,_,_,rfl,rfl,m2,fun v hv=>g0 v (h0 v hv),fun _=>g1,fun h=>by omega⟩⟩
  |1,et=>
   cases et
   exact⟨Dx n ps l p (some (.int (1+(k:Int)))) (some (.int c)) (some (.int e)) (some (.int e)) (some (.int c)),Bh 7 8 rfl GD.nd (by show 7<9;decide) (by show 8<9;decide),OL hu er nd ne he hc m ad.symm fun fs Aj ds2 m2 g0 g1=> ⟨_,_,_,_,_,rfl,rfl,m2,fun v hv=>g0 v (h0 v hv),fun _ z=>g0 _ (h1 (dv _) z),fun _=>g1⟩⟩
  |i+2,et=>simp at et
 ·rintro _ _ ⟨v7,v8,fs,Aj,ds',rfl,rfl,m,h0,h1,h2⟩
  exact q v7 v8 fs Aj ds' m h0 (h1 (by simp)) (h2 (by simp))
theorem Rx{v5 v6 v7 v8:Option T}{k:Nat}{fs:List (Option Nat)}{Φ:BW}{N Bk Ct:Fy}(hu:(zG P w K mg base f cdv A outer s H E O Ξ).X.A.units+101<cLine)(hw:EZ n ps)(er:rs[p]?=some r)(nd:(rs.map fK).Nodup)(ne:∀r∈rs,r.1≠l)(h:Fr n ps [(p:Int)] k fs)
  (q:∀v5 v6 v7 v8 fs,Fr n ps [(p:Int)] (k+1) fs→N (Dx n ps l p (some (.int (1+(k:Int)))) v5 v6 v7 v8) (Dw O l rs p r fs)):
  Eo (zG P w K mg base f cdv A outer s H E O Ξ) (Dx n ps l p (some (.int (1+(k:Int)))) v5 v6 v7 v8) (Dw O l rs p r fs) (Dz (YU (Zv 2) 1)) {nx:=N,rt:=Φ,bk:=Bk,ct:=Ct}:=by
 refine AH (As Ab.own rfl (EI.wi (EM (Ae (ev 0) AB)) ⟨fun j ρ' O'=>∃v5 v6 v7 v8 fs Aj ds,ρ'=Dx n ps l p (some (.int (1+(k:Int)))) v5 v6 v7 v8∧O'=Dw O l rs p r fs∧Mid n ps [(p:Int)] k fs Aj ds∧∀z∈ps.take j,(IsD ps [(p:Int)] z.1 k→z.2∈ds)∧(IsD ps [(p:Int)] z.2 k→z.1∈ds),⟨v5,v6,v7,v8,fs,[],[],rfl,rfl,h.mid,fun z hz=>by simp at hz⟩,?_,?_⟩))
 ·rintro j t _ _ e ⟨v5,v6,v7,v8,fs,Aj,ds,rfl,rfl,m,h1⟩
  rw[c9] at e
  cases ec:ps[j]? with
  |none=>rw[ec] at e;cases e
  |some z=>
   rw[ec] at e
   cases e
   have hz:=dw ec
   have hb:=hw z hz
   obtain⟨a,b⟩:=z
   simp only at hb
   obtain⟨c,rfl⟩:=e7 hb.1
   obtain⟨e,rfl⟩:=e7 (show 0≤b by omega)
   refine⟨Dx n ps l p (some (.int (1+(k:Int)))) (some (.int c)) (some (.int e)) v7 v8,Bh 5 6 rfl GD.nd (by show 5<9;decide) (by show 6<9;decide),Uc hu er nd ne (by omega) hb.2.2 m (.inl hz) fun v7 v8 fs Aj ds2 m2 g0 g1 g2=> ⟨_,_,_,_,_,_,_,rfl,rfl,m2,fun y hy=>?_⟩⟩
   rw[fQ,ec] at hy
   rcases eO.mp hy with hy|hy
   ·exact⟨fun i=>g0 _ ((h1 y hy).1 i),fun i=>g0 _ ((h1 y hy).2 i)⟩
   ·have:y=((c:Int),(e:Int)):=by simpa using hy
    subst this
    exact⟨g1,g2⟩
 ·rintro _ _ ⟨v5,v6,v7,v8,fs,Aj,ds,rfl,rfl,m,h1⟩
  rw[b6,fR] at h1
  exact q v5 v6 v7 v8 fs (m.done fun u v i a=>by
   rcases a with a|a
   ·exact(h1 _ a).1 i
   ·exact(h1 _ a).2 i).1
theorem Pe{v4 v5 v6 v7 v8:Option T}{Φ:BW}{N Bk Ct:Fy}(Tx:Txt mg)(hu:(zG P w K mg base f cdv A outer s H E O Ξ).X.A.units+101<cLine)(wn:WebN n ps)(hp:(p:Int)<n)(er:rs[p]?=some r)(nd:(rs.map fK).Nodup)(ne:∀r∈rs,r.1≠l)
  (q:∀v4 v5 v6 v7 v8 fs,All n ps [(p:Int)] fs→N (Dx n ps l p v4 v5 v6 v7 v8) (Dw O l rs p r fs)):
  Eo (zG P w K mg base f cdv A outer s H E O Ξ) (Dx n ps l p v4 v5 v6 v7 v8) (Dw O l rs p r (eE n.toNat none)) (Dz (Zv 2)) {nx:=N,rt:=Φ,bk:=Bk,ct:=Ct}:=by
 have n0:=wn.n0
 have n1:=wn.n1
 have hpl:p<n.toNat:=by omega
 have er':(rs.map Bu)[p]?=some (.raw (.ref r.1)):=by rw[c9,er];rfl
 have gp:atI (rs.map Bu) (0+(p:Int))=some (.raw (.ref r.1)):=by rw[ja];exact Ag er'
 refine AD (EL (ET.we AB (ET.we (Bb (OI er) (ev 2) (ev 3) gp) ⟨r.1,rfl,ET.we (ev 3) ⟨_,_,p,rfl,OJ er nd ne,by rw[b6,gr,ja];exact FB hpl,?_⟩⟩)))
 have e1:((eE n.toNat (none:Option Nat)).map AS).set p (.int 0)=((eE n.toNat none).set p (some 0)).map AS:=by rw[jJ];rfl
 rw[e1,OK er nd ne]
 have hS:∀z∈[(p:Int)],0≤z∧z<n:=fun z hz=>by rw[dr.mp hz];omega
 have fr:Fr n ps [(p:Int)] 0 ((eE n.toNat none).set p (some 0)):=KA (by rw[iL,gr];omega) fun v v0 v1 d=>by
  by_cases hv:v=(p:Int)
  ·subst hv
   rw[fg,eZ (by rw[gr];exact hpl)]
   simp[eq_comm]
  ·rw[fc (by omega),gG]
   simp[hv]
 refine AH (As Ab.own rfl (EI.wi (CC Tx.nRange AB (ev 1) ⟨by decide,by decide,by omega,by omega⟩) ⟨fun j ρ' O'=>∃v4 v5 v6 v7 v8 fs,ρ'=Dx n ps l p v4 v5 v6 v7 v8∧O'=Dw O l rs p r fs∧Fr n ps [(p:Int)] j fs,⟨_,_,_,_,_,_,rfl,rfl,fr⟩,?_,?_⟩))
 ·rintro j t _ _ e ⟨v4,v5,v6,v7,v8,fs,rfl,rfl,fr⟩
  obtain⟨hj,rfl⟩:=Ak e
  exact⟨Dx n ps l p (some (.int (1+(j:Int)))) v5 v6 v7 v8,AL 4 GD.nd (by show 4<9;decide),Rx hu wn.hw er nd ne fr fun v5 v6 v7 v8 fs fr'=> ⟨_,_,_,_,_,_,rfl,rfl,fr'⟩⟩
 ·rintro _ _ ⟨v4,v5,v6,v7,v8,fs,rfl,rfl,fr⟩
  rw[AY] at fr
  exact q v4 v5 v6 v7 v8 fs (fr.all_n wn.hw hS (by omega))
end
section
variable{P:Program}{w:World}{K:a8}{mg:Str→Option Value}{base:Heap}
def Zw(FL:List (List (Option Nat))):T:=.lst (FL.map fun fs=> .lst (fs.map AS))
structure FarL(n:Int)(ps:List (Int×Int))(FL:List (List (Option Nat))):Prop where
 len:(FL.length:Int)=n
 all:∀(i:Nat) fs,FL[i]?=some fs→All n ps [(i:Int)] fs
def VW:Df:=fun ts O Φ _=>∃n ps,ts=[BY n ps]∧WebN n ps∧∀FL,FarL n ps FL→Φ (Zw FL) O
theorem Zy:(Ai ["_law_place"] [(("_law_many" :Str),1)]).Nodup:=by decide+kernel
theorem Ry{α:Type}{xs:List α}{i:Nat}{x:α}(h:xs[i]?=some x):xs.set i x=xs:=by
 apply gI
 intro m
 by_cases hm:i=m
 ·subst hm
  rw[eZ (eB.mp h).1,h]
 ·rw[fc hm]
theorem Xs{f:Addr}{fd:fm}(F:Fun K "_law_far" "_law_far" Mu f fd)(Tx:Txt mg):FnOk P w K mg base (CXe P w) 1 f fd ["_law_web"] (EK K VW):=by
 refine Af F GD ?_ ?_
 ·rintro ts O Φ Ξ ⟨n,ps,rfl,_⟩
  rfl
 ·rintro cdv A outer s H E O Ξ hr xf _ Φ ⟨n,ps,rfl,wn,q⟩
  have sb:=Ad
  have n0:=wn.n0
  have n1:=wn.n1
  have hu:(A.deeper (jr "_law_far" (AA Mu) s.heap.objs.size f cdv)).units+101<cLine:=by have:=hr.un;omega
  refine AD (AM 1 (ET.we (Ae (ev 0) AB) ?_) GD.nd)
  refine AD (Fh (i:=2) (nc:=["_law_place"]) (cap:=[("_law_many",1)]) (by rfl) GD.nd rfl (Bf (AA Mu) Xq (by decide+kernel)) (EI.wi (Ah Tx.nRange (ev 1) ⟨by omega,by omega⟩) ?_))
  refine⟨fun i acc O'=>i≤200∧∃as:List Addr,acc=(as.map fun a=> (a,(eE n.toNat (none:Option Nat)).map AS)).map Bu∧as.length=i∧as.Nodup∧(∀a∈as,O a=none)∧O'=GA O (as.map fun a=> (a,(eE n.toNat (none:Option Nat)).map AS)),⟨by omega,[],rfl,rfl,by simp,(fun _ h=>by cases h),rfl⟩,?_,?_⟩
  ·rintro i t acc O' c e ⟨_,as,rfl,hal,hnd,hfr,rfl⟩ hc
   obtain⟨hi,rfl⟩:=Ak e
   refine⟨[some (.int (0+(i:Int))),some (.int n)],fun X' Oe He is=> ⟨?_,Cb (GH fun X' Oe He is=>?_)⟩⟩
   ·obtain⟨cl,s',H',fp,rfl⟩:=is
    exact AL 0 Zy (by decide)
   ·obtain⟨cl,s',H',fp,rfl⟩:=is
    refine UI (BH (AO CJ AC) (by show 1≤sizeLine;decide)) (ev 1) ⟨by omega,by omega⟩ fun p hp=>?_
    have hpc:p≠c:=fun z=>by rw[z,AF] at hp;cases hp
    rw[AQ hpc] at hp
    have hk:((as.map fun a=> (a,(eE n.toNat (none:Option Nat)).map AS)).map fK)=as:=by rw[fE];simp[kO]
    have hpa:p∉as:=fun z=>by
     rw[Cn (r:=(p,(eE n.toNat (none:Option Nat)).map AS)) (by rw[hk];exact hnd) (gU (f:=fun a=> (a,(eE n.toNat (none:Option Nat)).map AS)) z)] at hp
     cases hp
    have hpO:O p=none:=by
     rw[Cd fun r hr=>by
      obtain⟨a,ha,rfl⟩:=eQ.mp hr
      exact fun z=>hpa (z▸ha)] at hp
     exact hp
    have er:eE n.toNat T.non=(eE n.toNat (none:Option Nat)).map AS:=by rw[List.map_replicate];rfl
    rw[er]
    refine⟨AZ (GA O (as.map fun a=> (a,(eE n.toNat (none:Option Nat)).map AS))) p ((eE n.toNat (none:Option Nat)).map AS),BK hpc,by rw[AQ hpc.symm];exact hc,by rw[b6,b6];omega,by omega,as++[p],by rw[fj,fj];rfl,by simp;omega,?_,fun a ha=>?_,?_⟩
    ·rw[fX]
     refine⟨hnd,by simp,fun a ha b hb z=>?_⟩
     rw[dr.mp hb] at z
     exact hpa (z▸ha)
    ·rcases eO.mp ha with ha|ha
     ·exact hfr a ha
     ·rw[dr.mp ha];exact hpO
    ·rw[fj];exact(Lb (r:=(p,(eE n.toNat (none:Option Nat)).map AS))).symm
  ·rintro acc O' ⟨_,as,rfl,hal,hnd,hfr,rfl⟩ l hlO
   rw[AY] at hal
   have hk:((as.map fun a=> (a,(eE n.toNat (none:Option Nat)).map AS)).map fK)=as:=by rw[fE];simp[kO]
   have hne:∀r∈(as.map fun a=> (a,(eE n.toNat (none:Option Nat)).map AS)),r.1≠l:=fun r hr z=>by
    rw[←z,Cn (by rw[hk];exact hnd) hr] at hlO
    cases hlO
   have hlO':O l=none:=by rw[Cd hne] at hlO;exact hlO
   refine AD (As Ab.own rfl (EI.wi (Ah Tx.nRange (ev 1) ⟨by omega,by omega⟩) ⟨fun j ρ' O'=>∃(rs:List (Addr×List T)) (FL:List (List (Option Nat))) (v3 v4 v5 v6 v7 v8:Option T),ρ'=[some (BY n ps),some (.int n),some (.raw (.ref l)),v3,v4,v5,v6,v7,v8]∧O'=AZ (GA O rs) l (rs.map Bu)∧rs.map fK=as∧rs.map my=FL.map (fun fs=>fs.map AS)∧∀(i:Nat) fs,FL[i]?=some fs→(i<j→All n ps [(i:Int)] fs)∧(j≤i→fs=eE n.toNat none),
    ⟨_,eE as.length (eE n.toNat none),none,none,none,none,none,none,rfl,rfl,hk,?_,fun i fs e=> ⟨fun h=>by omega,fun _=>?_⟩⟩,?_,?_⟩))
   ·have rep:∀(bs:List Addr) (x:List (Option Nat)),(bs.map fun a=> (a,x.map AS)).map my=(eE bs.length x).map fun fs=>fs.map AS:=fun bs x=>by
     induction bs with
     |nil=>rfl
     |cons b bs ih=>
      rw[eT,eT,ih]
      rfl
    exact rep as _
   ·rw[gG] at e
    split at e
    ·cases e;rfl
    ·cases e
   ·rintro j t _ _ e ⟨rs,FL,v3,v4,v5,v6,v7,v8,rfl,rfl,h1,h2,h3⟩
    obtain⟨hj,rfl⟩:=Ak e
    have hrl:rs.length=n.toNat:=by rw[←b6 (f:=fK),h1];exact hal
    have hjr:j<rs.length:=by omega
    have gj:=dt hjr
    have hfl:FL.length=rs.length:=by have:=congrArg List.length h2;simp at this;omega
    have gf:=dt (l:=FL) (i:=j) (by omega)
    have hrow:rs[j].2=(eE n.toNat (none:Option Nat)).map AS:=by
     have:(rs.map my)[j]?=(FL.map fun fs=>fs.map AS)[j]?:=by rw[h2]
     rw[c9,gj,c9,gf,(h3 j _ gf).2 (dv _)] at this
     exact gc.inj this
    have nd:(rs.map fK).Nodup:=by rw[h1];exact hnd
    have ne:∀r∈rs,r.1≠l:=fun r hr z=>by
     have:r.1∈as:=by rw[←h1];exact gU hr
     exact hne (r.1,_) (gU (f:=fun a=> (a,(eE n.toNat (none:Option Nat)).map AS)) this) z
    have e0:rs.set j (rs[j].1,(eE n.toNat (none:Option Nat)).map AS)=rs:=by
     rw[←hrow];exact Ry gj
    refine⟨Dx n ps l j v4 v5 v6 v7 v8,AL 3 GD.nd (by show 3<9;decide),?_⟩
    have st:=Pe (P:=P) (w:=w) (K:=K) (base:=base) (f:=f) (cdv:=cdv) (A:=A) (outer:=outer) (s:=s) (H:=H) (E:=E) (O:=O) (Ξ:=Ξ) (v4:=v4) (v5:=v5) (v6:=v6) (v7:=v7) (v8:=v8) (Φ:=Φ) (N:=fun ρ' O'=>∃(rs:List (Addr×List T)) (FL:List (List (Option Nat))) (v3 v4 v5 v6 v7 v8:Option T),ρ'=[some (BY n ps),some (.int n),some (.raw (.ref l)),v3,v4,v5,v6,v7,v8]∧O'=AZ (GA O rs) l (rs.map Bu)∧rs.map fK=as∧rs.map my=FL.map (fun fs=>fs.map AS)∧∀(i:Nat) fs,FL[i]?=some fs→(i<j+1→All n ps [(i:Int)] fs)∧(j+1≤i→fs=eE n.toNat none)) (Bk:=fun ρ' O'=>Eo (zG P w K mg base f cdv A outer s H E O Ξ) ρ' O' [Zv 3] {nx:=fun _ O'=>Φ .non O',rt:=Φ}) (Ct:=fun ρ' O'=>∃(rs:List (Addr×List T)) (FL:List (List (Option Nat))) (v3 v4 v5 v6 v7 v8:Option T),ρ'=[some (BY n ps),some (.int n),some (.raw (.ref l)),v3,v4,v5,v6,v7,v8]∧O'=AZ (GA O rs) l (rs.map Bu)∧rs.map fK=as∧rs.map my=FL.map (fun fs=>fs.map AS)∧∀(i:Nat) fs,FL[i]?=some fs→(i<j+1→All n ps [(i:Int)] fs)∧(j+1≤i→fs=eE n.toNat none)) Tx hu wn (by omega) gj nd ne (fun v4 v5 v6 v7 v8 fs al=> ⟨_,FL.set j fs,_,_,_,_,_,_,rfl,rfl,by rw[Bt gj];exact h1,by rw[jJ,h2,jJ],fun i gs e=>?_⟩)
    ·have eo:Dw O l rs j rs[j] (eE n.toNat none)=AZ (GA O rs) l (rs.map Bu):=by
      show AZ (GA O (rs.set j (rs[j].1,(eE n.toNat (none:Option Nat)).map AS))) l ((rs.set j (rs[j].1,(eE n.toNat (none:Option Nat)).map AS)).map Bu)=_
      rw[e0]
     rw[←eo]
     exact st
    ·by_cases hi:j=i
     ·subst hi
      rw[eZ (by omega)] at e
      cases e
      exact⟨fun _=>al,fun h=>by omega⟩
     ·rw[fc hi] at e
      obtain⟨g1,g2⟩:=h3 i gs e
      exact⟨fun h=>g1 (by omega),fun h=>g2 (by omega)⟩
   ·rintro _ _ ⟨rs,FL,v3,v4,v5,v6,v7,v8,rfl,rfl,h1,h2,h3⟩
    rw[AY] at h3
    have hrl:rs.length=n.toNat:=by rw[←b6 (f:=fK),h1];exact hal
    have hfl:FL.length=rs.length:=by have:=congrArg List.length h2;simp at this;omega
    have nd:(rs.map fK).Nodup:=by rw[h1];exact hnd
    have mem:∀r∈rs,r.1∈as:=fun r hr=>by rw[←h1];exact gU hr
    refine Le nd (fun r hr=>hne (r.1,(eE n.toNat (none:Option Nat)).map AS) (gU (f:=fun a=> (a,(eE n.toNat (none:Option Nat)).map AS)) (mem r hr))) (fun r hr=>hfr _ (mem r hr)) (fun r hr=>hfr _ (mem r hr)) ?_
    refine Bn (p:=l) (n:=2) (ts:=rs.map fun r=>T.lst r.2) AF hlO' rfl ?_
    rw[Az hlO']
    refine AH (AR (ET.we (ev 2) ?_))
    show Φ (T.lst (rs.map fun r=>T.lst r.2)) O
    have:(rs.map fun r=>T.lst r.2)=FL.map fun fs=>T.lst (fs.map AS):=by
     have e1:(rs.map fun r=>T.lst r.2)=(rs.map my).map T.lst:=by rw[fE];rfl
     rw[e1,h2,fE];rfl
    rw[this]
    exact q FL ⟨by omega,fun i fs e=> (h3 i fs e).1 (by have:=(eB.mp e).1;omega)⟩
end
theorem KR{n:Int}{ps:List (Int×Int)}{i:Nat}(hw:EZ n ps)(hp:ps.Pairwise LX):(BV ps i).Pairwise (· < ·):=by
 unfold BV
 rw[List.pairwise_filterMap]
 refine gR ?_ hp
 intro p q hp hq h x hx y hy
 have a:=hw p hp
 have b:=hw q hq
 unfold LX at h
 have f:∀(r:Int×Int) (z:Int),(if r.1=(i:Int) then some r.2 else if r.2=(i:Int) then some r.1 else none)=some z→(r.1=(i:Int)∧r.2=z)∨(r.1≠(i:Int)∧r.2=(i:Int)∧r.1=z):=fun r z e=>by
  by_cases h:r.1=(i:Int)
  ·rw[if_pos h] at e
   cases e
   exact .inl ⟨h,rfl⟩
  ·rw[if_neg h] at e
   by_cases h2:r.2=(i:Int)
   ·rw[if_pos h2] at e
    cases e
    exact .inr ⟨h,h2,rfl⟩
   ·rw[if_neg h2] at e;cases e
 rcases f p x hx with c|c<;>rcases f q y hy with d|d<;>omega
def mm(p:Int×Int):Int×Int:=(min p.1 p.2,max p.1 p.2)
section
variable{P:Program}{w:World}{K:a8}{mg:Str→Option Value}{base:Heap}{CP CL:Addr}
def VX(ps:List (Int×Int))(a b:Int):Bool:=decide (mm (a,b)∈ps)
def Rz:Df:=LQ fun ts r=>∃n ps a b,ts=[BY n ps,.int a,.int b]∧r=.bl (VX ps a b)
theorem Xu:FnScope ["web","a","b"] ["web","a","b"] (AA OB):=⟨rfl,rfl,rfl,by decide+kernel,rfl,by decide+kernel,by decide+kernel⟩
theorem Ud{f:Addr}{fd:fm}(F:Fun K "are_tied" "are_tied" OB f fd)(Tx:Txt mg):FnOk P w K mg base (CXe P w) 1 f fd ["web","a","b"] (EK K Rz):=by
 refine Af F Xu ?_ ?_
 ·rintro ts O Φ Ξ ⟨r,⟨n,ps,a,b,rfl,_⟩,_⟩
  rfl
 ·rintro cdv A outer s H E O Ξ hr xf _ Φ ⟨_,⟨n,ps,a,b,rfl,rfl⟩,q⟩
  have hu:(A.deeper (jr "are_tied" (AA OB) s.heap.objs.size f cdv)).units+102<cLine:=by have:=hr.un;omega
  refine AH (AR (ET.we (ET.cast (Jo (Nw hu) rfl (Hg (Jz (mm (a,b))) Hi (Hj _)) (Bl (GQ Tx.nMin rfl (ev 1) (ev 2)) (GR Tx.nMax rfl (ev 1) (ev 2))) (Ae (ev 0) AB)) ?_) q))
  show T.bl ((dTs (ps.map AG)).any fun y=>iD y (dT (AG (mm (a,b)))))=T.bl (VX ps a b)
  rw[Ff]
  rfl
end
section
variable{P:Program}{w:World}{K:a8}{mg:Str→Option Value}{base:Heap}{CP CL:Addr}
end
end K04
namespace L2.TL
open PySem PySem.Spec PyProof.Rows
section
variable{Z:Zx}{ρ:List (Option T)}{O:AI}{a:Expr}{t:T}{us:List T}{K:a8}{p1 pos:Pos}
theorem FE{j:Nat}(hr:BD t=false)(ha:ET Z ρ O a t):EB Z ρ O (.Compare a [.IsNot] [.Constant .none j p1] pos) (!Iw t):=BF Sy (Av _) (fun Φ p H v w Q ok r1 r2 q=>by
 refine⟨r2.non_inv,?_⟩
 have e:decide (v=V.non)=Iw t:=by
  cases r1<;>first|rfl|cases hr
 rw[e]
 exact q _ H _ O p (.refl ok) (.bl _)) ha CJ
end
def AK(ns:List Int):T:=.tup (ns.map T.int)
theorem GY:∀{ns:List Int},rdBs (ns.map T.int)=true
 | []=>rfl
 |n::ns=>by
  show(CS (.int n)&&rdBs (ns.map T.int))=true
  rw[GY,CS];rfl
theorem SA{ns:List Int}:CS (AK ns)=true:=by unfold AK;rw[CS];exact GY
theorem JF:∀{L:List (List Int)},rdBs (L.map AK)=true
 | []=>rfl
 |x::L=>by
  show(CS (AK x)&&rdBs (L.map AK))=true
  rw[SA,JF];rfl
theorem EI.cast{Z:Zx}{ρ:List (Option T)}{O:AI}{tg iter:Expr}{ts us:List T}(h:EI Z ρ O tg iter ts)(e:ts=us):EI Z ρ O tg iter us:=e▸h
theorem EV:∀{ns:List Int},iK (dTs (ns.map T.int))≤1
 | []=>by simp[dTs,iK]
 |n::ns=>by
  have:=EV (ns:=ns)
  simp only[eT,dTs,iK,dT,PyData.depth]
  omega
end L2.TL
namespace K04
open PySem L2 L2.TL PySem.Spec PyProof.Rows Gr
def FF(fs:List (Option Nat)):List Int:=(fs.filter mi).map fun x=> ((x.getD 0:Nat):Int)
theorem Hy:∀{fs:List (Option Nat)},(fs.filter mi).map AS=(FF fs).map T.int
 | []=>rfl
 |none::fs=>Hy (fs:=fs)
 |some d::fs=>by
  show T.int (d:Int)::(fs.filter mi).map AS=T.int (d:Int)::(FF fs).map T.int
  rw[Hy]
theorem Ue{fs:List (Option Nat)}{z:Int}:z∈FF fs↔∃(i d:Nat),fs[i]?=some (some d)∧z=d:=by
 unfold FF
 rw[eQ]
 constructor
 ·rintro⟨x,hx,rfl⟩
  obtain⟨h1,h2⟩:=fD.mp hx
  cases x with
  |none=>cases h2
  |some d=>
   obtain⟨i,hi⟩:=fM h1
   exact⟨i,d,hi,rfl⟩
 ·rintro⟨i,d,h,rfl⟩
  exact⟨some d,fD.mpr ⟨dw h,rfl⟩,rfl⟩
theorem SB{x:Option Nat}{k:Nat}:iD (dT (AS x)) (dT (.int (k:Int)))=decide (x=some k):=by
 cases x with
 |none=>rfl
 |some d=>
  show((d:Int)==(k:Int))=_
  rw[ic]
  simp
  omega
theorem Xv{x:Option Nat}:CS (AS x)=true:=by cases x<;>rw[AS,CS]
theorem Pf{x:Option Nat}:(dT (AS x)).depth≤100:=by cases x<;> (show 0≤100;decide)
section
variable{P:Program}{w:World}{K:a8}{mg:Str→Option Value}{base:Heap}{CP CL:Addr}
end
end K04
namespace StT
open PySem PySem.SetTable PyProof.Rows
section
variable{prog:Program}{w:World}{A:eU}{E:Value→a9→Prop}{s:a9}
variable{a:Addr}{xs:List (Int×Tok)}{o:Obj}{es:Array (Int×Value)}{ep:Nat}{t:gB}
end
section
variable{prog:Program}{w:World}{A:eU}{E:Value→a9→Prop}{s:a9}
variable{a:Addr}{xs:List (Int×Tok)}{o:Obj}{es:Array (Int×Value)}{ep:Nat}{t:gB}
end
section
variable{prog:Program}{w:World}{A:eU}{E:Value→a9→Prop}{s:a9}
end
open PySem.Calls PySem.W
section
variable{prog:Program}{w:World}{A:eU}{E:Value→a9→Prop}{s:a9}
end
end StT
namespace L2
open PySem PySem.Spec PySem.Calls PyProof.Rows
section
variable{X:Cx}
end
end L2
namespace L2.TL
open PySem PySem.Spec PySem.Calls PyProof.Rows
section
variable{Z:Zx}{ρ:List (Option T)}{O:AI}{e:Expr}{Φ:BW}{pos p p1 pos1:Pos}
end
end L2.TL
namespace K04
open PySem L2 L2.TL PySem.Spec PyProof.Rows Gr
def AE(ps:List (Int×Int))(x:Int):List Int:=(ps.filter fun p=>decide (x∈[p.1,p.2])).map fun p=>p.1+p.2-x
theorem BX{ps:List (Int×Int)}{x v:Int}:v∈AE ps x↔Adj ps x v:=by
 unfold AE
 rw[eQ]
 constructor
 ·rintro⟨p,hp,rfl⟩
  obtain⟨h1,h2⟩:=fD.mp hp
  have h2:x=p.1∨x=p.2:=by simpa using h2
  rcases h2 with h|h
  ·refine .inl ?_
   have e:(x,p.1+p.2-x)=p:=jB h (by show p.1+p.2-x=p.2;omega)
   rw[e];exact h1
  ·refine .inr ?_
   have e:(p.1+p.2-x,x)=p:=jB (by show p.1+p.2-x=p.1;omega) h
   rw[e];exact h1
 ·rintro(h|h)
  ·exact⟨_,fD.mpr ⟨h,by simp⟩,by show x+v-x=v;omega⟩
  ·exact⟨_,fD.mpr ⟨h,by simp⟩,by show v+x-x=v;omega⟩
section
variable{P:Program}{w:World}{K:a8}{mg:Str→Option Value}{base:Heap}
variable{f:Addr}{cdv:Value}{A:eU}{outer:List Env}{s:a9}{H:Hp}{E:XK}{O:AI}{Ξ:Value→AI→Prop}{n:Int}{ps:List (Int×Int)}{S bs:List Int}{l:Addr}
end
end K04
namespace L2.TL
open PySem PySem.Spec PyProof.Rows
section
variable{Z:Zx}{ρ:List (Option T)}{O:AI}{e:Expr}{Φ:BW}{pos p:Pos}{ts:List T}
theorem Pg(m:Z.X.mg "list" =none)(h:ET Z ρ O e (.lst ts))(q:∀a,O a=none→Φ (.raw (.ref a)) (AZ O a ts))(hg:Gl Z.X "list":=by rfl)(he:du [e] Z.X.env=(false,eval e Z.X.env)::du [] Z.X.env:=by rfl):WE Z ρ O (.Call (.Name "list" p) [e] [] pos) Φ:=
 Dq EH m Nj (AJ h AC he _ (fun H vs Q ok r k=>by
  obtain⟨v,rfl,r1⟩:=r.one_inv
  obtain⟨a,xs,rfl,h1,_,r1⟩:=r1.lst_inv
  exact⟨a,xs,rfl,.inl (.inl (.inl h1)),fun p hp=>k _ _ _ _ (q p (ok.none_of hp)) (.newO ok hp r1) (.raw _)⟩)) hg (by decide) (by decide) he
end
end L2.TL
namespace K04
open PySem L2 L2.TL PySem.Spec PyProof.Rows GrR
def Lu:List Int→Option Int
 | []=>none
 |x::xs=>some (match Lu xs with|none=>x|some m=>min x m)
theorem GZ:∀(ns:List Int),Fk ns (Lu ns)
 | []=>rfl
 |x::xs=>by
  have h:=GZ xs
  show Fk (x::xs) (some (match Lu xs with|none=>x|some m=>min x m))
  cases e:Lu xs with
  |none=>
   rw[e] at h
   rw[show xs=[] from h]
   exact⟨by simp,fun n hn=>by rw[dr.mp hn];exact jb _⟩
  |some m=>
   rw[e] at h
   refine⟨?_,fun n hn=>?_⟩
   ·rcases oi x m with hx|hx
    ·show min x m∈_
     rw[Int.min_eq_left hx];simp
    ·show min x m∈_
     rw[Int.min_eq_right hx];exact eF _ h.1
   ·rcases eJ.mp hn with rfl|hn
    ·exact Int.min_le_left ..
    ·exact jL (Int.min_le_right ..) (h.2 n hn)
def Hz(rows:List (List Int))(a b:Int):List (List Int):=rows.set a.toNat ((rows.getD a.toNat []).filter fun v=>decide (v≠b))
def IA(rows:List (List Int))(a b:Int):Option Nat:=(IP (Rw (Hz rows a b)) [a] b).map (· +1)
theorem NB{rows:List (List Int)}{a b u v:Int}(a0:0≤a)(a1:a<rows.length):Rw (Hz rows a b) u v↔Rw rows u v∧¬(u=a∧v=b):=by
 unfold Rw Hz
 have hlt:a.toNat<rows.length:=by omega
 by_cases hu:u=a
 ·subst hu
  rw[fz,eZ hlt]
  simp only[Option.getD_some,fD,decide_eq_true_eq]
  constructor
  ·rintro⟨h0,h1,h2⟩
   exact⟨⟨h0,h1⟩,fun z=>h2 z.2⟩
  ·rintro⟨⟨h0,h1⟩,h2⟩
   exact⟨h0,h1,fun z=>h2 ⟨trivial,z⟩⟩
 ·constructor
  ·rintro⟨h0,h1⟩
   rw[fz,fc (by omega),←fz] at h1
   exact⟨⟨h0,h1⟩,fun z=>hu z.1⟩
  ·rintro⟨⟨h0,h1⟩,_⟩
   refine⟨h0,?_⟩
   rw[fz,fc (by omega),←fz]
   exact h1
theorem Xw{n:Int}{rows:List (List Int)}{a b:Int}(rn:RowsN n rows)(a0:0≤a)(a1:a<n):RowsN n (Hz rows a b):=
 ⟨by unfold Hz;rw[iL];exact rn.len,rn.n1,fun u v h=>rn.hw u v ((NB a0 (by have:=rn.len;omega)).mp h).1⟩
def Ac(n:Int)(ps:List (Int×Int)):List (List Int):=(eW n.toNat).map fun i=>BV ps i
theorem Fp{n:Int}{ps:List (Int×Int)}:Hv n ps=BQ (Ac n ps):=by
 unfold Hv Ac
 show _=T.lst (((eW n.toNat).map fun i=>BV ps i).map fun r=>T.lst (r.map T.int))
 rw[fE]
 rfl
theorem Di{n:Int}{ps:List (Int×Int)}{i:Nat}(h:(i:Int)<n):(Ac n ps).getD i []=BV ps i:=by
 unfold Ac
 rw[fz,c9,j7 (by omega)]
 rfl
theorem Ga{n:Int}{ps:List (Int×Int)}(hw:Gr.EZ n ps){u v:Int}:Rw (Ac n ps) u v↔Gr.Adj ps u v:=by
 constructor
 ·rintro⟨h0,h⟩
  obtain⟨i,rfl⟩:=e7 h0
  rw[fg] at h
  by_cases hi:(i:Int)<n
  ·rw[Di hi] at h
   exact(JE hw).mp h
  ·unfold Ac at h
   rw[fz,c9,iA (by rw[gH];omega)] at h
   cases h
 ·intro a
  have hb:=a.symm.inb hw
  obtain⟨i,rfl⟩:=e7 hb.1
  refine⟨by omega,?_⟩
  rw[fg,Di hb.2.1]
  exact(JE hw).mpr a
theorem Dt{n:Int}{ps:List (Int×Int)}(wn:WebN n ps):RowsN n (Ac n ps):=
 ⟨by have:=wn.n0;unfold Ac;simp;omega,wn.n1,fun u v h=>by have:=((Ga wn.hw).mp h).inb wn.hw;exact⟨this.1,this.2.1⟩⟩
section
variable{P:Program}{w:World}{K:a8}{mg:Str→Option Value}{base:Heap}{CP CL:Addr}
def VY:Df:=LQ fun ts r=>∃xs:List (Option Nat),ts=[.lst (xs.map AS)]∧xs.length≤300∧r=Ll (Lu (FF xs))
theorem Zz:FnScope ["numbers"] ["numbers"] (AA KJ):=⟨rfl,rfl,rfl,by decide+kernel,rfl,by decide+kernel,by decide+kernel⟩
theorem aA:(Ai ["number"] []).Nodup:=by decide+kernel
theorem SC{f:Addr}{fd:fm}(F:Fun K "least_told" "least_told" KJ f fd)(Tx:Txt mg):FnOk P w K mg base (CXe P w) 1 f fd ["numbers"] (EK K VY):=by
 refine Af F Zz ?_ ?_
 ·rintro ts O Φ Ξ ⟨r,⟨xs,rfl,_⟩,_⟩
  rfl
 ·rintro cdv A outer s H E O Ξ hr xf _ Φ ⟨_,⟨xs,rfl,hl,rfl⟩,q⟩
  have sb:=Ad
  refine AH (AR (ET.we (UR (GZ _) Tx.nMin rfl (ET.cast (Hb ["number"] [] xs AS AS mi rfl (Bf (AA KJ) ["numbers"] (by decide+kernel)) (Am (ev 0)) (by omega) fun x hx=> ⟨[some (AS x)],fun X' Oe He is O'=>?_⟩) (by rw[Hy]))) q))
  obtain⟨cl,s',H',fp,rfl⟩:=is
  refine⟨AL 0 aA (by decide),EB.cast (FE Hw (ev 0)) ?_,fun _=>ev 0⟩
  cases x<;>rfl
def VZ:Df:=LQ fun ts r=>∃(n:Int) (rows:List (List Int)) (a b:Int),ts=[BQ rows,.int a,.int b]∧RowsN n rows∧(∀r∈rows,r.length≤300)∧(0≤a∧a<n)∧(0≤b∧b<n)∧r=AS (IA rows a b)
def aB:List Str:=["nears","a","b","cut","far"]
theorem SD:FnScope aB ["nears","a","b"] (AA US):=⟨rfl,rfl,rfl,by decide+kernel,rfl,by decide+kernel,by decide+kernel⟩
theorem aC:(Ai ["near"] [(("b" :Str),2)]).Nodup:=by decide+kernel
theorem Xx{f:Addr}{fd:fm}(F:Fun K "ring_by_tie" "ring_by_tie" US f fd)(Tx:Txt mg)(G:FnT P w K mg base "fars_from" 1 ["nears","starts"] KQ):FnOk P w K mg base (CXe P w) 2 f fd ["nears","a","b"] (EK K VZ):=by
 refine Af F SD ?_ ?_
 ·rintro ts O Φ Ξ ⟨r,⟨n,rows,a,b,rfl,_⟩,_⟩
  rfl
 ·rintro cdv A outer s H E O Ξ hr xf _ Φ ⟨_,⟨n,rows,a,b,rfl,rn,hlr,ha,hb,rfl⟩,q⟩
  have sb:=Ad
  have hl:=rn.len
  have n1:=rn.n1
  obtain⟨i,rfl⟩:=e7 ha.1
  obtain⟨j,rfl⟩:=e7 hb.1
  have hi:i<rows.length:=by omega
  have hri:(rows.getD i []).length≤300:=hlr _ (by rw[fz,dt hi];exact gF hi)
  refine AD (AM 3 (Pg Tx.nList (ev 0) fun l hlO=>?_) SD.nd)
  refine AD (EL (ET.we (t:=.lst (((rows.getD i []).filter fun v=>decide (v≠(j:Int))).map T.int)) (Hb ["near"] [("b",2)] (rows.getD i []) T.int T.int (fun v=>decide (v≠(j:Int))) rfl (Bf (AA US) aB (by decide+kernel)) (Am (CM (ev 0) (ev 1) (FD hi))) (by omega) fun x hx=> ⟨[some (.int x),some (.int (j:Int))],fun X' Oe He is O'=>?_⟩) (ET.we (ev 3) ⟨l,rfl,ET.we (ev 1) ⟨_,_,i,rfl,AF,by rw[b6];exact FB hi,?_⟩⟩)))
  ·obtain⟨cl,s',H',fp,rfl⟩:=is
   refine⟨AL 0 aC (by decide),EB.cast (Qu (ev 0) (ev 1)) ?_,fun _=>ev 0⟩
   by_cases h:x=(j:Int)<;>simp[h]
  ·rw[BE]
   have eset:(rows.map fun r=>T.lst (r.map T.int)).set i (.lst (((rows.getD i []).filter fun v=>decide (v≠(j:Int))).map T.int))=(Hz rows (i:Int) (j:Int)).map fun r=>T.lst (r.map T.int):=by
    unfold Hz
    rw[jJ,fg]
   rw[eset]
   refine Bn (p:=l) (n:=3) AF hlO rfl ?_
   rw[Az hlO]
   refine AD (AM 4 (Nb Dn (fun _ _=>rfl) (Ar G hr xf (EA.wa (AO (ev 3) (AO (BH (ts:=[(i:Int)].map T.int) (AO (ev 1) AC) (by show 1≤sizeLine;decide)) AC)) ⟨n,Hz rows i j,[(i:Int)],rfl,Xw rn ha.1 ha.2,fun z hz=>?_,fun fs al=>?_⟩))) SD.nd)
   ·rw[dr.mp hz];exact ha
   ·have hlf:=al.len
    have hg:=al.get hb.1 hb.2
    rw[fg] at hg
    refine ET.we (ev 2) (Jr (t:=AS (IP (Rw (Hz rows i j)) [(i:Int)] j)) (Ag (by rw[c9,hg];rfl)) _ ?_)
    unfold IA at q
    generalize IP (Rw (Hz rows i j)) [(i:Int)] j=x at q
    cases x with
    |none=>exact AH (AR (ET.we (Ir (x:=true) (ta:=.non) (tb:=.non) (Fg (t:=.non) rfl (ev 4)) (fun _=>CJ) (fun h=>by cases h)) q))
    |some d=>exact AH (AR (ET.we (Ir (x:=false) (ta:=.non) (tb:=.int ((d:Int)+1)) (Fg (t:=.int (d:Int)) rfl (ev 4)) (fun h=>by cases h) (fun _=>Ba (ev 4) AB)) q))
theorem SE{n:Int}{ps:List (Int×Int)}(wn:WebN n ps):∀r∈Ac n ps,r.length≤300:=fun r hr=>by
 unfold Ac at hr
 obtain⟨i,_,rfl⟩:=eQ.mp hr
 have:=EU (qs:=ps) (i:=i)
 have:=wn.hl
 omega
end
end K04
namespace L2.TL
open PySem PySem.Spec PyProof.Rows
section
variable{Z:Zx}{ρ:List (Option T)}{O:AI}{a:Expr}{t:T}{p1 pos:Pos}
end
end L2.TL
namespace K04
open PySem L2 L2.TL PySem.Spec PyProof.Rows GrR
def GE(ps:List (Int×Int))(t:Int×Int):List (Int×Int):=ps.filter fun q=>decide (q≠t)
def FG(ps:List (Int×Int))(t:Int×Int):Option Nat:=(IP (Gr.Adj (GE ps t)) [t.1] t.2).map (· +1)
theorem FH{n:Int}{ps:List (Int×Int)}(hw:Gr.EZ n ps){a b u v:Int}:Gr.Adj (GE ps (mm (a,b))) u v↔Gr.Adj ps u v∧¬(u=a∧v=b)∧¬(u=b∧v=a):=by
 have key:∀x y:Int,(x,y)∈GE ps (mm (a,b))↔(x,y)∈ps∧¬(x=a∧y=b)∧¬(x=b∧y=a):=fun x y=>by
  unfold GE
  rw[fD,decide_eq_true_eq]
  constructor
  ·rintro⟨h,hne⟩
   have hxy:=(hw _ h).2.1
   simp only at hxy
   refine⟨h,fun⟨e1,e2⟩=>hne ?_,fun⟨e1,e2⟩=>hne ?_⟩
   ·subst e1 e2;exact jB (by show x=min x y;omega) (by show y=max x y;omega)
   ·subst e1 e2;exact jB (by show x=min y x;omega) (by show y=max y x;omega)
  ·rintro⟨h,h1,h2⟩
   refine⟨h,fun e=>?_⟩
   have e1:x=min a b:=congrArg fK e
   have e2:y=max a b:=congrArg my e
   rcases oi a b with hab|hab
   ·exact h1 ⟨by omega,by omega⟩
   ·exact h2 ⟨by omega,by omega⟩
 unfold Gr.Adj
 rw[key,key]
 constructor
 ·rintro(⟨h,h1,h2⟩| ⟨h,h1,h2⟩)
  ·exact⟨.inl h,h1,h2⟩
  ·exact⟨.inr h,fun z=>h2 ⟨z.2,z.1⟩,fun z=>h1 ⟨z.2,z.1⟩⟩
 ·rintro⟨h|h,h1,h2⟩
  ·exact .inl ⟨h,h1,h2⟩
  ·exact .inr ⟨h,fun z=>h2 ⟨z.2,z.1⟩,fun z=>h1 ⟨z.2,z.1⟩⟩
theorem SF{n:Int}{ps:List (Int×Int)}(wn:WebN n ps){a b:Int}(ad:Gr.Adj ps a b):IA (Ac n ps) a b=FG ps (mm (a,b)):=by
 have ha:=ad.symm.inb wn.hw
 have hl:=(Dt wn).len
 have e1:IP (Rw (Hz (Ac n ps) a b)) [a] b=IP (Gr.Adj (GE ps (mm (a,b)))) [a] b:=Iy fun d=>UK
  (fun u v h=> (NB ha.1 (by omega)).mpr ⟨(Ga wn.hw).mpr ((FH wn.hw).mp h).1,((FH wn.hw).mp h).2.1⟩)
  (fun u v h=>by
   obtain⟨h1,h2⟩:=(NB ha.1 (by omega)).mp h
   by_cases hu:u=b∧v=a
   ·exact .inr hu.1
   ·exact .inl ((FH wn.hw).mpr ⟨(Ga wn.hw).mp h1,h2,hu⟩))
 unfold IA FG
 rw[e1]
 congr 1
 rcases oi a b with hab|hab
 ·have:mm (a,b)=(a,b):=jB (by show min a b=a;omega) (by show max a b=b;omega)
  rw[this]
 ·have:mm (a,b)=(b,a):=jB (by show min a b=b;omega) (by show max a b=a;omega)
  rw[this]
  exact Iy fun d=>Ny fun u v h=>Gr.Adj.symm h
theorem Va{n:Int}{ps:List (Int×Int)}(hw:Gr.EZ n ps){p:Int×Int}(h:p∈ps):mm p=p∧mm (p.2,p.1)=p:=by
 have:=(hw _ h).2.1
 exact⟨jB (by show min p.1 p.2=p.1;omega) (by show max p.1 p.2=p.2;omega),jB (by show min p.2 p.1=p.1;omega) (by show max p.2 p.1=p.2;omega)⟩
section
variable{P:Program}{w:World}{K:a8}{mg:Str→Option Value}{base:Heap}{CP CL:Addr}
end
variable{n:Int}{ps:List (Int×Int)}{s:Nat}
theorem Dj:∀u v,Gr.Adj ps u v→Gr.Adj ps v u:=fun _ _ h=>h.symm
theorem Cq:∀u v,v∈AE ps u↔Gr.Adj ps u v:=fun _ _=>BX
theorem Cz(hw:Gr.EZ n ps){i:Nat}:BV ps i=AE ps (i:Int):=by
 unfold BV AE
 induction ps with
 |nil=>rfl
 |cons p ps ih=>
  have ih:=ih fun q hq=>hw q (eF _ hq)
  have hp:=hw p (by simp)
  by_cases h1:p.1=(i:Int)
  ·rw[gD,if_pos h1,j4,if_pos (by simp[h1]),eT,←ih,show p.1+p.2- (i:Int)=p.2 by omega]
  ·by_cases h2:p.2=(i:Int)
   ·rw[gD,if_neg h1,if_pos h2,j4,if_pos (by simp[h2]),eT,←ih,show p.1+p.2- (i:Int)=p.1 by omega]
   ·rw[gD,if_neg h1,if_neg h2,j4,if_neg (by simp only[eJ,fW,or_false,decide_eq_true_eq];exact fun z=>z.elim (fun z=>h1 z.symm) (fun z=>h2 z.symm))]
    exact ih
theorem Ug(hw:Gr.EZ n ps){u:Int}(h:u<0):AE ps u=[]:=by
 cases e:AE ps u with
 |nil=>rfl
 |cons v l=>
  have:Gr.Adj ps u v:=BX.mp (by rw[e];simp)
  have:=(this.symm.inb hw).1
  omega
theorem Fq(hw:Gr.EZ n ps)(hp:ps.Pairwise LX):∀u,(AE ps u).Pairwise (· < ·):=fun u=>by
 by_cases h:u<0
 ·rw[Ug hw h];exact fv.nil
 ·obtain⟨i,rfl⟩:=e7 (show 0≤u by omega)
  rw[←Cz hw]
  exact KR hw hp
theorem Bw(hw:Gr.EZ n ps):∀u v,Gr.Adj ps u v→0≤v∧v<n:=fun u v h=> ⟨(h.inb hw).1,(h.inb hw).2.1⟩
theorem aD(hw:Gr.EZ n ps)(hp:ps.Pairwise LX):∀u,(AE ps u).Nodup:=fun u=>jS (fun h=>by omega) (Fq hw hp u)
def Du(ps:List (Int×Int)):Option Int:=Lu (FF (ps.map fun p=>FG ps p))
theorem Lv(hw:Gr.EZ n ps){p:Int×Int}(hp:p∈ps):Gr.Adj (GE ps p)=VS (Gr.Adj ps) p.1 p.2:=by
 funext u v
 have:=FH hw (a:=p.1) (b:=p.2) (u:=u) (v:=v)
 rw[(Va hw hp).1] at this
 exact propext this
theorem Lw{z:Int}:z∈FF (ps.map fun p=>FG ps p)↔∃p∈ps,∃d:Nat,IP (Gr.Adj (GE ps p)) [p.1] p.2=some d∧z=d+1:=by
 rw[Ue]
 constructor
 ·rintro⟨i,d,h,rfl⟩
  rw[c9] at h
  cases e:ps[i]? with
  |none=>rw[e] at h;cases h
  |some p=>
   rw[e] at h
   have h:FG ps p=some d:=by simpa using h
   unfold FG at h
   cases e2:IP (Gr.Adj (GE ps p)) [p.1] p.2 with
   |none=>rw[e2] at h;cases h
   |some d'=>
    rw[e2] at h
    have:d'+1=d:=by simpa using h
    exact⟨p,dw e,d',e2,by omega⟩
 ·rintro⟨p,hp,d,h,rfl⟩
  obtain⟨i,hi,rfl⟩:=iq hp
  refine⟨i,d+1,?_,by omega⟩
  rw[c9,dt hi]
  unfold FG
  simp[h]
theorem KS(hw:Gr.EZ n ps){r:List Int}(h:Ring (Gr.Adj ps) r):∃m,Du ps=some m∧m≤r.length:=by
 obtain⟨a,b,hab,w⟩:=Xj h
 have key:∃z,z∈FF (ps.map fun p=>FG ps p)∧z≤r.length:=by
  have hl:=h.len
  have fin:∀p∈ps,W (VS (Gr.Adj ps) p.1 p.2) [p.1] (r.length-1) p.2→∃z,z∈FF (ps.map fun p=>FG ps p)∧z≤r.length:=fun p hp w=>by
   obtain⟨d,hd,hD⟩:=w.least
   rw[←Lv hw hp] at hD
   exact⟨d+1,Lw.mpr ⟨p,hp,d,Bp hD,rfl⟩,by omega⟩
  have sy:∀u v,VS (Gr.Adj ps) a b u v→VS (Gr.Adj ps) a b v u:=fun u v c=> ⟨c.1.symm,fun e=>c.2.2 ⟨e.2,e.1⟩,fun e=>c.2.1 ⟨e.2,e.1⟩⟩
  have sw:∀u v,VS (Gr.Adj ps) a b u v→VS (Gr.Adj ps) b a u v:=fun u v c=> ⟨c.1,c.2.2,c.2.1⟩
  rcases hab with hm|hm
  ·exact fin (a,b) hm (w.rev sy)
  ·exact fin (b,a) hm (w.mono sw)
 obtain⟨z,hz,hle⟩:=key
 have hm:=GZ (FF (ps.map fun p=>FG ps p))
 unfold Du
 cases e:Lu (FF (ps.map fun p=>FG ps p)) with
 |none=>rw[e] at hm;have hm:FF (ps.map fun p=>FG ps p)=[]:=hm;rw[hm] at hz;cases hz
 |some m=>
  rw[e] at hm
  exact⟨m,rfl,jL (hm.2 z hz) hle⟩
theorem Xy(hw:Gr.EZ n ps){m:Int}(h:Du ps=some m):∃r,Ring (Gr.Adj ps) r∧(r.length:Int)=m:=by
 have hm:=GZ (FF (ps.map fun p=>FG ps p))
 unfold Du at h
 rw[h] at hm
 obtain⟨p,hp,d,hd,rfl⟩:=Lw.mp hm.1
 rw[Lv hw hp] at hd
 obtain⟨r,h1,h2⟩:=UO Dj (fun u hu=> (hu.inb hw).2.2 rfl) (show Gr.Adj ps p.1 p.2 from .inl hp) (Et.mp hd)
 exact⟨r,h1,by rw[h2];rfl⟩
theorem SG(hw:Gr.EZ n ps){r:List Int}(h:Ring (Gr.Adj ps) r):(r.length:Int)≤n∧3≤r.length:=by
 have:=Gr.KB (n:=n) h.nd (GT (Bw hw) h)
 have:=h.len
 omega
theorem BS(hw:Gr.EZ n ps){m:Int}(h:Du ps=some m):∃k:Nat,m=k∧3≤k∧(k:Int)≤n∧(∀M,Ring (Gr.Adj ps) M→k≤M.length)∧∃r,Ring (Gr.Adj ps) r∧r.length=k:=by
 obtain⟨r,h1,h2⟩:=Xy hw h
 have hl:=SG hw h1
 refine⟨r.length,h2.symm,hl.2,hl.1,fun M hM=>?_,r,h1,rfl⟩
 obtain⟨m',e,hle⟩:=KS hw hM
 rw[h] at e
 cases e
 omega
theorem SH(hw:Gr.EZ n ps)(h:Du ps=none)(hs:3≤s):Bq (Gr.Adj ps) (AE ps) s n.toNat=[]:=by
 cases e:Bq (Gr.Adj ps) (AE ps) s n.toNat with
 |nil=>rfl
 |cons r l=>
  obtain⟨h1,_⟩:=(Cw Dj Cq (Bw hw) hs).mp (by rw[e];exact eY ..)
  obtain⟨m,h2,_⟩:=KS hw h1
  rw[h] at h2;cases h2
theorem SI(hw:Gr.EZ n ps){m:Int}(h:Du ps=some m)(hs:3≤s)(hm:(s:Int)<m):Bq (Gr.Adj ps) (AE ps) s n.toNat=[]:=by
 cases e:Bq (Gr.Adj ps) (AE ps) s n.toNat with
 |nil=>rfl
 |cons r l=>
  obtain⟨h1,h3⟩:=(Cw Dj Cq (Bw hw) hs).mp (by rw[e];exact eY ..)
  obtain⟨m',h2,hle⟩:=KS hw h1
  rw[h] at h2;cases h2;omega
theorem NC(hw:Gr.EZ n ps)(hp:ps.Pairwise LX)(hn:n≤32){k:Nat}(h:Du ps=some (k:Int)):Bq (Gr.Adj ps) (AE ps) k n.toNat≠[]∧Bq (Gr.Adj ps) (AE ps) k n.toNat=RX (Gr.Adj ps) (AE ps) k n.toNat:=by
 obtain⟨k',e,h3,hkn,hl,r,hr,hrl⟩:=BS hw h
 have:k'=k:=by omega
 subst this
 refine⟨fun z=>?_,UP Dj Cq (Bw hw) hn (Fq hw hp) h3 hl⟩
 have:=(Cw (s:=k') Dj Cq (Bw hw) h3).mpr ⟨hr,hrl⟩
 rw[z] at this
 cases this
theorem Xz:∀m,m≤9→∀k,k≤9→bu m k≤362880:=by decide+kernel
theorem FI(hw:Gr.EZ n ps)(hp:ps.Pairwise LX)(hn:n≤10){c:Nat→Int→Bool}{p:Int}(h:0≤p∧p<n){k:Nat}(hk:k≤9):(Ea (AE ps) c p k).length≤362880:=
 fo (UN Cq (aD hw hp) (fun u v h=>Bw hw u v ((Cq u v).mp h)) h) (Xz _ (by omega) k hk)
end K04
namespace L2
open PySem PySem.Spec PyProof.Rows
section
variable{X:Cx}{W:St→XK}
end
end L2
namespace L2.TL
open PySem PySem.Spec PyProof.Rows
section
variable{Z:Zx}{ρ:List (Option T)}{O:AI}{Φ:BW}{p pos:Pos}{x:Str}{t:T}
end
theorem IB:∀{ns:List Int},rdBs (ns.map T.int)=true
 | []=>rfl
 |n::ns=>by
  rw[eT,rdBs,IB]
  rfl
section
variable{Z:Zx}{ρ:List (Option T)}{O:AI}{Ψ:Es}{a b o e:Expr}{apos cpos pos:Pos}{bs:List Bool}{i:Int}{ns:List Int}
end
end L2.TL
namespace L2
open PySem PySem.Spec PySem.Calls PyProof.Rows
section
variable{X:Cx}
def SJ(ns:List Int):Int:=ot (fun i=>ns.getD i 0) ns.length
theorem JG{ns:List Int}(h:∀x∈ns,0≤x∧x≤1000000):∀k,0≤ot (fun i=>ns.getD i 0) k∧ot (fun i=>ns.getD i 0) k≤1000000*(k:Int)
 |0=> ⟨jb _,jb _⟩
 |k+1=>by
  have ih:=JG h k
  have e:0≤ns.getD k 0∧ns.getD k 0≤1000000:=by
   by_cases hk:k<ns.length
   ·have:=h ns[k] (gF hk)
    simpa[gQ,hk] using this
   ·simp[gQ,iA (by omega:ns.length≤k)]
  show 0≤ot (fun i=>ns.getD i 0) k+ns.getD k 0∧ot (fun i=>ns.getD i 0) k+ns.getD k 0≤_
  omega
theorem Ph(hc:X.calm=true):Au X (.builtin "sum") (fun vs H Q=>∃(a:Addr) (ns:List Int),vs=[.ref a]∧Wr X.K H a (ns.map V.int)∧(∀x∈ns,0≤x∧x≤1000000)∧ns.length≤1000∧Q (.int (SJ ns)) H):=by
 intro pins s σ H vs us Q I r h
 obtain⟨a,ns,rfl,hq,hb,hz,q⟩:=h
 obtain⟨u,rfl,ru⟩:=DP r
 cases ru
 obtain⟨its,rv,lt,wk⟩:=I.walk hq
 have hl:its.length=ns.length:=by have:=rv.length;rw[b6] at this;exact this.symm
 refine call_sum_walk (wk X.A.in1 _ _ (I.ok.hd hc) fun o St W st=> ⟨_,_,_,_,_,_,fun i=>ns.getD i 0,rfl,W,st,fun b hb=>?_,fun i v hv=>CI rv i v hv,fun j hj=>?_,fun h' tk t' hk=>?_⟩)
 ·show b< (s.heap.push o).objs.size
  rw[fZ]
  simp only[eJ,fW,or_false] at hb
  rcases hb with rfl|rfl
  ·exact iT _
  ·exact gZ lt
 ·have b1:=JG hb (j+1)
  have b0:0≤ns.getD j 0∧ns.getD j 0≤1000000:=by
   have hjl:j<ns.length:=by omega
   have:=hb ns[j] (gF hjl)
   simpa[gQ,hjl] using this
  have hj':((j+1:Nat):Int)≤1000:=by omega
  unfold InLong
  dsimp only
  constructor
  ·omega
  ·omega
 ·rw[hl]
  exact⟨.int _,H,I.kept (t':=tk) (FW hk),⟨t',rfl⟩,q⟩
end
end L2
namespace L2.TL
open PySem PySem.Spec PySem.Calls PyProof.Rows
section
variable{Z:Zx}{ρ:List (Option T)}{O:AI}{e:Expr}{p pos:Pos}{ns:List Int}
theorem bz:fw "sum" =some (.builtin "sum"):=by decide+kernel
theorem YA(hb:∀x∈ns,0≤x∧x≤1000000)(hz:ns.length≤1000)(m:Z.X.mg "sum" =none)(hc:Z.X.calm=true)(h:ET Z ρ O e (.lst (ns.map T.int)))(hg:Gl Z.X "sum":=by rfl)(he:du [e] Z.X.env=(false,eval e Z.X.env)::du [] Z.X.env:=by rfl):ET Z ρ O (.Call (.Name "sum" p) [e] [] pos) (.int (SJ ns)):=
 Ax (Ph hc) m bz (AJ h AC he) (fun Φ q H vs Q ok r k=>by
  obtain⟨v,rfl,r1⟩:=r.one_inv
  obtain⟨a,xs,rfl,h1,o1,r1⟩:=r1.lst_inv
  cases Reps.ints r1
  exact⟨a,ns,rfl,.inl (.inl (.inl h1)),hb,hz,k _ H _ O q (.refl ok) (.int _)⟩) hg (by decide) (by decide) he
end
end L2.TL
namespace K04
open PySem L2 L2.TL PySem.Spec PyProof.Rows GrR
theorem aE{n:Int}{ps:List (Int×Int)}(wn:WebN n ps):Lu (FF (ps.map fun p=>IA (Ac n ps) p.1 p.2))=Du ps:=by
 unfold Du
 congr 2
 refine List.map_congr_left fun p hp=>?_
 rw[SF wn (show Gr.Adj ps p.1 p.2 from .inl hp)]
 exact congrArg (FG ps) (Va wn.hw hp).1
theorem aF:(Ai ["a","b"] [(("nears" :Str),1)]).Nodup:=by decide+kernel
section
variable{P:Program}{w:World}{K:a8}{mg:Str→Option Value}{base:Heap}
def Gc:Df:=LQ fun ts r=>∃n ps,ts=[BY n ps]∧WebN n ps∧r=Ll (Du ps)
theorem OM:FnScope ["web","nears"] ["web"] (AA KL):=⟨rfl,rfl,rfl,by decide+kernel,rfl,by decide+kernel,by decide+kernel⟩
theorem SK{f:Addr}{fd:fm}(F:Fun K "shortest" "shortest" KL f fd)(G:FnT P w K mg base "nears_of" 1 ["web"] GX)(Gr:FnT P w K mg base "ring_by_tie" 2 ["nears","a","b"] VZ)(Gl:FnT P w K mg base "least_told" 1 ["numbers"] VY):FnOk P w K mg base (CXe P w) 3 f fd ["web"] (EK K Gc):=by
 refine Af F OM ?_ ?_
 ·rintro ts O Φ Ξ ⟨r,⟨n,ps,rfl,_⟩,_⟩
  rfl
 ·rintro cdv A outer s H E O Ξ hr xf _ Φ ⟨_,⟨n,ps,rfl,wn,rfl⟩,q⟩
  have sb:=Ad
  have hl:=wn.hl
  refine AD (AM 1 (ET.we (BN G (hr.mono (by decide)) xf (AO (ev 0) AC) ⟨n,ps,rfl,wn.n0,wn.n1,wn.hw,wn.hl,rfl⟩) ?_) OM.nd)
  rw[Fp,←aE wn] at*
  refine AH (AR (ET.we (BN Gl (hr.mono (by decide)) xf (AO (CO ["a","b"] [("nears",1)] ps AG (fun p=>AS (IA (Ac n ps) p.1 p.2)) rfl (Bf (AA KL) ["web","nears"] (by decide+kernel)) (EM (Ae (ev 0) AB)) (by omega) fun p hp=> ⟨[some (.int p.1),some (.int p.2),some (BQ (Ac n ps))],fun X' Oe He is O'=>?_⟩) AC) ⟨ps.map fun p=>IA (Ac n ps) p.1 p.2,by rw[fE];rfl,by rw[b6];omega,rfl⟩) q))
  obtain⟨cl,s',H',fp,rfl⟩:=is
  have hb:=wn.hw p hp
  exact⟨Bh 0 1 rfl aF (by decide) (by decide),BN Gr hr Bc (AO (ev 2) (AO (ev 0) (AO (ev 1) AC))) ⟨n,Ac n ps,p.1,p.2,rfl,Dt wn,SE wn,by omega,by omega,rfl⟩⟩
def cF(fs:List (Option Nat))(k:Nat)(v:Int):Bool:=decide (fs.getD v.toNat none=some k)
def IR(c:Int→Bool)(r xs:List Int):List (List Int):=(xs.filter fun v=>c v&&!decide (v∈r)).map fun v=>r++[v]
theorem CD{c:Int→Bool}{r xs:List Int}{v:Int}:IR c r (xs++[v])=IR c r xs++(if(c v&&!decide (v∈r))=true then[r++[v]] else[]):=by
 unfold IR
 rw[List.filter_append,fj]
 congr 1
 by_cases h:(c v&&!decide (v∈r))=true
 ·rw[if_pos h,j4,if_pos h];rfl
 ·rw[if_neg h,j4,if_neg h];rfl
theorem SL{c:Int→Bool}{r xs:List Int}{i:Nat}:(IR c r (xs.take i)).length≤(IR c r xs).length:=by
 unfold IR
 rw[b6,b6]
 exact((kK i xs).filter _).length_le
theorem IC{nb:Int→List Int}{c:Int→Bool}{rs:List (List Int)}{r:List Int}:GB nb c (rs++[r])=GB nb c rs++IR c r (nb (lst r)):=by
 unfold GB
 rw[j8]
 simp only[lZ,List.flatMap_nil,gE]
 rfl
theorem ON{nb:Int→List Int}{c:Int→Bool}{rs:List (List Int)}{j:Nat}{r:List Int}(h:rs[j]?=some r)(i:Nat):(GB nb c (rs.take j)).length+(IR c r ((nb (lst r)).take i)).length≤(GB nb c rs).length:=by
 have e:rs=rs.take j++[r]++rs.drop (j+1):=by
  obtain⟨hj,rfl⟩:=eB.mp h
  rw[gk,List.singleton_append,jK,gW]
 have h1:(GB nb c rs).length=(GB nb c (rs.take j++[r])).length+(GB nb c (rs.drop (j+1))).length:=by
  conv=>lhs;rw[e]
  unfold GB
  rw[j8,eK]
 rw[h1,IC,eK]
 have:=SL (c:=c) (r:=r) (xs:=nb (lst r)) (i:=i)
 omega
def Vb:Df:=LQ fun ts t=>∃(n:Int) (ps:List (Int×Int)) (fs:List (Option Nat)) (rs:List (List Int)) (k:Nat),ts=[BQ (Ac n ps),.lst (fs.map AS),.lst (rs.map AK),.int (k:Int)]∧WebN n ps∧(fs.length:Int)=n∧(∀r∈rs,r≠[]∧r.length≤900∧∀z∈r,0≤z∧z<n)∧(GB (AE ps) (cF fs k) rs).length≤8000000∧t=.lst ((GB (AE ps) (cF fs k) rs).map AK)
def cA:List Str:=["nears","fars","rows","far","longer","row","near"]
theorem OO:FnScope cA ["nears","fars","rows","far"] (AA UT):=⟨rfl,rfl,rfl,by decide+kernel,rfl,by decide+kernel,by decide+kernel⟩
theorem Bd:(9000000:Nat)<sizeLine:=by decide
theorem Gd{r:List Int}(h:r≠[]):atI (r.map T.int) (-1)=some (.int (lst r)):=by
 obtain⟨M,e⟩:=iN.mp (Co h)
 generalize lst r=v at*
 subst e
 rw[fj]
 exact QH _ _
theorem KU{r:List Int}(h:r≠[]):lst r∈r:=iX (Co h)
theorem YB{f:Addr}{fd:fm}(F:Fun K "rows_longer" "rows_longer" UT f fd):FnOk P w K mg base (CXe P w) 1 f fd ["nears","fars","rows","far"] (EK K Vb):=by
 refine Af F OO ?_ ?_
 ·rintro ts O Φ Ξ ⟨r,⟨n,ps,fs,rs,k,rfl,_⟩,_⟩
  rfl
 ·rintro cdv A outer s H E O Ξ hr xf _ Φ ⟨_,⟨n,ps,fs,rs,k,rfl,wn,hf,hrs,hz,rfl⟩,q⟩
  have sb:=Bd
  have hu:(A.deeper (jr "rows_longer" (AA UT) s.heap.objs.size f cdv)).units+102<cLine:=by have:=hr.un;omega
  refine AD (AM 4 (Dp (Al ⟨fB _,fun l hl=>?_⟩)) OO.nd)
  refine AD (As Ab.own rfl (EI.wi (Am (ev 2)) ⟨fun j ρ' O'=>∃v5 v6:Option T,ρ'=[some (BQ (Ac n ps)),some (.lst (fs.map AS)),some (.lst (rs.map AK)),some (.int (k:Int)),some (.raw (.ref l)),v5,v6]∧O'=AZ O l ((GB (AE ps) (cF fs k) (rs.take j)).map AK),⟨none,none,rfl,rfl⟩,?_,?_⟩))
  ·rintro j t _ _ e ⟨v5,v6,rfl,rfl⟩
   rw[c9] at e
   cases er:rs[j]? with
   |none=>rw[er] at e;cases e
   |some r=>
    rw[er] at e
    cases e
    obtain⟨h1,h2,h3⟩:=hrs r (dw er)
    have hll:=h3 _ (KU h1)
    obtain⟨u,hu'⟩:=e7 hll.1
    have hrow:(Ac n ps).getD u []=AE ps (lst r):=by
     rw[Di (by omega),Cz wn.hw,←hu']
    have hlen:u< (Ac n ps).length:=by have:=(Dt wn).len;omega
    refine⟨[some (BQ (Ac n ps)),some (.lst (fs.map AS)),some (.lst (rs.map AK)),some (.int (k:Int)),some (.raw (.ref l)),some (AK r),v6],AL 5 OO.nd (by show 5<7;decide),?_⟩
    refine AH (As Ab.own rfl (EI.wi (Am (ts:=(AE ps (lst r)).map T.int) (ET.cast (CM (ev 0) (ET.cast (Ae (ts:=r.map T.int) (ev 5) (HQ AB) (Gd h1)) (by rw[hu'])) (FD hlen)) (by rw[hrow]))) ⟨fun i ρ' O'=>∃v6:Option T,ρ'=[some (BQ (Ac n ps)),some (.lst (fs.map AS)),some (.lst (rs.map AK)),some (.int (k:Int)),some (.raw (.ref l)),some (AK r),v6]∧O'=AZ O l ((GB (AE ps) (cF fs k) (rs.take j)++IR (cF fs k) r ((AE ps (lst r)).take i)).map AK),⟨v6,rfl,by rw[kJ];show _=AZ O l ((_++[]).map _);rw[gE]⟩,?_,?_⟩))
    ·rintro i t _ _ e ⟨v6,rfl,rfl⟩
     rw[c9] at e
     cases ei:(AE ps (lst r))[i]? with
     |none=>rw[ei] at e;cases e
     |some v=>
      rw[ei] at e
      cases e
      have hv:=Bw wn.hw _ _ (BX.mp (dw ei))
      obtain⟨y,rfl⟩:=e7 hv.1
      have hy:y<fs.length:=by omega
      refine⟨[some (BQ (Ac n ps)),some (.lst (fs.map AS)),some (.lst (rs.map AK)),some (.int (k:Int)),some (.raw (.ref l)),some (AK r),some (.int y)],AL 6 OO.nd (by show 6<7;decide),?_⟩
      have hfa:atI (fs.map AS) (y:Int)=some (AS (fs.getD y none)):=Ag (by rw[c9,dt hy];simp[gQ,hy])
      have step:(AE ps (lst r)).take (i+1)=(AE ps (lst r)).take i++[(y:Int)]:=by rw[fQ,ei];rfl
      refine AH (Ay (k:=cF fs k (y:Int)&&!decide ((y:Int)∈r)) (EW.eb (De (EB.cast (BF (RL (Nat.lt_of_succ_lt hu)) (Av _) (Xa (u:=.int (k:Int)) Xv (by rw[CS]) Pf) (CM (ev 1) (ev 6) hfa) (ev 3)) SB) fun _=>CZ (EB.cast (BF (RM hu) rfl (Hg (t:=.int (y:Int)) (us:=r.map T.int) (by rw[CS]) IB (by show 0≤100;decide)) (ev 6) (ev 5)) (by rw[Cy])))) (fun h=>?_) (fun h=>BI ?_))
      ·have hb:=ON (nb:=AE ps) (c:=cF fs k) er (i+1)
       rw[step,CD,if_pos h,eK] at hb
       refine AH (Ca (Be (ET.we (ev 4) ⟨l,rfl,⟨_,AF⟩,ET.we (Bj (ts:=r.map T.int) (us:=[.int (y:Int)]) (ev 5) (BU (AO (ev 6) AC)) (by simp only[b6,eD,fL];omega)) ⟨_,AF,by rw[b6,eK];simp only[eD,fL] at hb;omega,⟨_,rfl,?_⟩⟩⟩)))
       rw[BE,step,CD,if_pos h]
       congr 1
       simp only[fj,gk]
       congr 2
       simp[AK]
      ·refine⟨_,rfl,?_⟩
       rw[step,CD,if_neg (by rw[h];decide),gE]
    ·rintro _ _ ⟨v6,rfl,rfl⟩
     refine⟨_,_,rfl,?_⟩
     rw[b6,fR,←IC,fQ,er]
     rfl
  ·rintro _ _ ⟨v5,v6,rfl,rfl⟩
   rw[b6,fR]
   refine Bn (p:=l) (n:=4) (ts:=(GB (AE ps) (cF fs k) rs).map AK) AF hl rfl ?_
   rw[Az hl]
   exact AH (AR (ET.we (ev 4) q))
end
structure WebR(n:Int)(ps:List (Int×Int)):Prop where
 wn:WebN n ps
 hp:ps.Pairwise LX
 n0:1≤n
 n1:n≤10
theorem Pi{nb:Int→List Int}{c c':Int→Bool}{rs:List (List Int)}(h:∀u,∀v∈nb u,c v=c' v):GB nb c rs=GB nb c' rs:=by
 unfold GB
 congr 1
 funext r
 unfold UM
 congr 1
 refine List.filter_congr fun v hv=>?_
 rw[h _ v hv]
theorem YC{n:Int}{ps:List (Int×Int)}(hw:Gr.EZ n ps):Rw (Ac n ps)=Gr.Adj ps:=funext fun u=>funext fun v=>propext (Ga hw)
theorem ND{n:Int}{ps:List (Int×Int)}(hw:Gr.EZ n ps){c:Nat→Int→Bool}{p:Int}(hp:0≤p∧p<n){k:Nat}{r:List Int}(h:r∈Ea (AE ps) c p k):r≠[]∧r.length=k+1∧∀z∈r,0≤z∧z<n:=by
 obtain⟨w1,w2,_,w4,_⟩:=(Eu Cq).mp h
 refine⟨(fun z=>by rw[z] at w1;cases w1),w1,?_⟩
 have key:∀{L:List Int} {x:Int},0≤x∧x<n→Ch (Gr.Adj ps) (x::L)→∀z∈x::L,0≤z∧z<n:=by
  intro L
  induction L with
  |nil=>intro x hx _ z hz;rw[dr.mp hz];exact hx
  |cons y L ih=>
   intro x hx hc z hz
   rcases eJ.mp hz with rfl|hz
   ·exact hx
   ·exact ih (Bw hw _ _ hc.1) hc.2 z hz
 cases r with
 |nil=>intro z hz;cases hz
 |cons x L=>
  have:x=p:=by simpa using w2
  subst this
  exact key hp w4
section
variable{P:Program}{w:World}{K:a8}{mg:Str→Option Value}{base:Heap}
def SM:Df:=LQ fun ts t=>∃(n:Int) (ps:List (Int×Int)) (p:Int) (s:Nat),ts=[BQ (Ac n ps),.int p,.int (s:Int)]∧WebN n ps∧(0≤p∧p<n)∧(1≤s∧s≤800)∧(∀k,k<s→(Ea (AE ps) (IQ (Gr.Adj ps) s p) p k).length≤8000000)∧t=.lst ((DL (Gr.Adj ps) (AE ps) s p).map AK)
def cB:List Str:=["nears","start","size","fars","rows","steps"]
theorem Lx:FnScope cB ["nears","start","size"] (AA Xk):=⟨rfl,rfl,rfl,by decide+kernel,rfl,by decide+kernel,by decide+kernel⟩
theorem YD{f:Addr}{fd:fm}(F:Fun K "shortest_rings_from" "shortest_rings_from" Xk f fd)(Tx:Txt mg)(Gf:FnT P w K mg base "fars_from" 1 ["nears","starts"] KQ)(G:FnT P w K mg base "rows_longer" 1 ["nears","fars","rows","far"] Vb):FnOk P w K mg base (CXe P w) 2 f fd ["nears","start","size"] (EK K SM):=by
 refine Af F Lx ?_ ?_
 ·rintro ts O Φ Ξ ⟨r,⟨n,ps,p,s,rfl,_⟩,_⟩
  rfl
 ·rintro cdv A outer s0 H E O Ξ hr xf _ Φ ⟨_,⟨n,ps,p,s,rfl,wn,hp,hs,hz,rfl⟩,q⟩
  have sb:=Bd
  refine AD (AM 3 (Ar Gf (hr.mono (by decide)) xf (EA.wa (AO (ev 0) (AO (BH (AO (ev 1) AC) (by show 1≤sizeLine;decide)) AC)) ⟨n,Ac n ps,[p],rfl,Dt wn,fun z hz=>by rw[dr.mp hz];exact hp,fun fs al=>?_⟩)) Lx.nd)
  rw[YC wn.hw] at al
  have hl:=al.len
  have hcc:∀(i:Nat) (u:Int),∀v∈AE ps u,cF fs (min i (s-i)) v=IQ (Gr.Adj ps) s p i v:=fun i u v hv=>by
   have hb:=Bw wn.hw _ _ (BX.mp hv)
   have:=al.get hb.1 hb.2
   unfold cF IQ
   rw[fz,this];rfl
  refine AD (AM 4 (ET.we (t:=.lst ([[p]].map AK)) (BH (AO (BU (AO (ev 1) AC)) AC) (by show 1≤sizeLine;decide)) ?_) Lx.nd)
  refine AD (As Ab.own rfl (EI.wi (CC Tx.nRange AB (ev 2) (by omega)) ⟨fun j ρ' O'=>∃v5:Option T,O'=O∧ρ'=[some (BQ (Ac n ps)),some (.int p),some (.int (s:Int)),some (.lst (fs.map AS)),some (.lst ((Ea (AE ps) (IQ (Gr.Adj ps) s p) p j).map AK)),v5],⟨none,rfl,rfl⟩,?_,?_⟩))
  ·rintro j t _ _ e ⟨v5,rfl,rfl⟩
   obtain⟨hj,rfl⟩:=Ak e
   have hj2:j+1<s:=by omega
   refine⟨[some (BQ (Ac n ps)),some (.int p),some (.int (s:Int)),some (.lst (fs.map AS)),some (.lst ((Ea (AE ps) (IQ (Gr.Adj ps) s p) p j).map AK)),some (.int (1+(j:Int)))],AL 5 Lx.nd (by show 5<6;decide),?_⟩
   have e1:GB (AE ps) (cF fs (min (j+1) (s- (j+1)))) (Ea (AE ps) (IQ (Gr.Adj ps) s p) p j)=Ea (AE ps) (IQ (Gr.Adj ps) s p) p (j+1):=Pi (hcc (j+1))
   refine AH (AM 4 (ET.we (BN G (hr.mono (by decide)) xf (AO (ev 0) (AO (ev 3) (AO (ev 4) (AO (ET.cast (GQ Tx.nMin rfl (ev 5) (CK (ev 2) (ev 5))) (show T.int _=T.int (((min (j+1) (s- (j+1)):Nat)):Int) by congr 1;omega)) AC)))) ⟨n,ps,fs,_,min (j+1) (s- (j+1)),rfl,wn,hl,fun r hr=>?_,?_,rfl⟩) ?_) Lx.nd)
   ·rw[e1]
    exact⟨_,rfl,rfl⟩
   ·obtain⟨h1,h2,h3⟩:=ND wn.hw hp hr
    exact⟨h1,by omega,h3⟩
   ·rw[e1];exact hz _ hj2
  ·rintro _ _ ⟨v5,rfl,rfl⟩
   rw[AY]
   have e:((s:Int)-1).toNat=s-1:=by omega
   rw[e]
   exact AH (AR (ET.we (ev 4) q))
theorem JH{β:Type}{F:Nat→List β}{m:Nat}(h:∀i,i<m→F i=[]):(eW m).flatMap F=[]:=by
 rw[List.flatMap_eq_nil_iff]
 exact fun i hi=>h i (fy.mp hi)
theorem Pj{β:Type}{F:Nat→List β}{j m:Nat}(h:∀i,i<j→F i=[])(hj:j<m)(hn:F j≠[]):((eW m).flatMap F).head?=(F j).head?:=by
 obtain⟨d,rfl⟩:∃d,m=j+(d+1):=⟨m-j-1,by omega⟩
 rw[List.range_add,j8,JH h,mT,List.range_succ_eq_map,eT,lZ,kN]
 show((F (j+0)).head?.or _)=_
 rw[oa]
 cases e:F j with
 |nil=>exact absurd e hn
 |cons x l=>rfl
def Uh:Option (List Int)→T
 |none=> .non
 |some r=>AK r
def KW(n:Int)(ps:List (Int×Int))(m:Int):List (List Int):=RX (Gr.Adj ps) (AE ps) m.toNat n.toNat
def SN(n:Int)(ps:List (Int×Int)):Option (List Int):=(Du ps).bind fun m=> (KW n ps m).head?
theorem KY{n:Int}{ps:List (Int×Int)}(wr:WebR n ps){s:Nat}(hs:(s:Int)≤n){p:Int}(hp:0≤p∧p<n):∀k,k<s→(Ea (AE ps) (IQ (Gr.Adj ps) s p) p k).length≤362880:=fun k hk=>by
 have:=wr.n1
 exact FI wr.wn.hw wr.hp wr.n1 hp (by omega)
def OP:Df:=LQ fun ts t=>∃n ps,ts=[BY n ps]∧WebR n ps∧t=Uh (SN n ps)
def YE:List Str:=["web","size","nears","start","rings"]
theorem FJ:FnScope YE ["web"] (AA Mv):=⟨rfl,rfl,rfl,by decide+kernel,rfl,by decide+kernel,by decide+kernel⟩
theorem DA{x:Option Int}:Iw (Ll x)=x.isNone:=by cases x<;>rfl
theorem DB{x:Option Int}:BD (Ll x)=false:=by cases x<;>rfl
theorem SO{f:Addr}{fd:fm}(F:Fun K "first_ring" "first_ring" Mv f fd)(Tx:Txt mg)(Gs:FnT P w K mg base "shortest" 3 ["web"] Gc)(Gn:FnT P w K mg base "nears_of" 1 ["web"] GX)(G:FnT P w K mg base "shortest_rings_from" 2 ["nears","start","size"] SM):FnOk P w K mg base (CXe P w) 4 f fd ["web"] (EK K OP):=by
 refine Af F FJ ?_ ?_
 ·rintro ts O Φ Ξ ⟨r,⟨n,ps,rfl,_⟩,_⟩
  rfl
 ·rintro cdv A outer s0 H E O Ξ hr xf _ Φ ⟨_,⟨n,ps,rfl,wr,rfl⟩,q⟩
  have sb:=Bd
  have wn:=wr.wn
  have n0:=wr.n0
  have n1:=wr.n1
  refine AD (AM 1 (ET.we (BN Gs (hr.mono (by decide)) xf (AO (ev 0) AC) ⟨n,ps,rfl,wn,rfl⟩) ?_) FJ.nd)
  refine AD (Ay (EB.cast (Fg DB (ev 1)) DA) (fun h=>?_) (fun h=>BI ?_))
  ·have e:Du ps=none:=Option.isNone_iff_eq_none.mp h
   refine AH (AR (ET.we CJ ?_))
   unfold SN at q
   rw[e] at q
   exact q
  ·obtain⟨m,e⟩:∃m,Du ps=some m:=by
    cases e:Du ps with
    |none=>rw[e] at h;cases h
    |some m=>exact⟨m,rfl⟩
   obtain⟨s,rfl,h3,hsn,_,_⟩:=BS wn.hw e
   unfold SN at q
   rw[e] at q ⊢
   have q:Φ (Uh (KW n ps (s:Int)).head?) O:=q
   refine AD (AM 2 (ET.we (ET.cast (BN Gn (hr.mono (by decide)) xf (AO (ev 0) AC) ⟨n,ps,rfl,wn.n0,wn.n1,wn.hw,wn.hl,rfl⟩) Fp) ?_) FJ.nd)
   refine AD (As Ab.own rfl (EI.wi (Ah Tx.nRange (Ae (t:=.int n) (ev 0) AB) (by omega)) ⟨fun j ρ' O'=>∃v3 v4:Option T,O'=O∧ρ'=[some (BY n ps),some (.int (s:Int)),some (BQ (Ac n ps)),v3,v4]∧∀i:Nat,i<j→DL (Gr.Adj ps) (AE ps) s (i:Int)=[],⟨none,none,rfl,rfl,fun i hi=>absurd hi (jM _)⟩,?_,?_⟩))
   ·rintro j t _ _ ej ⟨v3,v4,rfl,rfl,hno⟩
    obtain⟨hj,rfl⟩:=Ak ej
    rw[ja]
    have hp:0≤(j:Int)∧(j:Int)<n:=by omega
    refine⟨[some (BY n ps),some (.int (s:Int)),some (BQ (Ac n ps)),some (.int (j:Int)),v4],AL 3 FJ.nd (by show 3<5;decide),?_⟩
    refine AD (AM 4 (ET.we (BN G (hr.mono (by decide)) xf (AO (ev 2) (AO (ev 3) (AO (ev 1) AC))) ⟨n,ps,j,s,rfl,wn,hp,by omega,fun k hk=>fo (KY wr hsn hp k hk) (by decide),rfl⟩) ?_) FJ.nd)
    refine AH (Ay (k:=!((DL (Gr.Adj ps) (AE ps) s (j:Int)).map AK).isEmpty) (HR (t:=.lst ((DL (Gr.Adj ps) (AE ps) s (j:Int)).map AK)) (ev 4) rfl) (fun h=>?_) (fun h=>BI ⟨_,_,rfl,rfl,fun i hi=>?_⟩))
    ·have hne:DL (Gr.Adj ps) (AE ps) s (j:Int)≠[]:=fun z=>by rw[z] at h;cases h
     have hd:(KW n ps (s:Int)).head?=(DL (Gr.Adj ps) (AE ps) s (j:Int)).head?:=Pj (F:=fun(i:Nat)=>DL (Gr.Adj ps) (AE ps) s (i:Int)) hno (by omega) hne
     rw[hd] at q
     generalize DL (Gr.Adj ps) (AE ps) s (j:Int)=X at*
     cases X with
     |nil=>exact absurd rfl hne
     |cons x l=>exact AH (AR (ET.we (CM (t:=AK x) (ev 4) AB (Ag (j:=0) rfl)) q))
    ·by_cases hij:i=j
     ·subst hij
      generalize DL (Gr.Adj ps) (AE ps) s (i:Int)=X at*
      cases X with
      |nil=>rfl
      |cons x l=>cases h
     ·exact hno i (by omega)
   ·rintro _ _ ⟨v3,v4,rfl,rfl,hno⟩
    rw[AY] at hno
    have hd:KW n ps (s:Int)=[]:=JH (F:=fun(i:Nat)=>DL (Gr.Adj ps) (AE ps) s (i:Int)) hno
    rw[hd] at q
    exact AH (AR (ET.we CJ q))
theorem GF{ns:List Int}:∀k,ot (fun i=>ns.getD i 0) k=(ns.take k).sum
 |0=>rfl
 |k+1=>by
  show ot (fun i=>ns.getD i 0) k+ns.getD k 0=_
  rw[GF k,fQ,List.sum_append]
  congr 1
  rw[fz]
  cases ns[k]? with
  |none=>rfl
  |some x=>simp
theorem SQ{ns:List Int}:SJ ns=ns.sum:=by unfold SJ;rw[GF,fR]
theorem Ly:∀{xs:List Nat},(xs.map fun(x:Nat)=> (x:Int)).sum=((xs.sum:Nat):Int)
 | []=>rfl
 |x::xs=>by rw[eT,List.sum_cons,List.sum_cons,Ly];omega
def IS(n:Int)(ps:List (Int×Int)):Int:=match Du ps with
 |none=>0
 |some m=> ((KW n ps m).length:Int)/ (2*m)
def OQ:Df:=LQ fun ts t=>∃n ps,ts=[BY n ps]∧WebR n ps∧t=.int (IS n ps)
theorem KZ:FnScope ["web","size","nears"] ["web"] (AA KM):=⟨rfl,rfl,rfl,by decide+kernel,rfl,by decide+kernel,by decide+kernel⟩
theorem aG:(Ai ["start"] [(("nears" :Str),2),(("size" :Str),1)]).Nodup:=by decide+kernel
theorem SR{f:Addr}{fd:fm}(F:Fun K "shortest_many" "shortest_many" KM f fd)(Tx:Txt mg)(Gs:FnT P w K mg base "shortest" 3 ["web"] Gc)(Gn:FnT P w K mg base "nears_of" 1 ["web"] GX)(G:FnT P w K mg base "shortest_rings_from" 2 ["nears","start","size"] SM):FnOk P w K mg base (CXe P w) 4 f fd ["web"] (EK K OQ):=by
 refine Af F KZ ?_ ?_
 ·rintro ts O Φ Ξ ⟨r,⟨n,ps,rfl,_⟩,_⟩
  rfl
 ·rintro cdv A outer s0 H E O Ξ hr xf _ Φ ⟨_,⟨n,ps,rfl,wr,rfl⟩,q⟩
  have sb:=Bd
  have wn:=wr.wn
  have n0:=wr.n0
  have n1:=wr.n1
  refine AD (AM 1 (ET.we (BN Gs (hr.mono (by decide)) xf (AO (ev 0) AC) ⟨n,ps,rfl,wn,rfl⟩) ?_) KZ.nd)
  refine AD (Ay (EB.cast (Fg DB (ev 1)) DA) (fun h=>?_) (fun h=>BI ?_))
  ·have e:Du ps=none:=Option.isNone_iff_eq_none.mp h
   refine AH (AR (ET.we AB ?_))
   unfold IS at q
   rw[e] at q
   exact q
  ·obtain⟨m,e⟩:∃m,Du ps=some m:=by
    cases e:Du ps with
    |none=>rw[e] at h;cases h
    |some m=>exact⟨m,rfl⟩
   obtain⟨s,rfl,h3,hsn,_,_⟩:=BS wn.hw e
   unfold IS at q
   rw[e] at q ⊢
   have q:Φ (.int (((KW n ps (s:Int)).length:Int)/ (2*(s:Int)))) O:=q
   have es:SJ ((eW n.toNat).map fun(i:Nat)=> (((DL (Gr.Adj ps) (AE ps) s (i:Int)).length:Nat):Int))=((KW n ps (s:Int)).length:Int):=by
    rw[SQ]
    show _=(((eW n.toNat).flatMap fun(i:Nat)=>DL (Gr.Adj ps) (AE ps) s (i:Int)).length:Int)
    rw[List.length_flatMap,←Ly,fE]
    rfl
   refine AD (AM 2 (ET.we (ET.cast (BN Gn (hr.mono (by decide)) xf (AO (ev 0) AC) ⟨n,ps,rfl,wn.n0,wn.n1,wn.hw,wn.hl,rfl⟩) Fp) ?_) KZ.nd)
   rw[←es] at q
   refine AH (AR (ET.we (Em (YA (ns:=(eW n.toNat).map fun(i:Nat)=> (((DL (Gr.Adj ps) (AE ps) s (i:Int)).length:Nat):Int)) ?_ (by rw[b6,gH];omega) Tx.nSum rfl (ET.cast (CO ["start"] [("nears",2),("size",1)] (eW n.toNat) (fun(i:Nat)=>T.int (0+(i:Int))) (fun(i:Nat)=>T.int (((DL (Gr.Adj ps) (AE ps) s (i:Int)).length:Nat):Int)) rfl (Bf (AA KM) ["web","size","nears"] (by decide+kernel)) (Ah Tx.nRange (Ae (t:=.int n) (ev 0) AB) (by omega)) (by rw[gH];omega) fun i hi=> ⟨[some (.int (0+(i:Int))),some (BQ (Ac n ps)),some (.int (s:Int))],fun X' Oe He is O'=>?_⟩) ?_)) (Jq AB (ev 1) (.inl ⟨by decide,by decide⟩)) ⟨by omega,by omega⟩) q))
   ·intro x hx
    obtain⟨i,hi,rfl⟩:=eQ.mp hx
    have hi:=fy.mp hi
    have:(DL (Gr.Adj ps) (AE ps) s (i:Int)).length≤362880:=KY wr hsn (p:=(i:Int)) (by omega) (s-1) (by omega)
    omega
   ·obtain⟨cl,s',H',fp,rfl⟩:=is
    have hi:=fy.mp hi
    rw[ja]
    have hp:0≤(i:Int)∧(i:Int)<n:=by omega
    refine⟨AL 0 aG (by decide),ET.cast (Nl Tx.nLen (BN G (hr.mono (by decide)) Bc (AO (ev 1) (AO (ev 0) (AO (ev 2) AC))) ⟨n,ps,i,s,rfl,wn,hp,by omega,fun k hk=>fo (KY wr hsn hp k hk) (by decide),rfl⟩)) ?_⟩
    rw[b6]
   ·rw[fE];rfl
end
end K04
namespace StT
open PySem PySem.SetTable PyProof.Rows
section
variable{prog:Program}{w:World}{A:eU}{E:Value→a9→Prop}{s:a9}
theorem YF:isSubtype (.type "tuple") (.type "set")=pure false:=by rw[kB];kernel_rfl
theorem YG:isSubtype (.type "tuple") (.type "frozenset")=pure false:=by rw[kB];kernel_rfl
theorem Ka{l:Addr}{items:Array Value}{ns:List Int}{Q:Value→a9→Prop}
  (hh:A.handled=none) (hl:s.heap.IsTuple l items) (hi:IntsAre items.toList ns) (hb:items.size+1<oq)
  (h:∀(h':Heap) (tk:Nat),h'.SetOf (intKind prog w) s.heap.objs.size (fun k'=> (nW (fun i=>ns.getD i 0) items.size).any (· ==k')) (nW (fun i=>ns.getD i 0) items.size).length→
   (∀b o,b<s.heap.objs.size→s.heap.get? b=some o→h'.get? b=some o)→Q (.ref s.heap.objs.size) {s with heap:=h',toks:=tk}):
  wpAny (model prog w) A (call (.type "set") [.ref l]) Q E s:=by
 refine HK (Q₁:=fun obj s₁=>obj=.ref s.heap.objs.size∧s₁={s with heap:=s.heap.push (BG w)}) kl (PySem.F.typeCall_set_1 _) (LK _ ⟨rfl,rfl⟩) ?_
 rintro obj s₁ ⟨rfl,rfl⟩
 have hS:(s.heap.push (BG w)).get? s.heap.objs.size=some (BG w):=eS _ rfl
 have hT:a9.TypeIs {s with heap:=s.heap.push (BG w)} (.ref s.heap.objs.size) "set":=⟨_,hS,rfl⟩
 refine⟨hT,jk kl.init.plain PySem.F.entry_set_init (check_set_init_1 hT ?_)⟩
 obtain⟨ol,hol,hcl,nl,hdl⟩:=hl
 obtain⟨ocls,odict,odata,oslots⟩:=ol
 simp only at hcl hdl
 subst hcl;subst hdl
 have hol':(s.heap.push (BG w)).get? l=some {cls:=.type "tuple",dict:=odict,data:=.seq items nl,slots:=oslots}:=dm _ hol
 have hsls:=YF
 have hslf:=YG
 have hne:(jH "tuple" ==jH "dict")=false:=by decide
 have hl1:(s.heap.push (BG w)).IsTuple l items:=⟨_,hol',rfl,nl,rfl⟩
 unfold Builtin.«set.__init__» noKeywords Builtin.Frozenset.updateFrom
 generalize hPI:mX=PI
 wp_walk
 subst hPI
 refine jF hl1 ?_
 refine a7 (wpAny_runValue ?_)
 have hlS:l<s.heap.objs.size:=eM hol
 have hneI:l≠(s.heap.push (BG w)).objs.size:=by
  rw[fZ];exact fb (gZ hlS)
 have kp:∀b o,s.heap.get? b=some o→((s.heap.push (BG w)).push {cls:=.type "tuple_iterator",data:=.fields #[.ref l,.int 0 0]}).get? b=some o:=fun b o e=>dm _ (dm _ e)
 have hval:∀(i:Nat) (v:Value),items[i]?=some v→∃t,v=.int ((fun i=>ns.getD i 0) i) t:=fun i v hv=>hi.int_at i v (by rw[fh];exact hv)
 refine codeAny_set_update_loopS ((Walks.tuple (by simpa using hh) _ l hneI items).toS) s.heap.objs.size (by
   rw[fZ];simp only[eJ,fW,or_false,not_or]
   exact⟨fb (iT _),jI hlS⟩) (fun i=>ns.getD i 0) hval hb (items.size-0) 0 _ (by omega) (fB _)
  ⟨⟨_,eS _ rfl,rfl,rfl⟩,⟨_,kp _ _ hol,rfl,nl,rfl⟩⟩ (SetOf_congr ((setObjOf_fresh (knd:=intKind prog w) _).setOf (dm _ hS) (by unfold oq;omega)) (fun _=>rfl) rfl) ?_
 intro s' hm hS'
 obtain⟨h',g',d',tk',os'⟩:=s'
 cases(show g'=s.gens from hm.gens)
 cases(show d'=s.drawn from hm.drawn)
 cases(show os'=s.os from hm.os)
 show wpAny _ _ _ _ _ _
 refine b9 ?_
 show wpAny _ _ (ret iS) _ _ _
 refine b9 ⟨rfl,h h' tk' hS' fun b o hb e=>hm.heap b o ?_ (kp b o e)⟩
 rw[fZ]
 simp only[eJ,fW,or_false,not_or]
 exact⟨fb hb,fb (gZ hb)⟩
end
end StT
namespace L2
open PySem PySem.Spec PySem.Calls PyProof.Rows
variable{X:Cx}
theorem Pk(hc:X.calm=true):Au X (.type "set") (fun xs H Q=>∃(a:Addr) (ns:List Int),xs=[.ref a]∧DV X.K H a (ns.map V.int)∧ns.length<1000∧∀(p:Addr) (S:Int→Bool),H p=none→Q (.ref p) (upd H p (.set S (Xc ns)))):=by
 intro pins s σ H xs us Q I r h
 obtain⟨a,ns,rfl,hS,hl,q⟩:=h
 obtain⟨u,rfl,ru⟩:=Vals.one r
 cases ru
 obtain⟨its,rv,p,_⟩:=I.tuple hS
 have hlen:its.length=ns.length:=by have:=rv.length;simpa using this.symm
 refine StT.Ka (ns:=ns) (I.ok.hd hc) p (by simpa using Gu rv) (by simp only[eP,oq];omega) fun h' tk hs hk=>?_
 have hf:H s.heap.objs.size=none:=I.hok.fresh (dv _)
 have hs':h'.SetOf (intKind X.prog X.w) s.heap.objs.size (fun k'=> (nW (fun i=>ns.getD i 0) its.toArray.size).any (· ==k')) (Xc ns):=by
  have e:its.toArray.size=ns.length:=by rw[eP];exact hlen
  rw[e] at hs ⊢
  exact hs
 exact⟨.ref s.heap.objs.size,upd H s.heap.objs.size (.set _ (Xc ns)),I.laid (t':=tk) (fun b u e=>hk b u (eM e) e) (dv _) hs',rfl,q _ _ hf⟩
theorem JI{ns:List Int}:Xc ns=ns.length↔ns.Nodup:=by
 have key:∀k,k≤ns.length→((nW (fun i=>ns.getD i 0) k).length=k↔(ns.take k).Nodup):=by
  intro k
  induction k with
  |zero=>intro _;simp[firstMet_zero]
  |succ k ih=>
   intro hk
   have ih:=ih (by omega)
   have hlt:k<ns.length:=by omega
   have hle:=firstMet_length_le (fun i=>ns.getD i 0) k
   have hg:ns.getD k 0=ns[k]:=by simp[gQ,hlt]
   have ht:ns.take (k+1)=ns.take k++[ns[k]]:=by rw[fQ,dt hlt];rfl
   have hm:(eW k).map (fun i=>ns.getD i 0)=ns.take k:=by
    apply gI
    intro i
    rw[c9,ko]
    by_cases hi:i<k
    ·rw[if_pos hi,j7 hi,dt (by omega)]
     simp[gQ,show i<ns.length by omega]
    ·rw[if_neg hi,iA (by simp;omega)];rfl
   rw[firstMet_succ,step_length,firstMet_any,hm,hg,ht,fX]
   by_cases h:ns[k]∈ns.take k
   ·rw[if_pos (List.any_eq_true.mpr ⟨_,h,by simp⟩)]
    refine⟨fun e=>by omega,fun⟨_,_,c⟩=>absurd rfl (c _ h _ (by simp))⟩
   ·rw[if_neg (fun z=>by
     obtain⟨y,hy,e⟩:=List.any_eq_true.mp z
     exact h (by rw[←beq_iff_eq.mp e];exact hy))]
    refine⟨fun e=> ⟨ih.mp (by omega),by simp,fun x hx y hy e=>h (by rw[←dr.mp hy,←e];exact hx)⟩,fun c=>by have:=ih.mpr c.1;omega⟩
 have:=key ns.length (dv _)
 rwa[fR] at this
end L2
namespace L2.TL
open PySem PySem.Spec PyProof.Rows
section
variable{Z:Zx}{ρ:List (Option T)}{O:AI}{e:Expr}{p p1 pos pos1:Pos}
theorem ID{ns:List Int}(m:Z.X.mg "len" =none)(m2:Z.X.mg "set" =none)(hc:Z.X.calm=true)(h:ET Z ρ O e (.tup (ns.map T.int)))(hl:ns.length<1000)(hg:Gl Z.X "len":=by rfl)(hg2:Gl Z.X "set":=by rfl)(he:du [e] Z.X.env=(false,eval e Z.X.env)::du [] Z.X.env:=by rfl)
  (he2:du [oQ (.Name "set" p1) [e] [] pos1] Z.X.env=(false,eval (.Call (.Name "set" p1) [e] [] pos1) Z.X.env)::du [] Z.X.env:=by rfl):ET Z ρ O (.Call (.Name "len" p) [.Call (.Name "set" p1) [e] [] pos1] [] pos) (.int (Xc ns)):=fun Φ q=>by
 refine PE.weak (Ec La hg m RB (Eb (Cr (Pk hc) hg2 m2 Za (Jm (ρ:=ρ)) (by decide) (by decide) he) Gm he2) (by decide) (by decide) he2) fun σ H Q k=>?_
 refine⟨O,_,AJ h AC he (fun ts O'=>ts=[.tup (ns.map T.int)]∧O'=O) ⟨rfl,rfl⟩,k.1,?_⟩
 rintro vs H1 _ _ ⟨rfl,rfl⟩ f r
 obtain⟨v,rfl,r1⟩:=r.one_inv
 obtain⟨a,xs,rfl,h1,r1⟩:=r1.tup_inv
 cases r1.ints
 refine⟨a,ns,rfl,.inl (.inl h1),hl,fun p S hp=> ⟨p,S,Xc ns,rfl,AW,?_⟩⟩
 exact k.2 _ _ _ _ q (f.trans (.new f.ok hp)) (.int _)
end
end L2.TL
namespace K04
open PySem L2 L2.TL PySem.Spec PyProof.Rows GrR
def DU:T→Int
 | .int i=>i
 |_=>0
def MD(t:T):Bool:=Qz t&&!Jv t
def Kg(r:List Int):List (Int×Int):=r.zip (r.drop 1++r.take 1)
def Sl(ps:List (Int×Int))(r:List Int):Bool:=decide r.Nodup&&(Kg r).all fun p=>VX ps p.1 p.2
def Ui(ps:List (Int×Int))(t:T):Bool:=match t with
 | .tup ts=>decide (3≤ts.length)&&(ts.all MD&&Sl ps (ts.map DU))
 |_=>false
theorem SS{t:T}(h:MD t=true):t=.int (DU t):=by
 cases t<;>first|rfl|cases h
theorem Ge:∀{ts:List T},ts.all MD=true→ts=(ts.map DU).map T.int
 | [],_=>rfl
 |t::ts,h=>by
  rw[List.all_cons,fx] at h
  rw[eT,eT,←Ge h.2,←SS h.1]
def Uj(r:List Int)(i:Nat):Nat:=if i+1=r.length then 0 else i+1
theorem OR{f:Int×Int→Bool}{r:List Int}:(Kg r).all f=true↔∀i,i<r.length→f (r.getD i 0,r.getD (Uj r i) 0)=true:=by
 have hl:(r.drop 1++r.take 1).length=r.length:=by simp only[eK,gi,fk];omega
 have hz:(Kg r).length=r.length:=by unfold Kg;rw[List.length_zip,hl,Nat.min_self]
 have at_:∀i (h:i< (Kg r).length),(Kg r)[i]=(r.getD i 0,r.getD (Uj r i) 0):=fun i h=>by
  have hi:i<r.length:=by omega
  have h':i< (r.zip (r.drop 1++r.take 1)).length:=h
  show(r.zip (r.drop 1++r.take 1))[i]'h'=_
  rw[List.getElem_zip]
  refine jB (by simp[gQ,hi]) ?_
  show(r.drop 1++r.take 1)[i]=_
  unfold Uj
  by_cases e:i+1=r.length
  ·rw[if_pos e,List.getElem_append_right (by rw[gi];omega)]
   simp[gQ,show 0<r.length by omega,show i- (r.length-1)=0 by omega]
  ·rw[if_neg e,List.getElem_append_left (by rw[gi];omega),List.getElem_drop]
   simp[gQ,show i+1<r.length by omega,Nat.add_comm]
 rw[jD]
 constructor
 ·intro h i hi
  have:=h _ (gF (show i< (Kg r).length by omega))
  rwa[at_] at this
 ·intro h p hp
  obtain⟨i,hi,rfl⟩:=iq hp
  rw[at_]
  exact h i (by omega)
theorem aH{n:Int}{ps:List (Int×Int)}(hw:Gr.EZ n ps){a b:Int}(h:VX ps a b=true):0≤a∧a<n:=by
 have:=hw _ (of_decide_eq_true h)
 unfold mm at this
 simp only at this
 omega
theorem aI{n:Int}{ps:List (Int×Int)}(hw:Gr.EZ n ps){r:List Int}(h:Sl ps r=true):∀z∈r,0≤z∧z<n:=fun z hz=>by
 unfold Sl at h
 rw[fx] at h
 obtain⟨i,hi,rfl⟩:=iq hz
 have:=OR.mp h.2 i hi
 have:=aH hw this
 simpa[gQ,hi] using this
def OS(r:List Int)(i:Nat):Nat:=if i=0 then r.length-1 else i-1
theorem Uk{ps:List (Int×Int)}{r:List Int}:((eW r.length).map fun i=>mm (r.getD (OS r i) 0,r.getD i 0)).all (fun p=>decide (p∈ps))=(Kg r).all fun p=>VX ps p.1 p.2:=by
 rw[ic,OR,jD]
 constructor
 ·intro h i hi
  have:=h _ (eQ.mpr ⟨Uj r i,fy.mpr (by unfold Uj;split<;>omega),rfl⟩)
  rw[show OS r (Uj r i)=i by unfold OS Uj;split<;>split<;>omega] at this
  exact this
 ·intro h p hp
  obtain⟨i,hi,rfl⟩:=eQ.mp hp
  have hi:=fy.mp hi
  have:=h (OS r i) (by unfold OS;split<;>omega)
  rw[show Uj r (OS r i)=i by unfold OS Uj;split<;>split<;>omega] at this
  exact this
theorem SU{r:List Int}{i:Nat}(h:i<r.length):atI (r.map T.int) ((i:Int)-1)=some (.int (r.getD (OS r i) 0)):=by
 unfold OS
 by_cases e:i=0
 ·subst e
  rw[if_pos rfl]
  have hne:r≠[]:=fun z=>by rw[z] at h;cases h
  have:=Gd hne
  rw[show((0:Nat):Int)-1= -1 by omega,this]
  unfold lst
  rw[List.getLastD_eq_getLast?,List.getLast?_eq_getElem?,fz]
 ·rw[if_neg e,show(i:Int)-1=((i-1:Nat):Int) by omega]
  refine Ag ?_
  have hi:i-1<r.length:=by omega
  rw[c9,dt hi]
  simp[gQ,hi]
theorem OT{r:List Int}{i:Nat}(h:i<r.length):atI (r.map T.int) (i:Int)=some (.int (r.getD i 0)):=Ag (by
 rw[c9,dt h]
 simp[gQ,h])
section
variable{P:Program}{w:World}{K:a8}{mg:Str→Option Value}{base:Heap}
theorem SV{t:T}{a b:Int}(h:Mx t a b=true):MD t=true∧a≤DU t∧DU t≤b:=by
 cases t<;>first| (exact⟨rfl,by simpa[Mx,DU] using h⟩)|cases h
theorem Kb{n:Int}{ts:List T}:ts.all (fun t=>Mx t 0 (n-1))=true↔ts.all MD=true∧∀z∈ts.map DU,0≤z∧z<n:=by
 rw[jD,jD]
 constructor
 ·intro h
  refine⟨fun t ht=> (SV (h t ht)).1,fun z hz=>?_⟩
  obtain⟨t,ht,rfl⟩:=eQ.mp hz
  have:=(SV (h t ht)).2
  omega
 ·rintro⟨h1,h2⟩ t ht
  have e:=SS (h1 t ht)
  have:=h2 _ (eQ.mpr ⟨t,ht,rfl⟩)
  rw[e]
  show(decide (0≤DU t)&&decide (DU t≤n-1))=true
  rw[fx]
  exact⟨decide_eq_true this.1,decide_eq_true (by omega)⟩
theorem dZ{a b c:Bool}(h:(!a||!b)=true):(a&&(b&&c))=false:=by cases a<;>cases b<;>first|rfl|cases h
def OU:Df:=LQ fun ts t=>∃n ps u,ts=[BY n ps,u]∧WebN n ps∧BD u=false∧(∀us,u=.tup us→us.length≤900∧∀x∈us,BD x=false)∧t=.bl (Ui ps u)
theorem Ul:FnScope ["web","thing"] ["web","thing"] (AA Hq):=⟨rfl,rfl,rfl,by decide+kernel,rfl,by decide+kernel,by decide+kernel⟩
theorem aJ:(Ai ["place"] [(("web" :Str),0)]).Nodup:=by decide+kernel
theorem YH:(Ai ["a","b"] [(("web" :Str),0)]).Nodup:=by decide+kernel
theorem Um{r:List Int}:Mm (r.map T.int) (((r.map T.int).drop 1)++(r.map T.int).take 1)=(Kg r).map AG:=by
 unfold Mm Kg
 rw[←nO,←nN,←fj,List.zipWith_map,List.zip,List.map_zipWith]
 rfl
theorem Vc(ts:List T):BL ts none (some 1)=ts.take 1:=by
 unfold BL
 have h1:HT.BO ts.length ts.length (some 1)=min 1 ts.length:=rfl
 have h2:HT.BO ts.length 0 none=0:=rfl
 rw[h1,h2,nj,Nat.sub_zero]
 cases ts with
 |nil=>rfl
 |cons t ts=>simp
theorem Vd(ts:List T):BL ts (some 1) none=ts.drop 1:=by
 unfold BL
 have:HT.BO ts.length 0 (some 1)=min 1 ts.length:=rfl
 rw[this]
 show(ts.drop (min 1 ts.length)).take (ts.length-min 1 ts.length)=_
 cases ts with
 |nil=>rfl
 |cons t ts=>simp
theorem SW{f:Addr}{fd:fm}(F:Fun K "ring_good" "ring_good" Hq f fd)(Tx:Txt mg)(Gp:FnT P w K mg base "is_place" 2 ["web","thing"] OG)(Gt:FnT P w K mg base "are_tied" 1 ["web","a","b"] Rz):FnOk P w K mg base (CXe P w) 3 f fd ["web","thing"] (EK K OU):=by
 refine Af F Ul ?_ ?_
 ·rintro ts O Φ Ξ ⟨r,⟨n,ps,u,rfl,_⟩,_⟩
  rfl
 ·rintro cdv A outer s H E O Ξ hr xf _ Φ ⟨_,⟨n,ps,u,rfl,wn,hru,hus,rfl⟩,q⟩
  have sb:=Bd
  by_cases ht:HU u=true
  case neg=>
   have ht:HU u=false:=by simpa using ht
   have:Ui ps u=false:=by cases u<;>first|rfl|cases ht
   rw[this] at q
   exact AD (Ay (k:=true) (EW.eb (EW.cast (En (y:=true) (Dd (EN Tx.nIsi Tx.nTuple Fb GP (ev 1) hru)) (fun h=>by rw[ht] at h;cases h)) (by rw[ht];rfl))) (fun _=>AH (AR (ET.we El q))) (fun h=>by cases h))
  obtain⟨us,rfl⟩:∃us,u=.tup us:=by cases u<;>first|exact⟨_,rfl⟩|cases ht
  obtain⟨hl,hx⟩:=hus us rfl
  refine AD (Ay (k:=decide ((us.length:Int)<3)) (EW.eb (EW.cast (En (Dd (EN Tx.nIsi Tx.nTuple Fb GP (ev 1) rfl)) fun _=>FY (Nc (Dr Tx.nLen (ev 1)) (Tr Tx.iLeast))) (by simp[HU]))) (fun h=>?_) (fun h=>BI ?_))
  ·have h:=of_decide_eq_true h
   have:Ui ps (.tup us)=false:=by unfold Ui;simp only;rw[decide_eq_false (by omega)];rfl
   rw[this] at q
   exact AH (AR (ET.we El q))
  ·have h:=of_decide_eq_false h
   have e3:Ui ps (.tup us)=(us.all MD&&Sl ps (us.map DU)):=by unfold Ui;simp only;rw[decide_eq_true (by omega)];rfl
   rw[e3] at q
   have eall:(us.map fun t=>Mx t 0 (n-1)).all id=us.all fun t=>Mx t 0 (n-1):=by rw[mL];rfl
   have e4:(us.all MD&&Sl ps (us.map DU))=(us.all (fun t=>Mx t 0 (n-1))&&Sl ps (us.map DU)):=by
    rw[ic,fx,fx]
    exact⟨fun z=> ⟨Kb.mpr ⟨z.1,aI wn.hw z.2⟩,z.2⟩,fun z=> ⟨(Kb.mp z.1).1,z.2⟩⟩
   rw[e4] at q
   refine AD (Ay (k:=!(us.all fun t=>Mx t 0 (n-1))||!decide (us.map DU).Nodup) (EW.eb (En (EB.cast (Dd (Qt (Jw (bs:=us.map fun t=>Mx t 0 (n-1)) Tx.nAll rfl ?all))) (by rw[eall])) fun h=>FY (EB.cast (Qu (ID (ns:=us.map DU) Tx.nLen Tx.nSet rfl (ET.cast (ev 1) (congrArg T.tup (Ge (Kb.mp (by simpa using h)).1))) (by rw[b6];omega)) (Dr Tx.nLen (ev 1))) ?dd))) (fun h=>?_) (fun hk=>BI ?_))
   case all=>
    rw[fE]
    refine CO ["place"] [("web",0)] us id (fun t=> .bl (Mx t 0 (n-1))) rfl (Bf (AA Hq) ["web","thing"] (by decide+kernel)) (EI.cast (EM (ev 1)) (nh _).symm) (by omega) fun x hx'=> ⟨[some x,some (BY n ps)],fun X' Oe He is O'=>?_⟩
    obtain⟨cl,s',H',fp,rfl⟩:=is
    exact⟨AL 0 aJ (by decide),BN Gp (hr.mono (by decide)) Bc (AO (ev 1) (AO (ev 0) AC)) ⟨n,_,x,rfl,hx x hx',rfl⟩⟩
   case dd=>
    congr 1
    refine decide_eq_decide.mpr ?_
    rw[←JI,b6]
    omega
   ·have:(us.all (fun t=>Mx t 0 (n-1))&&Sl ps (us.map DU))=false:=dZ h
    rw[this] at q
    exact AH (AR (ET.we El q))
   ·have h1:us.all (fun t=>Mx t 0 (n-1))=true:=by
     cases z:us.all (fun t=>Mx t 0 (n-1)) with
     |true=>rfl
     |false=>rw[z] at hk;cases hk
    rw[h1] at hk q
    have ei:=Ge (Kb.mp h1).1
    clear eall e4 e3 h1
    generalize us.map DU=r at*
    subst ei
    rw[b6] at hl
    unfold Sl at q
    have:decide r.Nodup=true:=by simpa using hk
    rw[this,jw,jw] at q
    have ec:((Kg r).map fun p=>VX ps p.1 p.2).all id=(Kg r).all fun p=>VX ps p.1 p.2:=by rw[mL];rfl
    have hcl:(Kg r).length≤r.length:=by unfold Kg;rw[List.length_zip];exact Nat.min_le_left ..
    refine AH (AR (ET.we (ET.cast (Jw (bs:=(Kg r).map fun p=>VX ps p.1 p.2) Tx.nAll rfl ?_) (by rw[ec])) q))
    rw[fE]
    refine CO ["a","b"] [("web",0)] (Kg r) AG _ rfl (Bf (AA Hq) ["web","thing"] (by decide+kernel)) ?_ (by omega) fun x hx=> ⟨[some (.int x.1),some (.int x.2),some (BY n ps)],fun X' Oe He is O'=>?_⟩
    ·rw[←Um,←Vc,←Vd]
     exact XW Tx.nZip (ev 1) (Bj (HX (ev 1) AB) (Fc (ev 1) AB) (by rw[Vc,Vd,gi,fk,b6];omega))
    ·obtain⟨cl,s',H',fp,rfl⟩:=is
     exact⟨Bh 0 1 rfl YH (by decide) (by decide),BN Gt (hr.mono (by decide)) Bc (AO (ev 2) (AO (ev 0) (AO (ev 1) AC))) ⟨n,ps,x.1,x.2,rfl,rfl⟩⟩
def OV:Df:=LQ fun ts t=>∃n ps u,ts=[BY n ps,u]∧BD u=false∧(∀us,u=.tup us→us.length≤900∧∀x∈us,BD x=false)∧t=.bl (Ui ps u)
theorem OW:FnScope ["_law_web","_law_thing","_law_pairs"] ["_law_web","_law_thing"] (AA ER):=⟨rfl,rfl,rfl,by decide+kernel,rfl,by decide+kernel,by decide+kernel⟩
theorem aK:(Ai ["_law_one"] []).Nodup:=by decide+kernel
theorem aL:(Ai ["_law_at"] [(("_law_thing" :Str),1)]).Nodup:=by decide+kernel
theorem aM:(Ai ["_law_pair"] [(("_law_web" :Str),0)]).Nodup:=by decide+kernel
theorem SX{f:Addr}{fd:fm}(F:Fun K "_law_good" "_law_good" ER f fd)(Tx:Txt mg)(G:FnT P w K mg base "_law_whole" 1 ["_law_found"] Lo):FnOk P w K mg base (CXe P w) 2 f fd ["_law_web","_law_thing"] (EK K OV):=by
 refine Af F OW ?_ ?_
 ·rintro ts O Φ Ξ ⟨r,⟨n,ps,u,rfl,_⟩,_⟩
  rfl
 ·rintro cdv A outer s H E O Ξ hr xf _ Φ ⟨_,⟨n,ps,u,rfl,hru,hus,rfl⟩,q⟩
  have sb:=Bd
  have hu:(A.deeper (jr "_law_good" (AA ER) s.heap.objs.size f cdv)).units+102<cLine:=by have:=hr.un;omega
  by_cases ht:HU u=true
  case neg=>
   have ht:HU u=false:=by simpa using ht
   have:Ui ps u=false:=by cases u<;>first|rfl|cases ht
   rw[this] at q
   exact AD (Ay (k:=true) (EW.eb (EW.cast (En (y:=true) (Dd (EN Tx.nIsi Tx.nTuple Fb GP (ev 1) hru)) (fun h=>by rw[ht] at h;cases h)) (by rw[ht];rfl))) (fun _=>AH (AR (ET.we El q))) (fun h=>by cases h))
  obtain⟨us,rfl⟩:∃us,u=.tup us:=by cases u<;>first|exact⟨_,rfl⟩|cases ht
  obtain⟨hl,hx⟩:=hus us rfl
  have eall:(us.map MD).all id=us.all MD:=by rw[mL];rfl
  have e1:Ui ps (.tup us)=(decide (3≤us.length)&&(us.all MD&&Sl ps (us.map DU))):=rfl
  refine AD (Ay (k:=!(decide (3≤us.length)&&us.all MD)) (EW.eb (EW.cast (En (Dd (EN Tx.nIsi Tx.nTuple Fb GP (ev 1) rfl)) fun _=>En (Nc (Dr Tx.nLen (ev 1)) AB) fun _=>FY (Dd (Qt (Jw (bs:=us.map MD) Tx.nAll rfl ?all)))) ?_)) (fun h=>?_) (fun h=>BI ?_))
  case all=>
   rw[fE]
   refine CO ["_law_one"] [] us id (fun t=> .bl (MD t)) rfl (Bf (AA ER) ["_law_web","_law_thing","_law_pairs"] (by decide+kernel)) (EI.cast (EM (ev 1)) (nh _).symm) (by omega) fun x hx'=> ⟨[some x],fun X' Oe He is O'=>?_⟩
   obtain⟨cl,s',H',fp,rfl⟩:=is
   exact⟨AL 0 aK (by decide),BN G (hr.mono (by decide)) Bc (AO (ev 0) AC) ⟨x,rfl,hx x hx',rfl⟩⟩
  ·rw[eall,show decide ((us.length:Int)<3)=!decide (3≤us.length) by rw[←decide_not];exact decide_eq_decide.mpr (by omega)]
   show(false||_)=_
   rw[Bool.false_or,Bool.not_and]
  ·rw[e1,←Bool.and_assoc,show(decide (3≤us.length)&&us.all MD)=false by revert h;cases(decide (3≤us.length)&&us.all MD)<;>decide] at q
   exact AH (AR (ET.we El q))
  ·have h:(decide (3≤us.length)&&us.all MD)=true:=by simpa using h
   rw[e1,←Bool.and_assoc,h,jw] at q
   have h1:=(fx .. |>.mp h).2
   clear e1 eall
   have ei:=Ge h1
   generalize us.map DU=r at*
   subst ei
   rw[b6] at hl
   unfold Sl at q
   refine AD (Ay (k:=!decide r.Nodup) (EB.cast (Nc (ID Tx.nLen Tx.nSet rfl (ev 1) (by omega)) (Dr Tx.nLen (ev 1))) ?_) (fun h=>?_) (fun h=>BI ?_))
   ·rw[←decide_not]
    refine decide_eq_decide.mpr ?_
    have:=Xd r
    rw[←JI,b6]
    omega
   ·have:decide r.Nodup=false:=by simpa using h
    rw[this] at q
    exact AH (AR (ET.we El q))
   ·have:decide r.Nodup=true:=by simpa using h
    rw[this,jw,←Uk] at q
    refine AD (LV (i:=2) (nc:=["_law_at"]) (cap:=[("_law_thing",1)]) (by rfl) OW.nd rfl (Bf (AA ER) ["_law_web","_law_thing","_law_pairs"] (by decide+kernel)) (EI.wi (EI.cast (Ah Tx.nRange (Dr Tx.nLen (ev 1)) (by rw[b6];omega)) (show _=(eW r.length).map (fun(i:Nat)=>T.int (0+(i:Int))) by rw[b6,fg];rfl)) (Ha (eW r.length) (fun(i:Nat)=>T.int (0+(i:Int))) (fun i=>AG (mm (r.getD (OS r i) 0,r.getD i 0))) (by rw[gH];omega) (fun i hi=> ⟨[some (.int (0+(i:Int))),some (.tup (r.map T.int))],fun X' Oe He is O'=>?_⟩) ?_)))
    ·obtain⟨cl,s',H',fp,rfl⟩:=is
     have hi:=fy.mp hi
     rw[ja]
     exact⟨AL 0 aL (by decide),Bl (GQ Tx.nMin rfl (Ae (ev 1) (CK (ev 0) AB) (SU hi)) (Ae (ev 1) (ev 0) (OT hi))) (GR Tx.nMax rfl (Ae (ev 1) (CK (ev 0) AB) (SU hi)) (Ae (ev 1) (ev 0) (OT hi)))⟩
    ·have hz:((eW r.length).map fun i=>mm (r.getD (OS r i) 0,r.getD i 0)).length≤900:=by rw[b6,gH];exact hl
     rw[show(eW r.length).map (fun i=>AG (mm (r.getD (OS r i) 0,r.getD i 0)))=((eW r.length).map fun i=>mm (r.getD (OS r i) 0,r.getD i 0)).map AG by rw[fE];rfl]
     generalize (eW r.length).map (fun i=>mm (r.getD (OS r i) 0,r.getD i 0))=L at*
     have ec:(L.map fun p=>decide (p∈ps)).all id=L.all fun p=>decide (p∈ps):=by rw[mL];rfl
     refine AH (AR (ET.we (ET.cast (Jw (bs:=L.map fun p=>decide (p∈ps)) Tx.nAll rfl ?_) (by rw[ec])) q))
     rw[fE]
     refine CO ["_law_pair"] [("_law_web",0)] L AG _ rfl (Bf (AA ER) ["_law_web","_law_thing","_law_pairs"] (by decide+kernel)) (Am (ev 2)) (by omega) fun x hx=> ⟨[some (AG x),some (BY n ps)],fun X' Oe He is O'=>?_⟩
     obtain⟨cl,s',H',fp,rfl⟩:=is
     refine⟨AL 0 aM (by decide),ET.cast (Jo (Nw hu) rfl (Hg (Jz x) Hi (Hj _)) (ev 0) (Ae (ev 1) AB)) ?_⟩
     show T.bl ((dTs (ps.map AG)).any fun y=>iD y (dT (AG x)))=T.bl (decide (x∈ps))
     rw[Ff]
end
end K04
namespace SrtG
open PySem PySem.Calls PySem.W PyProof.Rows
def Lz(h:Heap)(v:Value)(r:List Int):Prop:=∃x o xs n,v=.ref x∧h.get? x=some o∧o.cls=.type "tuple"∧o.data=.seq (lF xs) n∧IntsAre xs r
def YI:Value→Option Int
 | .int a _=>some a
 |_=>none
theorem OX:∀{vs:List Value} {ns:List Int},IntsAre vs ns→vs.filterMap YI=ns
 |_,_,.nil=>rfl
 |_,_,.cons n t r=>by rw[gD];show n::_=_;rw[OX r]
def aN(h:Heap)(v:Value):Int:=match v with
  | .ref x=>match h.get? x with
    |some o=>match o.data with
     | .seq xs _=>GrR.rk (xs.toList.filterMap YI)
     |_=>0
    |_=>0
  |_=>0
theorem Fs{h:Heap}{v:Value}{r:List Int}(p:Lz h v r):aN h v=GrR.rk r:=by
 obtain⟨x,o,xs,n,e1,e2,_,e3,e4⟩:=p
 unfold aN
 rw[e1]
 dsimp only
 rw[e2]
 dsimp only
 rw[e3]
 show GrR.rk (xs.filterMap YI)=_
 rw[OX e4]
theorem EX:∀(r:List Int) (a:Int),r.foldl (fun a v=>a*32+v) a=a*32^r.length+GrR.rk r
 | [],a=>by show a=a*1+0;omega
 |v::r,a=>by
  show r.foldl (fun a v=>a*32+v) (a*32+v)=_
  have e:GrR.rk (v::r)=v*32^r.length+GrR.rk r:=by
   show r.foldl (fun a v=>a*32+v) (0*32+v)=_
   rw[EX r,Int.zero_mul,ja]
  rw[EX r,e,eD,oh,oD,Int.mul_comm (32^r.length) 32,←nP,Int.add_assoc]
theorem DO{v:Int}{r:List Int}:GrR.rk (v::r)=v*32^r.length+GrR.rk r:=by
 show r.foldl (fun a v=>a*32+v) (0*32+v)=_
 rw[EX r,Int.zero_mul,ja]
theorem SY:∀{r:List Int},(∀z∈r,0≤z∧z<32)→0≤GrR.rk r∧GrR.rk r<32^r.length
 | [],_=>by show(0:Int)≤0∧(0:Int)<1;omega
 |v::r,h=>by
  have h1:=h v (by simp)
  have h2:=SY (r:=r) fun z hz=>h z (eF _ hz)
  rw[DO,eD,oh]
  have hp:(0:Int)<32^r.length:=Int.pow_pos (by decide)
  have e1:=Int.mul_nonneg h1.1 (iH hp)
  have e2:v*32^r.length≤31*32^r.length:=iV (by omega) (iH hp)
  omega
theorem Ve{a c:Int}{r q:List Int}(hl:r.length=q.length)(hr:∀z∈r,0≤z∧z<32)(hq:∀z∈q,0≤z∧z<32)(h:a≠c):decide (a<c)=decide (GrR.rk (a::r)<GrR.rk (c::q)):=by
 have h1:=SY hr
 have h2:=SY hq
 rw[DO,DO,hl]
 rw[hl] at h1
 generalize (32:Int)^q.length=B at*
 refine decide_eq_decide.mpr ⟨fun z=>?_,fun z=>?_⟩
 ·have:(a+1)*B≤c*B:=iV (by omega) (by omega)
  rw[oD,Int.one_mul] at this
  omega
 ·by_cases z2:a<c
  ·exact z2
  ·have:(c+1)*B≤a*B:=iV (by omega) (by omega)
   rw[oD,Int.one_mul] at this
   omega
variable{prog:Program}{w:World}{A:eU}{E:Value→a9→Prop}{s:a9}
theorem OY{Q:Bool→a9→Prop}:∀{xs ys:List Value} {ns ms:List Int} {i:Nat},IntsAre xs ns→IntsAre ys ms→ns.length=ms.length→(∀z∈ns,0≤z∧z<32)→(∀z∈ms,0≤z∧z<32)→Q (decide (GrR.rk ns<GrR.rk ms)) s→KatLex prog w A true false Q (xs.zip ys) (i+1) s
 |_,_,_,_,_,.nil,.nil,_,_,_,h=>kat_nil (by simpa using h)
 |_,_,_,_,_,.nil,.cons _ _ _,hl,_,_,_=>by cases hl
 |_,_,_,_,_,.cons _ _ _,.nil,hl,_,_,_=>by cases hl
 |_,_,_,_,_,@IntsAre.cons a t vs ns hx,@IntsAre.cons c u us ms hy,hl,hr,hq,h=>by
  have hl':ns.length=ms.length:=by simpa using hl
  have hr':=fun z (hz:z∈ns)=>hr z (eF _ hz)
  have hq':=fun z (hz:z∈ms)=>hq z (eF _ hz)
  refine kat_cons (j0 (kat_go (fun e=>kat_yes ?_) fun e=>?_))
  ·have e':=eq_of_beq e
   subst e'
   refine OY hx hy hl' hr' hq' ?_
   rw[DO,DO,hl'] at h
   rw[show decide (GrR.rk ns<GrR.rk ms)=decide (a*32^ms.length+GrR.rk ns<a*32^ms.length+GrR.rk ms) from decide_eq_decide.mpr (by omega)]
   exact h
  ·have e':a≠c:=fun q=>by rw[q] at e;simp at e
   exact kat_no (kat_one _ _ (lt_int (by rw[Ve hl' hr' hq' e'];exact h)))
def cC(k:Nat)(h:Heap)(v:Value):Prop:=∃r,Lz h v r∧r.length=k+1∧∀z∈r,0≤z∧z<32
theorem Uo{k:Nat}:Rk prog w (cC k) aN (.type "int") where
 cmp:=by
  intro A E s st x y Q hk hx hy h
  obtain⟨r,px,lx,bx⟩:=hx
  obtain⟨q,py,ly,bY⟩:=hy
  have h:Q (some (decide (aN s.heap x.1<aN s.heap y.1))) st:=h
  rw[Fs px,Fs py] at h
  obtain⟨p,o,xs,n,e1,e2,_,e3,e4⟩:=px
  obtain⟨p',o',ys,n',e1',e2',_,e3',e4'⟩:=py
  rw[lt'_eq]
  refine dy (ke ?_)
  rw[hk,e1,e1']
  refine dy (kX (jq ?_))
  refine PySem.W.kat_lt e2 e3 e2' e3' ?_
  have fin:∀b:Bool,b=decide (GrR.rk r<GrR.rk q)→(s=s∧wpS (model prog w) A E s (match (Except.ok b:Except Value Bool) with
    | .ok b=>pure (some b)
    | .error e=>do
     modify (fun s=>lO (kindOf s) (arrOf s) (pendingOf s) (gallopOf s) (some e))
     pure none) Q st):=fun b hb=> ⟨rfl,by rw[hb];exact dz h⟩
  cases e4 with
  |nil=>cases lx
  | @cons a t vs ns hx=>
   cases e4' with
   |nil=>cases ly
   | @cons c u us ms hy=>
    have hl:ns.length=ms.length:=by simp only[eD] at lx ly;omega
    have hv:vs.length=us.length:=by rw[hx.length,hy.length];exact hl
    have br:=fun z (hz:z∈ns)=>bx z (eF _ hz)
    have bq:=fun z (hz:z∈ms)=>bY z (eF _ hz)
    have sz:decide ((kR a t::vs).toArray.size< (kR c u::us).toArray.size)=false:=decide_eq_false (by simp[hv])
    rw[sz]
    refine mw (r:=vs.zip us) (j0 ?_)
    refine m8 (fun e=>?_) (fun e=>?_)
    ·have e':=eq_of_beq e
     subst e'
     refine mO (OY hx hy hl br bq (fin _ ?_))
     rw[DO,DO,hl]
     exact decide_eq_decide.mpr (by omega)
    ·have e':a≠c:=fun q=>by rw[q] at e;simp at e
     exact m7 (oneLt_int (fin _ (Ve hl br bq e')))
 kept:=by
  rintro h h' v ⟨r,p,q⟩ k
  have p':Lz h' v r:=by
   obtain⟨x,o,xs,n,e1,e2,e3,e4,e5⟩:=p
   exact⟨x,o,xs,n,e1,k _ _ e3 e2,e3,e4,e5⟩
  exact⟨⟨r,p',q⟩,by rw[Fs p,Fs p']⟩
 kat:=fun{h vs}=>by
  induction vs with
  |nil=>exact fun _=> ⟨[],og.nil,rfl,fun v hv=>by cases hv⟩
  |cons v vs ih=>
   intro ok
   obtain⟨fs,k,hl,hf⟩:=ih fun v hv=>ok v (.tail _ hv)
   obtain⟨r,⟨x,o,xs,n,rfl,e,hc,hd,e5⟩,lr,_⟩:=ok v (.head _)
   cases e5 with
   |nil=>cases lr
   |cons a t hx=>
    exact⟨.int a t::fs,og.cons e hc hd rfl k,by rw[eD,eD,hl],fun v hv=>by
     rcases eJ.mp hv with rfl|hv
     ·exact fun M h'=>fun _ _ _ _ _ q=>b9 q
     ·exact hf v hv⟩
 t1:=rfl
 t2:=rfl
end SrtG
namespace L2
open PySem PySem.Spec PySem.Calls PyProof.Rows SrtG
section
variable{X:Cx}{pins:List (Addr×Obj)}{σ:St}{H:Hp}{s:a9}
theorem Inv.rowAt{x:Addr}{r:List Int}(I:Inv X pins σ H s)(h:DV X.K H x (r.map V.int)):Lz s.heap (.ref x) r:=by
 obtain⟨its,rr,⟨o,ho,hc,n,hd⟩,hz⟩:=I.tuple h
 exact⟨x,o,its,n,rfl,ho,hc,hd,Gu rr⟩
theorem IE:∀{ps:List (List Int×Addr)} {us:List Value},Vals (ps.map fun p=>V.ref p.2) us→us=ps.map fun p=>Value.ref p.2
 | [],us,r=>by rw[kM] at r;cases r;rfl
 |p::ps,us,r=>by
  rw[eT] at r
  cases r with
  |cons r1 r2=>
   rw[IE r2]
   have r1:_=Value.ref p.2:=r1
   rw[r1]
   rfl
theorem IF:∀(ps:List (List Int×Addr)),Vals (ps.map fun p=>V.ref p.2) (ps.map fun p=>Value.ref p.2)
 | []=> .nil
 |p::ps=> .cons rfl (IF ps)
theorem Kc:Au X (.builtin "sorted") (fun xs H Q=>∃(a:Addr) (ks:List (List Int×Addr)) (m:Nat),xs=[.ref a]∧EY X.K H a (ks.map fun p=>V.ref p.2)∧(∀k x,(k,x)∈ks→DV X.K H x (k.map V.int)∧k.length=m+1∧∀z∈k,0≤z∧z<32)∧ks.length≤9000000∧
  ∀(p:Addr) (ms:List (List Int×Addr)),H p=none→ms.Perm ks→ms.Pairwise (fun x y=>GrR.rk x.1≤GrR.rk y.1)→Q (.ref p) (upd H p (.lst (ms.map fun p=>V.ref p.2)))):=by
 intro pins s σ H xs us Q I r h
 obtain⟨a,ks,m,rfl,hS,hk,hn,q⟩:=h
 obtain⟨u,rfl,ru⟩:=Vals.one r
 cases ru
 obtain⟨its,rv,⟨o,n,e1,e2,_,e3⟩,_⟩:=I.list hS
 have ei:=IE rv
 subst ei
 have at_:∀k x,(k,x)∈ks→Lz s.heap (.ref x) k:=fun k x h=>I.rowAt (hk k x h).1
 refine Mq e1 e2 e3 (Uo (k:=m)) (fun v hv=>?_) (by rw[b6];omega) fun h' b out c hb hg kp pm pw=>?_
 ·obtain⟨⟨k,x⟩,hx,rfl⟩:=eQ.mp hv
  exact⟨k,at_ k x hx,(hk k x hx).2⟩
 ·obtain⟨ms,pm',rfl⟩:=By pm rfl
  have hf:H b=none:=I.hok.none_of hb
  refine⟨.ref b,upd H b (.lst (ms.map fun p=>V.ref p.2)),I.laidF (t':=s.toks) kp hb ⟨?_,_,c,IF ms,hg⟩,rfl,q b ms hf pm' ?_⟩
  ·rw[b6,pm'.length_eq,gC]
   omega
  ·rw[hC] at pw
   refine gR (fun{x y} hx hy z=>?_) pw
   rw[Fs (at_ x.1 x.2 (pm'.mem_iff.mp hx)),Fs (at_ y.1 y.2 (pm'.mem_iff.mp hy))] at z
   exact z
end
end L2
namespace L2.TL
open PySem PySem.Spec PyProof.Rows SrtG
section
variable{K:a8}{O:AI}{H:Hp}
theorem JJ:∀{ks:List (List Int)} {xs:List V},Reps K O H xs (ks.map fun r=>T.tup (r.map T.int))→∃qs:List (List Int×Addr),xs=qs.map (fun p=>V.ref p.2)∧qs.map (·.1)=ks∧∀k x,(k,x)∈qs→H x=some (.tup (k.map V.int))
 | [],xs,r=> ⟨[],r.nil_inv,rfl,fun _ _ h=>by cases h⟩
 |p::ks,xs,r=>by
  obtain⟨v,vs',rfl,h,r'⟩:=Reps.cons_inv r
  obtain⟨a,ys,rfl,ha,r2⟩:=h.tup_inv
  cases Reps.ints (ns:=p) r2
  obtain⟨qs,rfl,e,hk⟩:=JJ r'
  refine⟨(p,a)::qs,rfl,by rw[eT,e],fun k x h=>?_⟩
  rcases eJ.mp h with h|h
  ·cases h;exact ha
  ·exact hk k x h
theorem JK:∀{qs:List (List Int×Addr)},(∀k x,(k,x)∈qs→H x=some (.tup (k.map V.int)))→Reps K O H (qs.map fun p=>V.ref p.2) ((qs.map (·.1)).map fun r=>T.tup (r.map T.int))
 | [],_=> .nil
 | (k,x)::qs,h=> .cons (.tup (h k x (eY ..)) (Fe _)) (JK fun k x hk=>h k x (eF _ hk))
end
section
variable{Z:Zx}{ρ:List (Option T)}{O:AI}{e:Expr}{Φ:BW}{p pos:Pos}{ks:List (List Int)}
theorem NF{m:Nat}(mm:Z.X.mg "sorted" =none)(h:ET Z ρ O e (.lst (ks.map fun r=>T.tup (r.map T.int))))(hk:∀k∈ks,k.length=m+1∧∀z∈k,0≤z∧z<32)(hn:ks.length≤9000000)(pw:ks.Pairwise (fun x y=>GrR.rk x<GrR.rk y))(hg:Gl Z.X "sorted":=by rfl)
  (he:du [e] Z.X.env=(false,eval e Z.X.env)::du [] Z.X.env:=by rfl):ET Z ρ O (.Call (.Name "sorted" p) [e] [] pos) (.lst (ks.map fun r=>T.tup (r.map T.int))):=fun Φ q=>
 LR Kc mm Nk (AJ h AC he _ (fun H vs Q ok r q'=>by
  obtain⟨v,rfl,r1⟩:=r.one_inv
  obtain⟨a,xs,rfl,h1,_,r1⟩:=r1.lst_inv
  obtain⟨qs,rfl,rfl,hq⟩:=JJ r1
  refine⟨a,qs,m,rfl,.inl (.inl h1),fun k x hx=> ⟨.inl (.inl (hq k x hx)),hk k (eQ.mpr ⟨(k,x),hx,rfl⟩)⟩,by simpa using hn,fun p ms hp pm pw2=>?_⟩
  have r2:Reps Z.K O H (ms.map fun p=>V.ref p.2) ((ms.map (·.1)).map fun r=>T.tup (r.map T.int)):=JK fun k x hx=>hq k x (pm.mem_iff.mp hx)
  have e:ms.map (·.1)=qs.map (·.1):=by
   have p1:=pm.map (fun x:List Int×Addr=>x.1)
   have lt:∀{x y:List Int},x∈qs.map (·.1)→y∈qs.map (·.1)→GrR.rk x≤GrR.rk y→GrR.rk y≤GrR.rk x→x=y:=fun{x y} hx hy a b=>by
    obtain⟨i,hi,rfl⟩:=iq hx
    obtain⟨j,hj,rfl⟩:=iq hy
    rcases iu i j with c|c|c
    ·have:=fF.mp pw i j hi hj c;omega
    ·subst c;rfl
    ·have:=fF.mp pw j i hj hi c;omega
   exact jc.eq_of_pairwise (fun a b ha hb x y=>lt (p1.mem_iff.mp ha) hb x y) (hC.mpr pw2) (pw.imp fun h=>iH h) p1
  rw[e] at r2
  exact q' _ _ _ O q (.new ok hp) (.lst AW (ok.none_of hp) (r2.kp (BP ok hp) ok)))) hg (by decide) (by decide) he
end
end L2.TL
namespace K04
open PySem L2 L2.TL PySem.Spec PyProof.Rows GrR
def aO:Stmt→Expr
 | .Assign _ e _=>e
 |_=> .Constant .none 0 ⟨0,0,0,0⟩
def cD:Expr→Scope
 | .ListComp _ _ sc _=>sc
 |_=>AA KH
def ao:List Str:=["_law_web","_law_size","_law_near","_law_far_here","_law_found","_law_place","_law_ways","_law_turn","_law_longer","_law_way","_law_there"]
theorem GL:FnScope ao ["_law_web","_law_size"] (AA Bm):=⟨rfl,rfl,rfl,by decide+kernel,rfl,by decide+kernel,by decide+kernel⟩
def cE:Scope:=relabel (cD (aO ((Aq Bm).getD 0 (.Pass ⟨0,0,0,0⟩)))) (jr "_law_rings" (AA Bm) 0 0 .none)
theorem aP:(Ai ["_law_place"] [(("_law_web" :Str),0)]).Nodup:=by decide+kernel
theorem aQ:(Ai ["_law_one","_law_other"] [(("_law_place" :Str),0)]).Nodup:=by decide+kernel
theorem aR:(Ai ["_law_way"] [(("_law_place" :Str),5),(("_law_near" :Str),2)]).Nodup:=by decide+kernel
def Vf:Stmt→List Stmt
 | .For _ _ b _ _=>b
 |_=> []
def da(i:Nat):Stmt:=(Aq Bm).getD i (.Pass ⟨0,0,0,0⟩)
def cG(i:Nat):Stmt:=(Vf (da 3)).getD i (.Pass ⟨0,0,0,0⟩)
abbrev zR(P:Program)(w:World)(K:a8)(mg:Str→Option Value)(base:Heap)(f:Addr)(cdv:Value)(A:eU)(outer:List Env)(s:a9)(H:Hp)(E:XK)(O:AI)(Ξ:Value→AI→Prop):Zx:=zB P w K mg base ao "_law_rings" (AA Bm) f cdv A outer s H E O Ξ
abbrev IT(n:Int)(ps:List (Int×Int))(s:Nat)(FL:List (List (Option Nat)))(fd:List (List Int))(v5 v6 v7 v8 v9 v10:Option T):List (Option T):=[some (BY n ps),some (.int (s:Int)),some (BQ (Ac n ps)),some (Zw FL),some (.lst (fd.map AK)),v5,v6,v7,v8,v9,v10]
theorem Up{n:Int}{ps:List (Int×Int)}(wn:WebN n ps){FL:List (List (Option Nat))}(hF:FarL n ps FL){p:Nat}(hp:(p:Int)<n){c:Nat→Int→Bool}{k:Nat}{r:List Int}(hr:r∈Ea (AE ps) c (p:Int) k){v:Nat}(hv:(v:Int)∈AE ps (lst r)):
  ∃(fs:List (Option Nat)) (d:Nat),FL[v]?=some fs∧fs[p]?=some (some d)∧IP (Gr.Adj ps) [(p:Int)] (v:Int)=some d:=by
 obtain⟨w1,w2,_,w4,_⟩:=(Eu Cq).mp hr
 have hne:r≠[]:=fun z=>by rw[z] at w1;cases w1
 have hvn:=Bw wn.hw _ _ (BX.mp hv)
 have hl:=hF.len
 have hlt:v<FL.length:=by omega
 have al:=Xh (hF.all v _ (dt hlt))
 have wk:W (Gr.Adj ps) [(p:Int)] (r.length) (v:Int):=by
  cases r with
  |nil=>exact absurd rfl hne
  |cons x L=>
   have:x=(p:Int):=by simpa using w2
   subst this
   exact .go (PV w4 (Co hne)) (BX.mp hv)
 obtain⟨d,_,hD⟩:=wk.least
 refine⟨FL[v],d,dt hlt,?_,Bp hD⟩
 have:=(al.eq (p:Int) (by omega) hp d).mpr ((Ny Dj).mp hD)
 rwa[fg] at this
section
variable{P:Program}{w:World}{K:a8}{mg:Str→Option Value}{base:Heap}{f:Addr}{cdv:Value}{A:eU}{outer:List Env}{s0:a9}{H:Hp}{E:XK}{O:AI}{Ξ:Value→AI→Prop}
theorem Uq{n:Int}{ps:List (Int×Int)}{s:Nat}{FL:List (List (Option Nat))}{fd:List (List Int)}{v8 v9 v10:Option T}{p i:Nat}{Φ:BW}{N Bk Ct:Fy}(hu:(zR P w K mg base f cdv A outer s0 H E O Ξ).X.A.units+102<cLine)(wr:WebR n ps)(hF:FarL n ps FL)(hp:(p:Int)<n)(hi:i+1<s)(hs:(s:Int)≤n)
  (q:∀v8 v9 v10,N (IT n ps s FL fd (some (.int p)) (some (.lst ((Ea (AE ps) (CU (Gr.Adj ps) s p) p (i+1)).map AK))) (some (.int (1+(i:Int)))) v8 v9 v10) O):
  Eo (zR P w K mg base f cdv A outer s0 H E O Ξ) (IT n ps s FL fd (some (.int p)) (some (.lst ((Ea (AE ps) (CU (Gr.Adj ps) s p) p i).map AK))) (some (.int (1+(i:Int)))) v8 v9 v10) O (Vf (cG 1)) {nx:=N,rt:=Φ,bk:=Bk,ct:=Ct}:=by
 have sb:=Bd
 have wn:=wr.wn
 have n1:=wr.n1
 have hz:(GB (AE ps) (CU (Gr.Adj ps) s p (i+1)) (Ea (AE ps) (CU (Gr.Adj ps) s p) p i)).length≤362880:=FI (c:=CU (Gr.Adj ps) s p) (k:=i+1) wn.hw wr.hp wr.n1 ⟨by omega,hp⟩ (by omega)
 have hin:∀r∈Ea (AE ps) (CU (Gr.Adj ps) s p) (p:Int) i,_:=fun r hr=>ND wn.hw (p:=(p:Int)) ⟨by omega,hp⟩ hr
 have hmem:∀r∈Ea (AE ps) (CU (Gr.Adj ps) s p) (p:Int) i,r∈Ea (AE ps) (CU (Gr.Adj ps) s p) (p:Int) i:=fun r h=>h
 have q:∀v8 v9 v10,N (IT n ps s FL fd (some (.int p)) (some (.lst ((GB (AE ps) (CU (Gr.Adj ps) s p (i+1)) (Ea (AE ps) (CU (Gr.Adj ps) s p) p i)).map AK))) (some (.int (1+(i:Int)))) v8 v9 v10) O:=q
 have hfar:∀r∈Ea (AE ps) (CU (Gr.Adj ps) s p) (p:Int) i,∀v:Nat,(v:Int)∈AE ps (lst r)→∃(fs:List (Option Nat)) (d:Nat),FL[v]?=some fs∧fs[p]?=some (some d)∧CU (Gr.Adj ps) s p (i+1) (v:Int)=decide (d≤s- (i+1)):=fun r hr v hv=>by
  obtain⟨fs,d,h1,h2,h3⟩:=Up wn hF hp hr hv
  exact⟨fs,d,h1,h2,by unfold CU;rw[h3]⟩
 generalize CU (Gr.Adj ps) s p (i+1)=c at*
 generalize Ea (AE ps) (CU (Gr.Adj ps) s p) (p:Int) i=rs at*
 refine AD (AM 8 (Dp (Al ⟨fB _,fun l hl=>?_⟩)) GL.nd)
 refine AD (As Ab.own rfl (EI.wi (Am (ev 6)) ⟨fun j ρ' O'=>∃v9 v10:Option T,ρ'=IT n ps s FL fd (some (.int p)) (some (.lst (rs.map AK))) (some (.int (1+(i:Int)))) (some (.raw (.ref l))) v9 v10∧O'=AZ O l ((GB (AE ps) c (rs.take j)).map AK),⟨v9,v10,rfl,rfl⟩,?_,?_⟩))
 ·rintro j t _ _ e ⟨v9,v10,rfl,rfl⟩
  rw[c9] at e
  cases er:rs[j]? with
  |none=>rw[er] at e;cases e
  |some r=>
   rw[er] at e
   cases e
   have hrm:=dw er
   obtain⟨h1,h2,h3⟩:=hin r hrm
   have hll:=h3 _ (KU h1)
   obtain⟨u,hu'⟩:=e7 hll.1
   have hrow:(Ac n ps).getD u []=AE ps (lst r):=by
    rw[Di (by omega),Cz wn.hw,←hu']
   have hlen:u< (Ac n ps).length:=by have:=(Dt wn).len;omega
   refine⟨IT n ps s FL fd (some (.int p)) (some (.lst (rs.map AK))) (some (.int (1+(i:Int)))) (some (.raw (.ref l))) (some (AK r)) v10,AL 9 GL.nd (by show 9<11;decide),?_⟩
   refine AH (As Ab.own rfl (EI.wi (Am (ts:=(AE ps (lst r)).map T.int) (ET.cast (CM (ev 2) (ET.cast (Ae (ts:=r.map T.int) (ev 9) (HQ AB) (Gd h1)) (by rw[hu'])) (FD hlen)) (by rw[hrow]))) ⟨fun k ρ' O'=>∃v10:Option T,ρ'=IT n ps s FL fd (some (.int p)) (some (.lst (rs.map AK))) (some (.int (1+(i:Int)))) (some (.raw (.ref l))) (some (AK r)) v10∧O'=AZ O l ((GB (AE ps) c (rs.take j)++IR c r ((AE ps (lst r)).take k)).map AK),⟨v10,rfl,by rw[kJ];show _=AZ O l ((_++[]).map _);rw[gE]⟩,?_,?_⟩))
   ·rintro k t _ _ e ⟨v10,rfl,rfl⟩
    rw[c9] at e
    cases ei:(AE ps (lst r))[k]? with
    |none=>rw[ei] at e;cases e
    |some v=>
     rw[ei] at e
     cases e
     have hvm:=dw ei
     have hv:=Bw wn.hw _ _ (BX.mp hvm)
     obtain⟨y,rfl⟩:=e7 hv.1
     obtain⟨fs,d,g1,g2,g3⟩:=hfar r hrm y hvm
     refine⟨IT n ps s FL fd (some (.int p)) (some (.lst (rs.map AK))) (some (.int (1+(i:Int)))) (some (.raw (.ref l))) (some (AK r)) (some (.int y)),AL 10 GL.nd (by show 10<11;decide),?_⟩
     have a1:atI (FL.map fun fs=>T.lst (fs.map AS)) (y:Int)=some (.lst (fs.map AS)):=Ag (by rw[c9,g1];rfl)
     have a2:atI (fs.map AS) (p:Int)=some (.int (d:Int)):=Ag (by rw[c9,g2];rfl)
     have step:(AE ps (lst r)).take (k+1)=(AE ps (lst r)).take k++[(y:Int)]:=by rw[fQ,ei];rfl
     refine AH (Ay (k:=c (y:Int)&&!decide ((y:Int)∈r)) (EW.eb (EW.cast (De (EB.cast (BF (RM hu) rfl (Hg (t:=.int (y:Int)) (us:=r.map T.int) (by rw[CS]) IB (by show 0≤100;decide)) (ev 10) (ev 9)) (by rw[Cy])) fun _=>CZ (ZU (CM (CM (ev 3) (ev 10) a1) (ev 5) a2) (CK (ev 1) (ev 7)))) ?_)) (fun h=>?_) (fun h=>BI ?_))
     ·rw[g3,Bool.and_comm]
      congr 1
      exact decide_eq_decide.mpr (by omega)
     ·have hb:=ON (nb:=AE ps) (c:=c) er (k+1)
      rw[step,CD,if_pos h,eK] at hb
      refine AH (Ca (Be (ET.we (ev 8) ⟨l,rfl,⟨_,AF⟩,ET.we (Bj (ts:=r.map T.int) (us:=[.int (y:Int)]) (ev 9) (BU (AO (ev 10) AC)) (by simp only[b6,eD,fL];omega)) ⟨_,AF,by rw[b6,eK];simp only[eD,fL] at hb;omega,⟨_,rfl,?_⟩⟩⟩)))
      rw[BE,step,CD,if_pos h]
      congr 1
      simp only[fj,gk]
      congr 2
      simp[AK]
     ·refine⟨_,rfl,?_⟩
      rw[step,CD,if_neg (by rw[h];decide),gE]
   ·rintro _ _ ⟨v10,rfl,rfl⟩
    refine⟨_,_,rfl,?_⟩
    rw[b6,fR,←IC,fQ,er]
    rfl
 ·rintro _ _ ⟨v9,v10,rfl,rfl⟩
  rw[b6,fR]
  refine Bn (p:=l) (n:=8) (ts:=(GB (AE ps) c rs).map AK) AF hl rfl ?_
  rw[Az hl]
  exact AH (AM 6 (ET.we (ev 8) (q _ _ _)) GL.nd)
def YJ:Df:=LQ fun ts t=>∃(n:Int) (ps:List (Int×Int)) (s:Nat),ts=[BY n ps,.int (s:Int)]∧WebR n ps∧3≤s∧(s:Int)≤n∧t=.lst ((Bq (Gr.Adj ps) (AE ps) s n.toNat).map AK)
theorem aS{fd:fm}(F:Fun K "_law_rings" "_law_rings" Bm f fd)(Tx:Txt mg)(G:FnT P w K mg base "_law_far" 1 ["_law_web"] VW):FnOk P w K mg base (CXe P w) 2 f fd ["_law_web","_law_size"] (EK K YJ):=by
 refine Af F GL ?_ ?_
 ·rintro ts O Φ Ξ ⟨r,⟨n,ps,s,rfl,_⟩,_⟩
  rfl
 ·rintro cdv A outer s0 H E O Ξ hr xf _ Φ ⟨_,⟨n,ps,s,rfl,wr,h3,hsn,rfl⟩,q⟩
  have sb:=Bd
  have wn:=wr.wn
  have n0:=wr.n0
  have n1:=wr.n1
  have hpl:=wn.hl
  have hu:(A.deeper (jr "_law_rings" (AA Bm) s0.heap.objs.size f cdv)).units+102<cLine:=by have:=hr.un;omega
  have hnr:((eW n.toNat).map fun(i:Nat)=>T.lst ((AE ps (i:Int)).map T.int))=(Ac n ps).map fun r=>T.lst (r.map T.int):=by
   unfold Ac
   rw[fE]
   exact List.map_congr_left fun i _=>by rw[Function.comp,Cz wn.hw]
  refine AD (AM 2 (ET.we (t:=BQ (Ac n ps)) (ET.cast (CO ["_law_place"] [("_law_web",0)] (eW n.toNat) (fun(i:Nat)=>T.int (0+(i:Int))) (fun(i:Nat)=> .lst ((AE ps (i:Int)).map T.int)) rfl (Bf (AA Bm) ao (by decide+kernel)) (Ah Tx.nRange (Ae (t:=.int n) (ev 0) AB) (by omega)) (by rw[gH];omega) fun x hx=> ⟨[some (.int (0+(x:Int))),some (BY n ps)],fun X' Oe He is O'=>?near⟩) (by rw[hnr])) ?_) GL.nd)
  case near=>
   obtain⟨cl,s',H',fp,rfl⟩:=is
   rw[ja]
   refine⟨AL 0 aP (by decide),ET.cast (Hb ["_law_one","_law_other"] [("_law_place",0)] ps AG (fun p=> .int (p.1+p.2- (x:Int))) (fun p=>decide ((x:Int)∈[p.1,p.2])) rfl (Bf cE ["_law_place","_law_web"] (by decide+kernel)) (EM (Ae (ev 1) AB)) (by omega) fun y hy=> ⟨[some (.int y.1),some (.int y.2),some (.int (x:Int))],fun X'' Oe' He' is' O''=>?_⟩) ?_⟩
   ·obtain⟨cl',s'',H'',fp',rfl⟩:=is'
    exact⟨Bh 0 1 rfl aQ (by decide) (by decide),EB.cast (BF (Nw hu) rfl (Hg (t:=.int (x:Int)) (us:=[y.1,y.2].map T.int) (by rw[CS]) GY (by show 0≤100;decide)) (ev 2) (BU (AO (ev 0) (AO (ev 1) AC)) (by show 2≤sizeLine;decide))) Cy,fun _=>CK (Ba (ev 0) (ev 1)) (ev 2)⟩
   ·unfold AE
    rw[fE]
    rfl
  refine AD (AM 3 (Ar G (hr.mono (by decide)) xf (EA.wa (AO (ev 0) AC) ⟨n,ps,rfl,wn,fun FL hF=>?_⟩)) GL.nd)
  refine AD (AM 4 (ET.we (t:=.lst (([]:List (List Int)).map AK)) (BH AC (fB _)) ?_) GL.nd)
  have big:∀j,j≤n.toNat→((eW j).flatMap fun(i:Nat)=>Fj (Gr.Adj ps) (AE ps) s (i:Int)).length≤j*362880:=fun j hj=>by
   have:=Ex (f:=fun(i:Nat)=>Fj (Gr.Adj ps) (AE ps) s (i:Int)) (m:=362880) (xs:=eW j) fun i hi=>by
    have hi:=fy.mp hi
    exact fo (jR ..) (FI wn.hw wr.hp n1 (p:=(i:Int)) ⟨by omega,by omega⟩ (by omega))
   rwa[gH] at this
  refine AD (As Ab.own rfl (EI.wi (Ah Tx.nRange (Ae (t:=.int n) (ev 0) AB) (by omega)) ⟨fun j ρ' O'=>∃v5 v6 v7 v8 v9 v10:Option T,O'=O∧ρ'=IT n ps s FL ((eW j).flatMap fun(i:Nat)=>Fj (Gr.Adj ps) (AE ps) s (i:Int)) v5 v6 v7 v8 v9 v10,⟨none,none,none,none,none,none,rfl,rfl⟩,?_,?_⟩))
  ·rintro j t _ _ ej ⟨v5,v6,v7,v8,v9,v10,rfl,rfl⟩
   obtain⟨hj,rfl⟩:=Ak ej
   rw[ja]
   have hp:(j:Int)<n:=by omega
   have hb:=big (j+1) (by omega)
   have hstep:((eW (j+1)).flatMap fun(i:Nat)=>Fj (Gr.Adj ps) (AE ps) s (i:Int))=((eW j).flatMap fun(i:Nat)=>Fj (Gr.Adj ps) (AE ps) s (i:Int))++Fj (Gr.Adj ps) (AE ps) s (j:Int):=by
    rw[List.range_succ,j8]
    simp
   rw[hstep,eK] at hb
   generalize ((eW j).flatMap fun(i:Nat)=>Fj (Gr.Adj ps) (AE ps) s (i:Int))=fd0 at*
   refine⟨IT n ps s FL fd0 (some (.int (j:Int))) v6 v7 v8 v9 v10,AL 5 GL.nd (by show 5<11;decide),?_⟩
   refine AD (AM 6 (ET.we (t:=.lst ([[(j:Int)]].map AK)) (BH (AO (BU (AO (ev 5) AC)) AC) (by show 1≤sizeLine;decide)) ?_) GL.nd)
   refine AD (As Ab.own rfl (EI.wi (CC Tx.nRange AB (ev 1) (by omega)) ⟨fun i ρ' O'=>∃v7 v8 v9 v10:Option T,O'=O'∧ρ'=IT n ps s FL fd0 (some (.int (j:Int))) (some (.lst ((Ea (AE ps) (CU (Gr.Adj ps) s j) (j:Int) i).map AK))) v7 v8 v9 v10∧O'=_,⟨v7,v8,v9,v10,rfl,rfl,rfl⟩,?_,?_⟩))
   ·rintro i t _ _ ei ⟨v7,v8,v9,v10,_,rfl,rfl⟩
    obtain⟨hi,rfl⟩:=Ak ei
    exact⟨_,AL 7 GL.nd (by show 7<11;decide),Uq hu wr hF hp (by omega) hsn fun v8 v9 v10=> ⟨_,_,_,_,rfl,rfl,rfl⟩⟩
   ·rintro _ _ ⟨v7,v8,v9,v10,_,rfl,rfl⟩
    rw[AY]
    have es:((s:Int)-1).toNat=s-1:=by omega
    rw[es]
    have hel:(Ea (AE ps) (CU (Gr.Adj ps) s j) (j:Int) (s-1)).length≤362880:=FI wn.hw wr.hp n1 (p:=(j:Int)) ⟨by omega,hp⟩ (by omega)
    have hin:∀r∈Ea (AE ps) (CU (Gr.Adj ps) s j) (j:Int) (s-1),_:=fun r hr=>ND wn.hw (p:=(j:Int)) ⟨by omega,hp⟩ hr
    have hlw:Fj (Gr.Adj ps) (AE ps) s (j:Int)=(Ea (AE ps) (CU (Gr.Adj ps) s j) (j:Int) (s-1)).filter fun r=>decide ((j:Int)∈AE ps (lst r)):=rfl
    rw[hlw] at hstep hb
    generalize Ea (AE ps) (CU (Gr.Adj ps) s j) (j:Int) (s-1)=rs at*
    refine AH (AM 4 (ET.we (Cc (us:=(rs.filter fun r=>decide ((j:Int)∈AE ps (lst r))).map AK) (ev 4) (Hb ["_law_way"] [("_law_place",5),("_law_near",2)] rs AK AK (fun r=>decide ((j:Int)∈AE ps (lst r))) rfl (Bf (AA Bm) ao (by decide+kernel)) (Am (ev 6)) (by omega) fun r hr=> ⟨[some (AK r),some (.int (j:Int)),some (BQ (Ac n ps))],fun X' Oe He is O'=>?_⟩) ?_) ?_) GL.nd)
    ·obtain⟨cl,s',H',fp,rfl⟩:=is
     obtain⟨h1,h2,h4⟩:=hin r hr
     have hll:=h4 _ (KU h1)
     obtain⟨u,hu'⟩:=e7 hll.1
     have hrow:(Ac n ps).getD u []=AE ps (lst r):=by
      rw[Di (by omega),Cz wn.hw,←hu']
     have hlen:u< (Ac n ps).length:=by have:=(Dt wn).len;omega
     exact⟨AL 0 aR (by decide),EB.cast (BF (Nw hu) rfl (Xb (t:=.int (j:Int)) (us:=(AE ps (lst r)).map T.int) (by rw[CS]) GY (by show 0≤100;decide)) (ev 1) (ET.cast (CM (ev 2) (ET.cast (Ae (ts:=r.map T.int) (ev 0) (HQ AB) (Gd h1)) (by rw[hu'])) (FD hlen)) (by rw[hrow]))) Cy,fun _=>ev 0⟩
    ·rw[b6,b6]
     omega
    ·refine⟨some (.int (j:Int)),some (.lst (rs.map AK)),v7,v8,v9,v10,rfl,?_⟩
     rw[hstep]
     show _=[_,_,_,_,some (T.lst ((fd0++_).map AK)),_,_,_,_,_,_]
     rw[fj]
     rfl
  ·rintro _ _ ⟨v5,v6,v7,v8,v9,v10,rfl,rfl⟩
   rw[AY]
   have hb:=big n.toNat (dv _)
   have hmem:∀r∈Bq (Gr.Adj ps) (AE ps) s n.toNat,r.length=(s-1)+1∧∀z∈r,0≤z∧z<32:=fun r hr=>by
    obtain⟨h1,h2⟩:=(Cw Dj Cq (Bw wn.hw) h3).mp hr
    exact⟨by omega,fun z hz=>by have:=GT (Bw wn.hw) h1 z hz;omega⟩
   exact AH (AR (ET.we (NF (ks:=Bq (Gr.Adj ps) (AE ps) s n.toNat) (m:=s-1) Tx.nSorted (ev 4) hmem (by show _≤_;unfold Bq;omega) (GC (Fq wn.hw wr.hp) (fun u v h=>by have:=Bw wn.hw u v (BX.mp h);omega))) q))
end
section
variable{P:Program}{w:World}{K:a8}{mg:Str→Option Value}{base:Heap}{f:Addr}{cdv:Value}{A:eU}{outer:List Env}{s:a9}{H:Hp}{E:XK}{O0 O2:AI}{Ξ:Value→AI→Prop}{p:Addr}{most way n:Int}{es:List (Int×Int)}{v5:Option T}{Φ:BW}{N:Fy}
theorem dc(hr:Room 2 (zS P w K mg base f cdv A outer s H E O0 Ξ).X.A)(xf:XFly (zS P w K mg base f cdv A outer s H E O0 Ξ).X (zS P w K mg base f cdv A outer s H E O0 Ξ).W)(Tx:Txt mg)(G:FnT P w K mg base "_law_draw" 2 ["_law_pen","_law_many"] BA)(po2:PO O0 p O2)(w0:0≤way)(n0:1≤n)(n1:n≤16)(he:∀q∈es,AV n q)(hz:es.length≤256)
  (q:∀(ps:List (Int×Int)) (O':AI),(∀q∈ps,AV n q)→ps.length≤256→PO O0 p O'→Φ (.tup [.int n,.tup (ps.map AG)]) O') (w3:way<3):HS (zS P w K mg base f cdv A outer s H E O0 Ξ) (ES p most way n es v5) O2 (Zs (Fo 4)) {nx:=N,rt:=Φ}:=by
 have sb:=Ad
 refine⟨?_⟩
 obtain⟨mm,em,mm0,mm1⟩:=Zr w0 w3
 refine AH (AR (Cm (CQ (ET.we (ev 3) (CQ (CN Tx.nTuple (Fz (nc:=["_law_pair"]) (cap:=[("_law_pen",0),("_law_way",2)]) rfl (Bf (AA Bv) DM (by decide+kernel)) (EI.wi (Am (ev 4)) ?_))))))))
 refine⟨fun i acc O'=>∃qs:List (Int×Int),acc=qs.map AG∧(∀z∈qs,AV n z)∧qs.length≤i∧i≤256∧PO O0 p O',⟨[],rfl,by simp,by simp,by omega,po2⟩,?_,?_⟩
 ·rintro i t acc O' c e ⟨qs,rfl,hq,hl,_,po⟩ hc
  rw[c9] at e
  cases ee:es[i]? with
  |none=>rw[ee] at e;cases e
  |some z=>
   rw[ee] at e
   cases e
   have hi:=(eB.mp ee).1
   refine⟨[some (AG z),some (.raw (.ref p)),some (.int way)],fun X' Oe He is=>?_⟩
   obtain⟨cl,s',H',fp,rfl⟩:=is
   refine⟨AL 0 Zm (by decide),Jt (Mi QA (Av _) (Br G hr Bc po hc (ev 1) (CM (BH (AO AB (AO AB (AO AB AC))) (by show 3≤sizeLine;decide)) (ev 2) em) mm0 mm1 fun r O3 r0 r1 po3 hc3=>ET.we AB (Mh _ ⟨_,rfl,?_⟩)))⟩
   refine Wd (fun h=>?_) (fun h=>?_)
   ·rintro X' Oe He ⟨cl,s',H',fp,rfl⟩
    refine ET.we (ev 0) ⟨O3,rfl,hc3,by rw[b6];omega,qs++[z],by rw[fj];rfl,fun y hy=>?_,by simp;omega,by omega,po3⟩
    rcases eO.mp hy with hy|hy
    ·exact hq y hy
    ·rw[dr.mp hy];exact he z (dw ee)
   ·exact⟨O3,rfl,hc3,qs,rfl,hq,by omega,by omega,po3⟩
 ·rintro acc O' ⟨qs,rfl,hq,hl,_,po⟩
  rw[b6] at hl
  exact⟨_,rfl,Al ⟨by show 2≤sizeLine;decide,q qs O' hq (by omega) po⟩⟩
end
section
variable{P:Program}{w:World}{K:a8}{mg:Str→Option Value}{base:Heap}{f:Addr}{cdv:Value}{A:eU}{outer:List Env}{s:a9}{H:Hp}{E:XK}{O0 O2:AI}{Ξ:Value→AI→Prop}{p:Addr}{most way n:Int}{es:List (Int×Int)}{v5:Option T}{Φ:BW}{N:Fy}
theorem de(hr:Room 2 (zS P w K mg base f cdv A outer s H E O0 Ξ).X.A)(xf:XFly (zS P w K mg base f cdv A outer s H E O0 Ξ).X (zS P w K mg base f cdv A outer s H E O0 Ξ).W)(Tx:Txt mg)(G:FnT P w K mg base "_law_draw" 2 ["_law_pen","_law_many"] BA)(po2:PO O0 p O2)(w0:0≤way)(n0:1≤n)(n1:n≤16)(he:∀q∈es,AV n q)(hz:es.length≤256)
  (q:∀(ps:List (Int×Int)) (O':AI),(∀q∈ps,AV n q)→ps.length≤256→PO O0 p O'→Φ (.tup [.int n,.tup (ps.map AG)]) O') (n2:2<n) (Gt:FnT P w K mg base "_law_turned" 2 ["_law_many","_law_steps"] Dg):HS (zS P w K mg base f cdv A outer s H E O0 Ξ) (ES p most way n es v5) O2 (Zs (Fo 5)) {nx:=N,rt:=Φ}:=by
 have sb:=Ad
 refine⟨?_⟩
 refine AH (AR (Ar Gt hr xf (CQ (ET.we (ev 3) (CQ (Fz (nc:=["_law_step"]) (cap:=[("_law_pen",0)]) rfl (Bf (AA Bv) DM (by decide+kernel)) (EI.wi (CC Tx.nRange AB (Ba (Em (ev 3) AB ⟨by decide,by decide⟩) AB) ⟨by decide,by decide,by omega,by omega⟩) ?_)))))))
 refine⟨fun i acc O'=>∃ss:List Int,acc=ss.map T.int∧(∀z∈ss,1≤z∧z<n)∧ss.length≤i∧i≤16∧PO O0 p O',⟨[],rfl,by simp,by simp,by omega,po2⟩,?_,?_⟩
 ·rintro i t acc O' c e ⟨qs,rfl,hq,hl,_,po⟩ hc
  obtain⟨hi,rfl⟩:=Ak e
  refine⟨[some (.int (1+i)),some (.raw (.ref p))],fun X' Oe He is=>?_⟩
  obtain⟨cl,s',H',fp,rfl⟩:=is
  refine⟨AL 0 Zo (by decide),Jt (Mi QA (Av _) (Br G hr Bc po hc (ev 1) AB (by decide) (by decide) fun r O3 r0 r1 po3 hc3=>ET.we AB (Mh _ ⟨_,rfl,?_⟩)))⟩
  refine Wd (fun h=>?_) (fun h=>?_)
  ·rintro X' Oe He ⟨cl,s',H',fp,rfl⟩
   refine ET.we (ev 0) ⟨O3,rfl,hc3,by rw[b6];omega,qs++[1+(i:Int)],by rw[fj];rfl,fun y hy=>?_,by simp;omega,by omega,po3⟩
   rcases eO.mp hy with hy|hy
   ·exact hq y hy
   ·rw[dr.mp hy];omega
  ·exact⟨O3,rfl,hc3,qs,rfl,hq,by omega,by omega,po3⟩
 ·rintro acc O' ⟨ss,rfl,hq,hl,hl2,po⟩
  exact Al ⟨n,ss,rfl,by omega,by omega,by omega,hq,fun qs _ h2 h3=>q qs O' h2 h3 po⟩
end
section
variable{P:Program}{w:World}{K:a8}{mg:Str→Option Value}{base:Heap}{f:Addr}{cdv:Value}{A:eU}{outer:List Env}{s:a9}{H:Hp}{E:XK}{O0 O2:AI}{Ξ:Value→AI→Prop}{p:Addr}{most way n:Int}{es:List (Int×Int)}{v5:Option T}{Φ:BW}{N:Fy}
theorem df(hr:Room 2 (zS P w K mg base f cdv A outer s H E O0 Ξ).X.A)(xf:XFly (zS P w K mg base f cdv A outer s H E O0 Ξ).X (zS P w K mg base f cdv A outer s H E O0 Ξ).W)(Tx:Txt mg)(G:FnT P w K mg base "_law_draw" 2 ["_law_pen","_law_many"] BA)(po2:PO O0 p O2)(w0:0≤way)(n0:1≤n)(n1:n≤16)(he:∀q∈es,AV n q)(hz:es.length≤256)
  (q:∀(ps:List (Int×Int)) (O':AI),(∀q∈ps,AV n q)→ps.length≤256→PO O0 p O'→Φ (.tup [.int n,.tup (ps.map AG)]) O')  :HS (zS P w K mg base f cdv A outer s H E O0 Ξ) (ES p most way n es v5) O2 (Zs (Fo 6)) {nx:=N,rt:=Φ}:=by
 have sb:=Ad
 refine⟨?_⟩
 refine AD (AM 6 (DT FN (ET.we AB (Ce G hr xf po2 (ev 0) (ev 3) (by omega) (by omega) fun side O3 u0 u1 po3=>HN _ ?_))) Cf.nd)
 refine AH (AR (Cm (CQ (ET.we (ev 3) (CQ (ET.we (HW Tx.nTuple (Hb ["_law_one","_law_other"] [("_law_side",6)] es AG AG (fun z=>!(decide (z.1<1+side)==decide (z.2<1+side))) rfl (Bf (AA Bv) DM (by decide+kernel)) (Am (ev 4)) (by omega) fun x hx=> ⟨[some (.int x.1),some (.int x.2),some (.int (1+side))],fun X' Oe He is O'=>?_⟩)) (Al ⟨by show 2≤sizeLine;decide,?_⟩)))))))
 ·obtain⟨cl,s',H',fp,rfl⟩:=is
  exact⟨Bh 0 1 rfl Zp (by decide) (by decide),Qv (VL (ev 0) (ev 2)) (VL (ev 1) (ev 2)),fun _=>Bl (ev 0) (ev 1)⟩
 ·exact q _ O3 (fun z hz=>he z (fD.mp hz).1) (fo (jR _ _) hz) po3
end
section
variable{P:Program}{w:World}{K:a8}{mg:Str→Option Value}{base:Heap}{f:Addr}{cdv:Value}{A:eU}{outer:List Env}{s:a9}{H:Hp}{E:XK}{O0 O2:AI}{Ξ:Value→AI→Prop}{p:Addr}{most way n:Int}{es:List (Int×Int)}{v5:Option T}{Φ:BW}{N:Fy}
theorem dg(hr:Room 2 (zS P w K mg base f cdv A outer s H E O0 Ξ).X.A)(xf:XFly (zS P w K mg base f cdv A outer s H E O0 Ξ).X (zS P w K mg base f cdv A outer s H E O0 Ξ).W)(Tx:Txt mg)(G:FnT P w K mg base "_law_draw" 2 ["_law_pen","_law_many"] BA)(po2:PO O0 p O2)(w0:0≤way)(n0:1≤n)(n1:n≤16)(he:∀q∈es,AV n q)(hz:es.length≤256)
  (q:∀(ps:List (Int×Int)) (O':AI),(∀q∈ps,AV n q)→ps.length≤256→PO O0 p O'→Φ (.tup [.int n,.tup (ps.map AG)]) O') (q10:∀(ps:List (Int×Int)) (O':AI),(∀q∈ps,AV 10 q)→ps.length≤256→PO O0 p O'→Φ (.tup [.int 10,.tup (ps.map AG)]) O'):HS (zS P w K mg base f cdv A outer s H E O0 Ξ) (ES p most way n es v5) O2 (Zs (Fo 7)) {nx:=N,rt:=Φ}:=by
 have sb:=Ad
 refine⟨?_⟩
 refine AD ?_
 refine UC (ts:=List.map AG [(0,1),(1,2),(2,3),(3,4),(0,4),(5,7),(7,9),(6,9),(6,8),(5,8)]) 7 ?hE ?hl ?hk Cf.nd ?ha ?hb ?hc
 case ha=>rfl
 case hb=>exact mh rfl
 case hc=>exact .inl rfl
 case hE=>exact CPs.hea (ps:=[(0,1),(1,2),(2,3),(3,4),(0,4),(5,7),(7,9),(6,9),(6,8),(5,8)]) (.cons (.cons (.cons (.cons (.cons (.cons (.cons (.cons (.cons (.cons .nil))))))))))
 case hl=>
  rw[b6]
  exact fo (show 10≤1000 by decide) (iC sb)
 refine AH ?_
 refine AR ?_
 refine Cm ?_
 refine CQ (ET.we AB ?_)
 refine CQ ?_
 refine ET.we (t:=.tup (List.map AG [(0,1),(1,2),(2,3),(3,4),(0,4),(5,7),(7,9),(6,9),(6,8),(5,8)]++(eW 5).map fun(j:Nat)=>AG (0+(j:Int),0+(j:Int)+5))) ?u3 ?u4
 case u3=>
  refine HW Tx.nTuple ?_
  refine Cc (ev 7) ?_ (by rw[b6,b6];exact fo (show 15≤1000 by decide) (iC sb))
  refine CO ["_law_place"] [] (eW 5) (fun(j:Nat)=> .int (0+(j:Int))) (fun(j:Nat)=>AG (0+(j:Int),0+(j:Int)+5)) rfl (Bf (AA Bv) DM (by decide+kernel)) ?_ (by show 5≤sizeLine;decide) ?_
  ·exact Ah (k:=5) Tx.nRange AB ⟨by decide,by decide⟩
  ·intro x hx
   refine⟨[some (.int (0+x))],fun X' Oe He is O'=>?_⟩
   obtain⟨cl,s',H',fp,rfl⟩:=is
   exact⟨AL 0 VV (by decide),Bl (ev 0) (Ba (ev 0) AB)⟩
 refine Al ⟨by show 2≤sizeLine;decide,?_⟩
 refine q10 [(0,1),(1,2),(2,3),(3,4),(0,4),(5,7),(7,9),(6,9),(6,8),(5,8),(0,5),(1,6),(2,7),(3,8),(4,9)] O2 ?_ (by decide) po2
 unfold AV
 decide
end
section
variable{P:Program}{w:World}{K:a8}{mg:Str→Option Value}{base:Heap}{f:Addr}{cdv:Value}{A:eU}{outer:List Env}{s:a9}{H:Hp}{E:XK}{O0 O2:AI}{Ξ:Value→AI→Prop}{p:Addr}{most way n:Int}{es:List (Int×Int)}{v5:Option T}{Φ:BW}{N:Fy}
theorem dh(hr:Room 2 (zS P w K mg base f cdv A outer s H E O0 Ξ).X.A)(xf:XFly (zS P w K mg base f cdv A outer s H E O0 Ξ).X (zS P w K mg base f cdv A outer s H E O0 Ξ).W)(Tx:Txt mg)(G:FnT P w K mg base "_law_draw" 2 ["_law_pen","_law_many"] BA)(po2:PO O0 p O2)(w0:0≤way)(n0:1≤n)(n1:n≤16)(he:∀q∈es,AV n q)(hz:es.length≤256)
  (q:∀(ps:List (Int×Int)) (O':AI),(∀q∈ps,AV n q)→ps.length≤256→PO O0 p O'→Φ (.tup [.int n,.tup (ps.map AG)]) O') (n2:2<n):HS (zS P w K mg base f cdv A outer s H E O0 Ξ) (ES p most way n es v5) O2 (Zs (Fo 8)) {nx:=N,rt:=Φ}:=by
 have sb:=Ad
 refine⟨?_⟩
 refine AH (AR (Cm (CQ (ET.we (ev 3) (CQ (ET.we (HW Tx.nTuple (Cc (us:=[AG (0,n-1)]) (CO ["_law_place"] [] (eW (n-1).toNat) (fun j=> .int (0+j)) (fun j=>AG (0+j,0+j+1)) rfl (Bf (AA Bv) DM (by decide+kernel)) (Ah Tx.nRange (CK (ev 3) AB) ⟨by omega,by omega⟩) (by simp;omega) fun x hx=> ⟨[some (.int (0+x))],fun X' Oe He is O'=>?_⟩) (BH (AO (Bl AB (CK (ev 3) AB)) AC) (by show 1≤sizeLine;decide)) (by simp;omega))) (Al ⟨by show 2≤sizeLine;decide,?_⟩)))))))
 ·obtain⟨cl,s',H',fp,rfl⟩:=is
  exact⟨AL 0 VV (by decide),Bl (ev 0) (Ba (ev 0) AB)⟩
 ·have:=q ((eW (n-1).toNat).map (fun(j:Nat)=> (0+(j:Int),0+(j:Int)+1))++[(0,n-1)]) O2 (fun z hz=>by
   rcases eO.mp hz with hz|hz
   ·obtain⟨j,hj,rfl⟩:=eQ.mp hz
    have:=fy.mp hj
    show 0≤0+(j:Int)∧0+(j:Int)<0+(j:Int)+1∧0+(j:Int)+1<n
    omega
   ·rw[dr.mp hz]
    show(0:Int)≤0∧0<n-1∧n-1<n
    omega) (by simp;omega) po2
  rw[fj,fE] at this
  exact this
end
section
variable{P:Program}{w:World}{K:a8}{mg:Str→Option Value}{base:Heap}{f:Addr}{cdv:Value}{A:eU}{outer:List Env}{s:a9}{H:Hp}{E:XK}{O0 O2:AI}{Ξ:Value→AI→Prop}{p:Addr}{most way n:Int}{es:List (Int×Int)}{v5:Option T}{Φ:BW}{N:Fy}
theorem di(hr:Room 2 (zS P w K mg base f cdv A outer s H E O0 Ξ).X.A)(xf:XFly (zS P w K mg base f cdv A outer s H E O0 Ξ).X (zS P w K mg base f cdv A outer s H E O0 Ξ).W)(Tx:Txt mg)(G:FnT P w K mg base "_law_draw" 2 ["_law_pen","_law_many"] BA)(po2:PO O0 p O2)(w0:0≤way)(n0:1≤n)(n1:n≤16)(he:∀q∈es,AV n q)(hz:es.length≤256)
  (q:∀(ps:List (Int×Int)) (O':AI),(∀q∈ps,AV n q)→ps.length≤256→PO O0 p O'→Φ (.tup [.int n,.tup (ps.map AG)]) O')  :HS (zS P w K mg base f cdv A outer s H E O0 Ξ) (ES p most way n es v5) O2 ([Fo 9]) {nx:=N,rt:=Φ}:=by
 have sb:=Ad
 refine⟨?_⟩
 refine AH (AR (Cm (CQ (ET.we (ev 3) (CQ (CN Tx.nTuple (Fz (nc:=["_law_place"]) (cap:=[("_law_pen",0)]) rfl (Bf (AA Bv) DM (by decide+kernel)) (EI.wi (CC Tx.nRange AB (ev 3) ⟨by decide,by decide,by omega,by omega⟩) ?_))))))))
 refine⟨fun i acc O'=>∃qs:List (Int×Int),acc=qs.map AG∧(∀z∈qs,AV n z)∧qs.length≤i∧i≤16∧PO O0 p O',⟨[],rfl,by simp,by simp,by omega,po2⟩,?_,?_⟩
 ·rintro i t acc O' c e ⟨qs,rfl,hq,hl,_,po⟩ hc
  obtain⟨hi,rfl⟩:=Ak e
  refine⟨[some (.int (1+i)),some (.raw (.ref p))],fun X' Oe He is=>?_⟩
  obtain⟨cl,s',H',fp,rfl⟩:=is
  refine⟨AL 0 Zq (by decide),Cb (GH ?_)⟩
  rintro X' Oe He ⟨cl,s',H',fp,rfl⟩
  refine Cm (CQ (Br G hr Bc po hc (ev 1) (ev 0) (by omega) (by omega) fun r O3 r0 r1 po3 hc3=>EA.wa (AO (ev 0) AC) ⟨by show 2≤sizeLine;decide,O3,rfl,hc3,by rw[b6];omega,qs++[(r,1+(i:Int))],by rw[fj];rfl,fun y hy=>?_,by simp;omega,by omega,po3⟩))
  rcases eO.mp hy with hy|hy
  ·exact hq y hy
  ·rw[dr.mp hy]
   show 0≤r∧r<1+(i:Int)∧1+(i:Int)<n
   omega
 ·rintro acc O' ⟨qs,rfl,hq,hl,hl2,po⟩
  exact⟨_,rfl,Al ⟨by show 2≤sizeLine;decide,q qs O' hq (by omega) po⟩⟩
end
section
variable{P:Program}{w:World}{K:a8}{mg:Str→Option Value}{base:Heap}{f:Addr}{cdv:Value}{A:eU}{outer:List Env}{s:a9}{H:Hp}{E:XK}{O0 O2:AI}{Ξ:Value→AI→Prop}{p:Addr}{most way n:Int}{es:List (Int×Int)}{v5:Option T}{Φ:BW}{N:Fy}
theorem t9(hr:Room 2 (zS P w K mg base f cdv A outer s H E O0 Ξ).X.A)(xf:XFly (zS P w K mg base f cdv A outer s H E O0 Ξ).X (zS P w K mg base f cdv A outer s H E O0 Ξ).W)(Tx:Txt mg)(G:FnT P w K mg base "_law_draw" 2 ["_law_pen","_law_many"] BA)(po2:PO O0 p O2)(w0:0≤way)(n0:1≤n)(n1:n≤16)(he:∀q∈es,AV n q)(hz:es.length≤256)
  (q:∀(ps:List (Int×Int)) (O':AI),(∀q∈ps,AV n q)→ps.length≤256→PO O0 p O'→Φ (.tup [.int n,.tup (ps.map AG)]) O'):HS (zS P w K mg base f cdv A outer s H E O0 Ξ) (ES p most way n es v5) O2 ([Fo 9]) {nx:=N,rt:=Φ}:=by
 exact di hr xf Tx G po2 w0 n0 n1 he hz q
theorem t8(hr:Room 2 (zS P w K mg base f cdv A outer s H E O0 Ξ).X.A)(xf:XFly (zS P w K mg base f cdv A outer s H E O0 Ξ).X (zS P w K mg base f cdv A outer s H E O0 Ξ).W)(Tx:Txt mg)(G:FnT P w K mg base "_law_draw" 2 ["_law_pen","_law_many"] BA)(po2:PO O0 p O2)(w0:0≤way)(n0:1≤n)(n1:n≤16)(he:∀q∈es,AV n q)(hz:es.length≤256)
  (q:∀(ps:List (Int×Int)) (O':AI),(∀q∈ps,AV n q)→ps.length≤256→PO O0 p O'→Φ (.tup [.int n,.tup (ps.map AG)]) O'):HS (zS P w K mg base f cdv A outer s H E O0 Ξ) (ES p most way n es v5) O2 ([Fo 8,Fo 9]) {nx:=N,rt:=Φ}:=by
 refine Hf (EW.eb (De (EJ (ev 2) AB) fun _=>CZ (Nd (ev 3) AB))) (fun h=>?_) (fun h=>t9 hr xf Tx G po2 w0 n0 n1 he hz q)
 have h:(decide (way=6)&&decide (2<n))=true:=h
 have n2:2<n:=by simp at h;exact h.2
 exact dh hr xf Tx G po2 w0 n0 n1 he hz q n2
theorem t7(hr:Room 2 (zS P w K mg base f cdv A outer s H E O0 Ξ).X.A)(xf:XFly (zS P w K mg base f cdv A outer s H E O0 Ξ).X (zS P w K mg base f cdv A outer s H E O0 Ξ).W)(Tx:Txt mg)(G:FnT P w K mg base "_law_draw" 2 ["_law_pen","_law_many"] BA)(po2:PO O0 p O2)(w0:0≤way)(n0:1≤n)(n1:n≤16)(he:∀q∈es,AV n q)(hz:es.length≤256)
  (q:∀(ps:List (Int×Int)) (O':AI),(∀q∈ps,AV n q)→ps.length≤256→PO O0 p O'→Φ (.tup [.int n,.tup (ps.map AG)]) O') (q10:9<most→∀(ps:List (Int×Int)) (O':AI),(∀q∈ps,AV 10 q)→ps.length≤256→PO O0 p O'→Φ (.tup [.int 10,.tup (ps.map AG)]) O'):HS (zS P w K mg base f cdv A outer s H E O0 Ξ) (ES p most way n es v5) O2 ([Fo 7,Fo 8,Fo 9]) {nx:=N,rt:=Φ}:=by
 refine Hf (EW.eb (De (EJ (ev 2) AB) fun _=>CZ (Nd (ev 1) AB))) (fun h=>?_) (fun h=>t8 hr xf Tx G po2 w0 n0 n1 he hz q)
 have h:(decide (way=5)&&decide (9<most))=true:=h
 have n2:9<most:=by simp at h;exact h.2
 exact dg hr xf Tx G po2 w0 n0 n1 he hz q (q10 n2)
theorem t6(hr:Room 2 (zS P w K mg base f cdv A outer s H E O0 Ξ).X.A)(xf:XFly (zS P w K mg base f cdv A outer s H E O0 Ξ).X (zS P w K mg base f cdv A outer s H E O0 Ξ).W)(Tx:Txt mg)(G:FnT P w K mg base "_law_draw" 2 ["_law_pen","_law_many"] BA)(po2:PO O0 p O2)(w0:0≤way)(n0:1≤n)(n1:n≤16)(he:∀q∈es,AV n q)(hz:es.length≤256)
  (q:∀(ps:List (Int×Int)) (O':AI),(∀q∈ps,AV n q)→ps.length≤256→PO O0 p O'→Φ (.tup [.int n,.tup (ps.map AG)]) O') (q10:9<most→∀(ps:List (Int×Int)) (O':AI),(∀q∈ps,AV 10 q)→ps.length≤256→PO O0 p O'→Φ (.tup [.int 10,.tup (ps.map AG)]) O'):HS (zS P w K mg base f cdv A outer s H E O0 Ξ) (ES p most way n es v5) O2 ([Fo 6,Fo 7,Fo 8,Fo 9]) {nx:=N,rt:=Φ}:=by
 exact Hf (EJ (ev 2) AB) (fun h=>df hr xf Tx G po2 w0 n0 n1 he hz q) (fun h=>t7 hr xf Tx G po2 w0 n0 n1 he hz q q10)
theorem t5(hr:Room 2 (zS P w K mg base f cdv A outer s H E O0 Ξ).X.A)(xf:XFly (zS P w K mg base f cdv A outer s H E O0 Ξ).X (zS P w K mg base f cdv A outer s H E O0 Ξ).W)(Tx:Txt mg)(G:FnT P w K mg base "_law_draw" 2 ["_law_pen","_law_many"] BA)(po2:PO O0 p O2)(w0:0≤way)(n0:1≤n)(n1:n≤16)(he:∀q∈es,AV n q)(hz:es.length≤256)
  (q:∀(ps:List (Int×Int)) (O':AI),(∀q∈ps,AV n q)→ps.length≤256→PO O0 p O'→Φ (.tup [.int n,.tup (ps.map AG)]) O') (q10:9<most→∀(ps:List (Int×Int)) (O':AI),(∀q∈ps,AV 10 q)→ps.length≤256→PO O0 p O'→Φ (.tup [.int 10,.tup (ps.map AG)]) O') (Gt:FnT P w K mg base "_law_turned" 2 ["_law_many","_law_steps"] Dg):HS (zS P w K mg base f cdv A outer s H E O0 Ξ) (ES p most way n es v5) O2 ([Fo 5,Fo 6,Fo 7,Fo 8,Fo 9]) {nx:=N,rt:=Φ}:=by
 refine Hf (EW.eb (De (EJ (ev 2) AB) fun _=>CZ (Nd (ev 3) AB))) (fun h=>?_) (fun h=>t6 hr xf Tx G po2 w0 n0 n1 he hz q q10)
 have h:(decide (way=3)&&decide (2<n))=true:=h
 have n2:2<n:=by simp at h;exact h.2
 exact de hr xf Tx G po2 w0 n0 n1 he hz q n2 Gt
theorem t4(hr:Room 2 (zS P w K mg base f cdv A outer s H E O0 Ξ).X.A)(xf:XFly (zS P w K mg base f cdv A outer s H E O0 Ξ).X (zS P w K mg base f cdv A outer s H E O0 Ξ).W)(Tx:Txt mg)(G:FnT P w K mg base "_law_draw" 2 ["_law_pen","_law_many"] BA)(po2:PO O0 p O2)(w0:0≤way)(n0:1≤n)(n1:n≤16)(he:∀q∈es,AV n q)(hz:es.length≤256)
  (q:∀(ps:List (Int×Int)) (O':AI),(∀q∈ps,AV n q)→ps.length≤256→PO O0 p O'→Φ (.tup [.int n,.tup (ps.map AG)]) O') (q10:9<most→∀(ps:List (Int×Int)) (O':AI),(∀q∈ps,AV 10 q)→ps.length≤256→PO O0 p O'→Φ (.tup [.int 10,.tup (ps.map AG)]) O') (Gt:FnT P w K mg base "_law_turned" 2 ["_law_many","_law_steps"] Dg):HS (zS P w K mg base f cdv A outer s H E O0 Ξ) (ES p most way n es v5) O2 ([Fo 4,Fo 5,Fo 6,Fo 7,Fo 8,Fo 9]) {nx:=N,rt:=Φ}:=by
 exact Hf (Nc (ev 2) AB) (fun h=>dc hr xf Tx G po2 w0 n0 n1 he hz q (of_decide_eq_true h)) (fun h=>t5 hr xf Tx G po2 w0 n0 n1 he hz q q10 Gt)
end
section
variable{P:Program}{w:World}{K:a8}{mg:Str→Option Value}{base:Heap}
theorem SZ{f:Addr}{fd:fm}(F:Fun K "_law_shape" "_law_shape" Bv f fd)(Tx:Txt mg)(G:FnT P w K mg base "_law_draw" 2 ["_law_pen","_law_many"] BA)(Gt:FnT P w K mg base "_law_turned" 2 ["_law_many","_law_steps"] Dg):FnOk P w K mg base (CXe P w) 3 f fd ["_law_pen","_law_most"] (EK K OE):=by
 refine Nr F Cf ?_ ?_
 ·rintro ts O Φ Ξ ⟨p,xs,m,rfl,_⟩
  rfl
 ·rintro cdv A outer s H E O0 Ξ hr xf _ Φ ⟨p,xs,most,rfl,hp,px,t0,t1,q⟩
  have sb:=Ad
  refine An (AM 2 (Ce G hr xf (PO.start hp px) (ev 0) AB (by decide) (by decide) fun way O1 w0 w1 po1=>?_) Cf.nd)
  refine An (AM 3 (DT FN (ET.we AB (Ce G hr xf po1 (ev 0) (ev 1) (by omega) (by omega) fun mm O2 u0 u1 po2=>HN _ ?_))) Cf.nd)
  have n0:1≤1+mm:=by omega
  have n1:1+mm≤most:=by omega
  generalize 1+mm=n at n0 n1
  clear u0 u1 po1 mm
  have q':∀(ps:List (Int×Int)) (O':AI),(∀q∈ps,AV n q)→ps.length≤256→PO O0 p O'→Φ (.tup [.int n,.tup (ps.map AG)]) O':=fun ps O' a b c=>q n ps O' n0 n1 a b c
  refine An (AM 4 (ET.we (BH AC (fB _)) ?_) Cf.nd)
  refine An (As Ab.own rfl (EI.wi (Ah Tx.nRange (ev 3) ⟨by omega,by omega⟩) ⟨fun i ρ' O'=>∃(es:List (Int×Int)) (v5:Option T),ρ'=ES p most way n es v5∧O'=O2∧(∀q∈es,AV n q)∧es.length≤16*i,⟨[],none,rfl,rfl,by simp,by simp⟩,?_,?_⟩))
  ·rintro i t _ _ e ⟨es,v5,rfl,rfl,he,hz⟩
   obtain⟨hi,rfl⟩:=Ak e
   refine⟨ES p most way n es (some (.int (0+i))),AL 5 Cf.nd (by show 5<8;decide),?_⟩
   refine AH (AM 4 (ET.we (Cc (ev 4) (CO ["_law_one"] [("_law_other",5)] (eW (0+(i:Int)).toNat) (fun j=> .int (0+j)) (fun j=>AG (0+j,0+i)) rfl (Bf (AA Bv) DM (by decide+kernel)) (Ah Tx.nRange (ev 5) ⟨by omega,by omega⟩) (by simp;omega) fun x hx=> ⟨[some (.int (0+x)),some (.int (0+i))],fun X' Oe He is O'=>?_⟩) (by simp;omega)) ?_) Cf.nd)
   ·obtain⟨cl,s',H',fp,rfl⟩:=is
    exact⟨AL 0 Zl (by decide),Bl (ev 0) (ev 1)⟩
   ·refine⟨es++(eW (0+(i:Int)).toNat).map fun(j:Nat)=> (0+(j:Int),0+(i:Int)),some (.int (0+(i:Int))),?_,rfl,fun z hz=>?_,by simp;omega⟩
    ·unfold ES
     rw[fj,fE];rfl
    ·rcases eO.mp hz with hz|hz
     ·exact he z hz
     ·obtain⟨j,hj,rfl⟩:=eQ.mp hz
      have:=fy.mp hj
      show 0≤0+(j:Int)∧0+(j:Int)<0+(i:Int)∧0+(i:Int)<n
      omega
  ·rintro _ _ ⟨es,v5,rfl,rfl,he,hz⟩
   rw[AY] at hz
   have hz:es.length≤256:=by omega
   have n16:n≤16:=by omega
   exact t4 hr xf Tx G po2 w0 n0 n16 he hz q' (fun n2 ps O' a b c=>q 10 ps O' (by decide) (by omega) a b c) Gt
end
end K04
namespace L2.TL
open PySem PySem.Spec PyProof.Rows
theorem OZ:∀{ns:List Int},(∀z∈ns,z.natAbs<10^12)→shBs (ns.map T.int)=true
 | [],_=>rfl
 |n::ns,h=>by
  show(IM (.int n)&&shBs (ns.map T.int))=true
  rw[OZ fun z hz=>h z (eF _ hz),IM,decide_eq_true (h n (eY ..))]
  rfl
theorem Oa:∀{ns:List Int},(∀z∈ns,z.natAbs<10^12)→mx (dTs (ns.map T.int))≤43*ns.length
 | [],_=>dv _
 |n::ns,h=>by
  show PyData.weight (dT (.int n))+1+mx (dTs (ns.map T.int))≤_
  have h1:=Oa fun z hz=>h z (eF _ hz)
  have h2:=Mn (h n (eY ..))
  rw[eD]
  omega
theorem FK:∀{L:List (List Int)},iK (dTs (L.map AK))≤2
 | []=>by simp[dTs,iK]
 |x::L=>by
  have h1:=FK (L:=L)
  have h2:=EV (ns:=x)
  simp only[eT,dTs,iK,AK,dT,PyData.depth]
  omega
section
variable{Z:Zx}{ρ:List (Option T)}{O:AI}{e lo:Expr}{p2 pos:Pos}{ts:List T}{i:Int}
theorem Ur(h:ET Z ρ O e (.lst ts))(h2:ET Z ρ O lo (.int i)):ET Z ρ O (.Subscript e (.Slice (some lo) none none p2) pos) (.lst (BL ts (some i) none)):=fun Φ k=>by
 refine PE.weak (DW JV (BM (ρ:=ρ)) (Dl (BM (ρ:=ρ))) GM) fun σ H0 Q q=>?_
 refine⟨O,_,h (fun t O'=>t=.lst ts∧O'=O) ⟨rfl,rfl⟩,q.1,?_⟩
 rintro v H1 _ _ ⟨rfl,rfl⟩ f1 r1
 refine⟨_,_,h2 (fun t O'=>t=.int i∧O'=_) ⟨rfl,rfl⟩,q.1.step f1,?_⟩
 rintro v2 H2 _ _ ⟨rfl,rfl⟩ f2 r2
 obtain⟨a,xs,rfl,h1,_,r1⟩:=(r1.kp f2.kp f1.ok).lst_inv
 have ff:=f1.trans f2
 exact⟨i,r2.int_inv,a,xs,rfl,.inl (.inl h1),fun l hl=>q.2 _ _ _ _ k (ff.trans (.new ff.ok hl)) (.lst AW (ff.ok.none_of hl) ((r1.cut).kp (BP ff.ok hl) ff.ok))⟩
end
end L2.TL
namespace K04
open PySem L2 L2.TL PySem.Spec PyProof.Rows GrR
section
variable{P:Program}{w:World}{K:a8}{mg:Str→Option Value}{base:Heap}
theorem Us{L:List (List Int)}:iD (dT (.lst (L.map AK))) (dT (.lst []))=L.isEmpty:=by
 cases L<;>rfl
def Vg:Df:=LQ fun ts t=>∃n ps,ts=[BY n ps]∧WebR n ps∧t=Ll (Du ps)
theorem Vh:FnScope ["_law_web","_law_size"] ["_law_web"] (AA GU):=⟨rfl,rfl,rfl,by decide+kernel,rfl,by decide+kernel,by decide+kernel⟩
theorem YK{f:Addr}{fd:fm}(F:Fun K "_law_shortest" "_law_shortest" GU f fd)(Tx:Txt mg)(G:FnT P w K mg base "_law_rings" 2 ["_law_web","_law_size"] YJ):FnOk P w K mg base (CXe P w) 3 f fd ["_law_web"] (EK K Vg):=by
 refine Af F Vh ?_ ?_
 ·rintro ts O Φ Ξ ⟨r,⟨n,ps,rfl,_⟩,_⟩
  rfl
 ·rintro cdv A outer s0 H E O Ξ hr xf _ Φ ⟨_,⟨n,ps,rfl,wr,rfl⟩,q⟩
  have sb:=Bd
  have n0:=wr.n0
  have n1:=wr.n1
  have hw:=wr.wn.hw
  have hu:(A.deeper (jr "_law_shortest" (AA GU) s0.heap.objs.size f cdv)).units+101<cLine:=by have:=hr.un;omega
  refine AD (As Ab.own rfl (EI.wi (CC Tx.nRange AB (Ba (Ae (t:=.int n) (ev 0) AB) AB) (by omega)) ⟨fun j ρ' O'=>∃v1:Option T,O'=O∧ρ'=[some (BY n ps),v1]∧∀s,3≤s→s<3+j→Bq (Gr.Adj ps) (AE ps) s n.toNat=[],⟨none,rfl,rfl,fun s h1 h2=>by omega⟩,?_,?_⟩))
  ·rintro j t _ _ ej ⟨v1,rfl,rfl,hno⟩
   obtain⟨hj,rfl⟩:=Ak ej
   have e3:(3:Int)+(j:Int)=((3+j:Nat):Int):=by omega
   rw[e3]
   refine⟨[some (BY n ps),some (.int ((3+j:Nat):Int))],AL 1 Vh.nd (by show 1<2;decide),?_⟩
   refine AH (Ay (k:=!(Bq (Gr.Adj ps) (AE ps) (3+j) n.toNat).isEmpty) (EB.cast (BF (XZ hu) (Av _) (Xa (t:=.lst ((Bq (Gr.Adj ps) (AE ps) (3+j) n.toNat).map AK)) (u:=.lst []) (by rw[CS];exact JF) (by rw[CS];rfl) (by show iK _+1≤100;have:=FK (L:=Bq (Gr.Adj ps) (AE ps) (3+j) n.toNat);omega)) (BN G (hr.mono (by decide)) xf (AO (ev 0) (AO (ev 1) AC)) ⟨n,ps,3+j,rfl,wr,by omega,by omega,rfl⟩) (BH AC (fB _))) (by rw[Us])) (fun h=>?_) (fun h=>BI ⟨_,rfl,rfl,fun s h1 h2=>?_⟩))
   ·have hne:Bq (Gr.Adj ps) (AE ps) (3+j) n.toNat≠[]:=fun z=>by rw[z] at h;cases h
    have:Du ps=some ((3+j:Nat):Int):=by
     cases e:Du ps with
     |none=>exact absurd (SH hw e (by omega)) hne
     |some m=>
      obtain⟨k,rfl,hk3,hkn,_,_⟩:=BS hw e
      have h1:=(NC hw wr.hp (by omega) e).1
      rcases iu k (3+j) with c|c|c
      ·exact absurd (hno k hk3 c) h1
      ·rw[c]
      ·exact absurd (SI hw e (by omega) (by omega)) hne
    rw[this] at q
    exact AH (AR (ET.we (ev 1) q))
   ·by_cases hs:s=3+j
    ·subst hs
     revert h
     cases Bq (Gr.Adj ps) (AE ps) (3+j) n.toNat with
     |nil=>exact fun _=>rfl
     |cons x l=>intro h;cases h
    ·exact hno s h1 (by omega)
  ·rintro _ _ ⟨v1,rfl,rfl,hno⟩
   rw[AY] at hno
   have:Du ps=none:=by
    cases e:Du ps with
    |none=>rfl
    |some m=>
     obtain⟨k,rfl,hk3,hkn,_,_⟩:=BS hw e
     exact absurd (hno k hk3 (by omega)) (NC hw wr.hp (by omega) e).1
   rw[this] at q
   exact AH (AR (ET.we CJ q))
def Ut(t:T):Prop:=BD t=false∧∀us,t=.tup us→us.length≤900∧∀x∈us,BD x=false
theorem CA{us:List T}(h1:us.length≤900)(h2:∀x∈us,BD x=false):Ut (.tup us):=⟨rfl,fun vs e=>by cases e;exact⟨h1,h2⟩⟩
theorem Ke{t:T}(h1:BD t=false)(h2:HU t=false):Ut t:=⟨h1,fun us e=>by rw[e] at h2;cases h2⟩
theorem FM{r:List Int}:∀x∈r.map T.int,BD x=false:=fun x hx=>by
 obtain⟨i,_,rfl⟩:=eQ.mp hx
 rfl
theorem Sa{r:List Int}(h:r.length≤100):Ut (AK r):=CA (by rw[b6];omega) FM
def Uu(d m:Int):List T:=[.int d,.int m,.int (-1),.bl true,.non,.str "0",.tup [.int 0]]
theorem Uv{d m:Int}:∀t∈Uu d m,BD t=false:=by
 intro t ht
 unfold Uu at ht
 simp only[eJ,fW,or_false] at ht
 rcases ht with rfl|rfl|rfl|rfl|rfl|rfl|rfl<;>rfl
def JL(ds:List Int)(sp:Int)(odd:T):List T:=
 [.tup (BL (ds.map T.int) none (some sp)++[odd]++BL (ds.map T.int) (some (sp+1)) none),.tup (BL (ds.map T.int) none (some sp)++[odd]++BL (ds.map T.int) (some sp) none),.tup (BL (ds.map T.int) none (some sp)++BL (ds.map T.int) (some (sp+1)) none)]
def JM(ds:List Int)(sp:Int):List T:=
 [.tup (BL (ds.map T.int) (some sp) none++BL (ds.map T.int) none (some sp)),.tup (ds.map T.int).reverse,.lst (ds.map T.int),.tup [AK ds],.tup (ds.map T.int++BL (ds.map T.int) none (some 1))]
theorem Uw{ds:List Int}{sp:Int}{odd:T}(hl:ds.length≤100)(ho:BD odd=false):∀t∈JL ds sp odd++JM ds sp++[.non,.int 0],Ut t:=by
 have l1:=fun lo hi=>Nv (us:=ds.map T.int) (lo:=lo) (hi:=hi)
 rw[b6] at l1
 have cm:∀{lo hi u},u∈BL (ds.map T.int) lo hi→BD u=false:=fun hu=>FM _ (UD hu)
 have two:∀{a b c d' u},u∈BL (ds.map T.int) a b++BL (ds.map T.int) c d'→BD u=false:=fun hu=>by
  rcases eO.mp hu with hu|hu
  ·exact cm hu
  ·exact cm hu
 have three:∀{a b c d' u},u∈BL (ds.map T.int) a b++[odd]++BL (ds.map T.int) c d'→BD u=false:=fun hu=>by
  rcases eO.mp hu with hu|hu
  ·rcases eO.mp hu with hu|hu
   ·exact cm hu
   ·rw[dr.mp hu];exact ho
  ·exact cm hu
 have ln3:∀a b c d',(BL (ds.map T.int) a b++[odd]++BL (ds.map T.int) c d').length≤900:=fun a b c d'=>by
  have e1:=l1 a b
  have e2:=l1 c d'
  simp only[eK,eD,fL]
  omega
 have ln2:∀a b c d',(BL (ds.map T.int) a b++BL (ds.map T.int) c d').length≤900:=fun a b c d'=>by
  have e1:=l1 a b
  have e2:=l1 c d'
  simp only[eK]
  omega
 intro t ht
 unfold JL JM at ht
 simp only[j5,mT,eJ,fW,or_false] at ht
 rcases ht with rfl|rfl|rfl|rfl|rfl|rfl|rfl|rfl|rfl|rfl
 ·exact CA (ln3 _ _ _ _) fun u hu=>three hu
 ·exact CA (ln3 _ _ _ _) fun u hu=>three hu
 ·exact CA (ln2 _ _ _ _) fun u hu=>two hu
 ·exact CA (ln2 _ _ _ _) fun u hu=>two hu
 ·exact CA (by rw[j6,b6];omega) fun u hu=>FM u (mB.mp hu)
 ·exact Ke rfl rfl
 ·exact CA (by show 1≤900;decide) fun u hu=>by rw[dr.mp hu];rfl
 ·refine CA (by have:=l1 none (some 1);rw[eK,b6];omega) fun u hu=>?_
  rcases eO.mp hu with hu|hu
  ·exact FM u hu
  ·exact cm hu
 ·exact Ke rfl rfl
 ·exact Ke rfl rfl
def Sb:Df:=fun ts O Φ _=>∃(ds:List Int) (m:Int) (p:Addr) (xs:List T),ts=[AK ds,.int m,.raw (.ref p)]∧ds.length≤100∧(1≤m∧m≤100)∧O p=some xs∧Fl xs∧∀t O',Ut t→PO O p O'→Φ t O'
def dj:List Str:=["_law_ring","_law_many","_law_pen","_law_spot","_law_odd","_law_some"]
theorem Sd:FnScope dj ["_law_ring","_law_many","_law_pen"] (AA Mw):=⟨rfl,rfl,rfl,by decide+kernel,rfl,by decide+kernel,by decide+kernel⟩
theorem Ux{f:Addr}{fd:fm}(F:Fun K "_law_bent" "_law_bent" Mw f fd)(Tx:Txt mg)(G:FnT P w K mg base "_law_draw" 2 ["_law_pen","_law_many"] BA):FnOk P w K mg base (CXe P w) 3 f fd ["_law_ring","_law_many","_law_pen"] (EK K Sb):=by
 refine Nr F Sd ?_ ?_
 ·rintro ts O Φ Ξ ⟨ds,m,p,xs,rfl,_⟩
  rfl
 ·rintro cdv A outer s H E O Ξ hr xf _ Φ ⟨ds,m,p,xs,rfl,hl,hm,hp,px,q⟩
  have sb:=Ad
  have l1:=fun lo hi=>Nv (us:=ds.map T.int) (lo:=lo) (hi:=hi)
  rw[b6] at l1
  have po0:PO O p O:=⟨xs,(Hc hp).symm,px⟩
  have s7:8≤sizeLine:=fo (show 8≤1000 by decide) (iC sb)
  refine An (AM 3 (Ce G hr xf po0 (ev 2) (Ba (Dr Tx.nLen (ev 0)) AB) (by rw[b6];omega) (by rw[b6];omega) fun sp O1 s0 s1 po1=>?_) Sd.nd)
  refine An (AM 4 (Nb Dn (fun _ _=>rfl) (Jp (CQ (Ce G hr xf po1 (ev 2) (ev 1) (by omega) (by omega) fun d O2 d0 d1 po2=>?_)))) Sd.nd)
  refine EA.wa (ts:=[.int m,.int (-1),.bl true,.non,.str "0",.tup [.int 0]]) (AO (ev 1) (AO (HQ AB) (AO El (AO CJ (AO Wt (AO (BU (AO AB AC) (by show 1≤sizeLine;decide)) AC)))))) ⟨fo (show 7≤1000 by decide) (iC sb),Ce G hr xf po2 (ev 2) AB (by decide) (by decide) fun r O3 r0 r1 po3=>?_⟩
  obtain⟨odd,e1,m1⟩:=Ee (L:=Uu d m) r0 r1
  refine Jr (ts:=Uu d m) e1 _ ?_
  have c1:=l1 none (some sp)
  have c2:=l1 (some (sp+1)) none
  have c3:=l1 (some sp) none
  have c4:=l1 none (some 1)
  refine An (AM 5 (ET.we (HET.lst (ts:=JL ds sp odd) ?o1 (fo (show 3≤1000 by decide) (iC sb))).out ?_) Sd.nd)
  case o1=>
   refine .cons ⟨Bj (Bj (Fc (ev 0) (ev 3)) (BU (AO (ev 4) AC) (by show 1≤sizeLine;decide)) (by simp only[eD,fL];omega)) (HX (ev 0) (Ba (ev 3) AB)) (by simp only[eK,eD,fL];omega)⟩ ?_
   refine .cons ⟨Bj (Bj (Fc (ev 0) (ev 3)) (BU (AO (ev 4) AC) (by show 1≤sizeLine;decide)) (by simp only[eD,fL];omega)) (HX (ev 0) (ev 3)) (by simp only[eK,eD,fL];omega)⟩ ?_
   exact .cons ⟨Bj (Fc (ev 0) (ev 3)) (HX (ev 0) (Ba (ev 3) AB)) (by omega)⟩ .nil
  refine An (AM 5 (ET.we (Cc (ev 5) (HET.lst (ts:=JM ds sp) ?o2 (fo (show 5≤1000 by decide) (iC sb))).out (fo (show 8≤1000 by decide) (iC sb))) ?_) Sd.nd)
  case o2=>
   refine .cons ⟨Bj (HX (ev 0) (ev 3)) (Fc (ev 0) (ev 3)) (by omega)⟩ ?_
   refine .cons ⟨XT (ev 0)⟩ ?_
   refine .cons ⟨RC Tx.nList (ev 0)⟩ ?_
   refine .cons ⟨BU (AO (ev 0) AC) (by show 1≤sizeLine;decide)⟩ ?_
   exact .cons ⟨Bj (ev 0) (Fc (ev 0) AB) (by rw[b6];omega)⟩ .nil
  refine Jy (AR (Nb Dn (fun _ _=>rfl) (ET.we (t:=.lst (JL ds sp odd++JM ds sp++[.non,.int 0])) (Cc (ev 5) (BH (AO CJ (AO AB AC)) (by show 2≤sizeLine;decide)) (fo (show 10≤1000 by decide) (iC sb))) (Ce G hr xf po3 (ev 2) AB (by decide) (by decide) fun r O4 r0 r1 po4=>?_))))
  have hlen:(JL ds sp odd++JM ds sp++[T.non,T.int 0]).length=10:=rfl
  obtain⟨t,e2,m2⟩:=Ee (L:=JL ds sp odd++JM ds sp++[.non,.int 0]) r0 (by rw[hlen];exact r1)
  exact Jr e2 _ (q t O4 (Uw hl (Uv odd m1) t m2) po4)
end
def aq(i:Nat):Stmt:=(Aq Ln).getD i (.Pass ⟨0,0,0,0⟩)
def aT:Stmt→Expr
 | .For _ i _ _ _=>i
 |_=> .Constant .none 0 ⟨0,0,0,0⟩
def Uy:Stmt→List Stmt
 | .For _ _ b _ _=>b
 |_=> []
def ar(i:Nat):Stmt:=(Uy (aq 0)).getD i (.Pass ⟨0,0,0,0⟩)
def Se:List Str:=["_law_script","_law_cell","_law_pen","_law_web","_law_size","_law_rings_here","_law_due","_law_drawn","_law_things","_law_thing","_law_found"]
theorem Dk:FnScope Se ["_law_script"] (AA Ln):=⟨rfl,rfl,rfl,by decide+kernel,rfl,by decide+kernel,by decide+kernel⟩
abbrev zL(P:Program)(w:World)(K:a8)(mg:Str→Option Value)(base:Heap)(f:Addr)(cdv:Value)(A:eU)(outer:List Env)(s:a9)(H:Hp)(E:XK):Zx:=zB P w K mg base Se "law" (AA Ln) f cdv A outer s H E VP (fun _ _=>False)
structure Has(P:Program)(w:World)(K:a8)(mg:Str→Option Value)(base:Heap):Prop where
 tx:Txt mg
 gp:FnT P w K mg base "_law_pen_of" 1 ["_law_cell"] VT
 gd:FnT P w K mg base "_law_draw" 2 ["_law_pen","_law_many"] BA
 gb:FnT P w K mg base "_law_names_by" 3 ["_law_pen","_law_many"] Ds
 gy:FnT P w K mg base "_law_web_by" 4 ["_law_pen","_law_most"] OF
 gs:FnT P w K mg base "shortest" 3 ["web"] Gc
 gf:FnT P w K mg base "first_ring" 4 ["web"] OP
 gm:FnT P w K mg base "shortest_many" 4 ["web"] OQ
 gg:FnT P w K mg base "ring_good" 3 ["web","thing"] OU
 lr:FnT P w K mg base "_law_rings" 2 ["_law_web","_law_size"] YJ
 ls:FnT P w K mg base "_law_shortest" 3 ["_law_web"] Vg
 lg:FnT P w K mg base "_law_good" 2 ["_law_web","_law_thing"] OV
 lb:FnT P w K mg base "_law_bent" 3 ["_law_ring","_law_many","_law_pen"] Sb
def Ob(K:a8):Sp:=fun vs H Q _=>∃(a:Addr) (ns:List Int),vs=[.ref a]∧EY K H a (ns.map V.int)∧ns.length≤63∧∀H',Q (.bl true) H'
def cH:BW:=fun t _=>t=.bl true
theorem YL{n:Int}{ps:List (Int×Int)}(n0:1≤n)(n1:n≤12)(hP:∀q∈ps,AV n q)(pw:ps.Pairwise LX):ps.length≤200:=by
 have h:=Gr.KB (n:=192) (L:=ps.map fun p=>p.1*16+p.2) ?_ ?_
 ·rw[b6] at h
  have:(192:Int).toNat=192:=rfl
  omega
 ·rw[jV,hC]
  have:=fv.and_mem.mp pw
  refine this.imp ?_
  rintro a b ⟨ha,hb,h⟩ e
  have h1:=hP a ha
  have h2:=hP b hb
  unfold AV at h1 h2
  unfold LX at h
  omega
 ·intro z hz
  obtain⟨p,hp,rfl⟩:=eQ.mp hz
  have h1:=hP p hp
  unfold AV at h1
  omega
theorem aU{n:Int}{ps:List (Int×Int)}(n0:1≤n)(n1:n≤10)(hP:∀q∈ps,AV n q)(pw:ps.Pairwise LX):WebR n ps:=⟨⟨by omega,by omega,hP,YL n0 (by omega) hP pw⟩,pw,n0,n1⟩
def IU(n:Int)(ps:List (Int×Int)):List (List Int):=match Du ps with
 |none=> []
 |some m=>Bq (Gr.Adj ps) (AE ps) m.toNat n.toNat
theorem YM{n:Int}{ps:List (Int×Int)}(wr:WebR n ps):SN n ps=(IU n ps).head?∧IS n ps=(match Du ps with|none=>0|some m=> ((IU n ps).length:Int)/ (2*m)):=by
 unfold SN IS IU
 cases e:Du ps with
 |none=>exact⟨rfl,rfl⟩
 |some m=>
  obtain⟨k,rfl,_⟩:=BS wr.wn.hw e
  have:=(NC wr.wn.hw wr.hp (by have:=wr.n1;omega) e).2
  show(KW n ps (k:Int)).head?=(Bq (Gr.Adj ps) (AE ps) (k:Int).toNat n.toNat).head?∧((KW n ps (k:Int)).length:Int)/ (2*(k:Int))=((Bq (Gr.Adj ps) (AE ps) (k:Int).toNat n.toNat).length:Int)/ (2*(k:Int))
  rw[fg,this]
  exact⟨rfl,rfl⟩
theorem aV{n:Int}{ps:List (Int×Int)}(wr:WebR n ps):∀r∈IU n ps,r.length≤10∧∀z∈r,0≤z∧z<n:=by
 intro r hr
 unfold IU at hr
 cases e:Du ps with
 |none=>rw[e] at hr;cases hr
 |some m=>
  rw[e] at hr
  obtain⟨k,rfl,h3,hkn,_⟩:=BS wr.wn.hw e
  have hr:r∈Bq (Gr.Adj ps) (AE ps) (k:Int).toNat n.toNat:=hr
  rw[fg] at hr
  obtain⟨h1,h2⟩:=(Cw Dj Cq (Bw wr.wn.hw) h3).mp hr
  exact⟨by have:=wr.n1;omega,GT (Bw wr.wn.hw) h1⟩
theorem YN{n:Int}{ps:List (Int×Int)}(wr:WebR n ps):(IU n ps).length≤3628800:=by
 unfold IU
 cases e:Du ps with
 |none=>exact fB _
 |some m=>
  obtain⟨k,rfl,h3,hkn,_⟩:=BS wr.wn.hw e
  have n1:=wr.n1
  show(Bq (Gr.Adj ps) (AE ps) (k:Int).toNat n.toNat).length≤_
  rw[fg]
  have:=Ex (f:=fun(i:Nat)=>Fj (Gr.Adj ps) (AE ps) k (i:Int)) (m:=362880) (xs:=eW n.toNat) fun i hi=>by
   have hi:=fy.mp hi
   exact fo (jR ..) (FI wr.wn.hw wr.hp n1 (p:=(i:Int)) ⟨by omega,by omega⟩ (by omega))
  rw[gH] at this
  unfold Bq
  omega
theorem Oc:(16000000:Nat)<sizeLine:=by decide
theorem MA{L:List (List Int)}{lo hi:Option Int}:∃M:List (List Int),BL (L.map AK) lo hi=M.map AK∧M.length≤L.length∧∀r∈M,r∈L:=by
 refine⟨(L.drop (HT.BO L.length 0 lo)).take (HT.BO L.length L.length hi-HT.BO L.length 0 lo),?_,?_,fun r hr=>k8 (jW hr)⟩
 ·unfold BL
  rw[b6,nN,nO]
 ·rw[fk,gi]
  omega
theorem Pl{L:List (List Int)}:atI (L.map AK++[T.non]) 0=some (Uh L.head?):=by
 cases L with
 |nil=>exact Ag (j:=0) rfl
 |cons x L=>exact Ag (j:=0) rfl
def sO:Option Int→Str
 |none=> "None"
 |some i=>toString i
def sR:Option (List Int)→Str
 |none=> "None"
 |some r=> (dT (AK r)).shown
section
variable{Z:Zx}{ρ:List (Option T)}{O:AI}{e:Expr}{p pos:Pos}
theorem JN{x:Option Int}(m:Z.X.mg "repr" =none)(h:ET Z ρ O e (Ll x))(hx:∀i,x=some i→0≤i∧i≤1000)(hgl:Gl Z.X "repr")(he:du [e] Z.X.env=(false,eval e Z.X.env)::du [] Z.X.env):ET Z ρ O (.Call (.Name "repr" p) [e] [] pos) (.str (sO x)):=by
 cases x with
 |none=>exact Lh m h hgl he
 |some i=>
  have:=hx i rfl
  exact Hl m h (km (Nat.log2_le_self _) (by omega)) hgl he
theorem JO{x:Option (List Int)}(hg:Z.X.A.guards=some [])(hu:Z.X.A.units+101<cLine)(m:Z.X.mg "repr" =none)(h:ET Z ρ O e (Uh x))(hx:∀r,x=some r→r.length≤20∧∀z∈r,0≤z∧z<100)(hgl:Gl Z.X "repr")(he:du [e] Z.X.env=(false,eval e Z.X.env)::du [] Z.X.env):ET Z ρ O (.Call (.Name "repr" p) [e] [] pos) (.str (sR x)):=by
 cases x with
 |none=>exact Lh m h hgl he
 |some r=>
  obtain⟨h1,h2⟩:=hx r rfl
  have hs:∀z∈r,z.natAbs<10^12:=fun z hz=>by have:=h2 z hz;omega
  refine UJ hg hu m h rfl (by unfold AK;rw[IM];exact OZ hs) ?_ ?_ hgl he
  ·have:=Oa hs
   show mx _≤_
   omega
  ·have:=EV (ns:=r)
   show iK _+1≤100
   omega
end
theorem aW:(Ai ["_law_turn"] [(("_law_pen" :Str),2),(("_law_web" :Str),3)]).Nodup:=by decide+kernel
theorem aX:(Ai ["_law_one"] [(("_law_web" :Str),3),(("_law_pen" :Str),2)]).Nodup:=by decide+kernel
section
variable{P:Program}{w:World}{K:a8}{mg:Str→Option Value}{base:Heap}{f:Addr}{cdv:Value}{A:eU}{outer:List Env}{s:a9}{H:Hp}{E:XK}
abbrev Pm(v0 v1:Option T)(p:Addr)(n:Int)(ps:List (Int×Int))(v5 v6 v7 v8 v9 v10:Option T):List (Option T):=[v0,v1,some (.raw (.ref p)),some (BY n ps),some (Ll (Du ps)),v5,v6,v7,v8,v9,v10]
theorem Pn{O:AI}{v0 v1 v5 v6 v7 v8 v10:Option T}{p:Addr}{n:Int}{ps:List (Int×Int)}{t:T}{Φ:BW}{N Bk Ct:Fy}(B:Has P w K mg base)(hr:Room 5 (zL P w K mg base f cdv A outer s H E).X.A)(xf:XFly (zL P w K mg base f cdv A outer s H E).X (zL P w K mg base f cdv A outer s H E).W)(wr:WebR n ps)(ht:Ut t)
  (k:∀v10,N (Pm v0 v1 p n ps v5 v6 v7 v8 (some t) v10) O):
  HS (zL P w K mg base f cdv A outer s H E) (Pm v0 v1 p n ps v5 v6 v7 v8 (some t) v10) O (Uy (ar 9)) {nx:=N,rt:=Φ,bk:=Bk,ct:=Ct}:=by
 refine An (AM 10 (ET.we (BN B.gg (hr.mono (by decide)) xf (AO (ev 3) (AO (ev 9) AC)) ⟨n,ps,t,rfl,wr.wn,ht.1,ht.2,rfl⟩) ?_) Dk.nd)
 refine Jy (Ay (k:=false) (EW.eb (EW.cast (En (Dd (EN B.tx.nIsi B.tx.nBool RA HV (ev 10) rfl)) fun _=>FY (Qv (ev 10) (BN B.lg (hr.mono (by decide)) xf (AO (ev 3) (AO (ev 9) AC)) ⟨n,ps,t,rfl,ht.1,ht.2,rfl⟩))) (by simp[Jv]))) (fun h=>by cases h) (fun _=>BI (k _)))
theorem MB{O0 O:AI}{v0 v1 v5 v6 v7 v9 v10:Option T}{p:Addr}{n:Int}{ps:List (Int×Int)}{L:List (List Int)}{Φ:BW}(B:Has P w K mg base)(hr:Room 5 (zL P w K mg base f cdv A outer s H E).X.A)(wr:WebR n ps)(po:PO O0 p O)(hL:∀r∈L,r.length≤10)(l1:L.length≤7500000)
  (k:∀ts O',(∀t∈ts,Ut t)→PO O0 p O'→Φ (.lst ts) O'):HWE (zL P w K mg base f cdv A outer s H E) (Pm v0 v1 p n ps v5 v6 v7 (some (.lst (L.map AK))) v9 v10) O (aT (ar 9)) Φ:=by
 have sb:=Oc
 have n0:=wr.n0
 have n1:=wr.n1
 refine⟨DT Gv (DT Gv (ET.we (ev 8) (Fz (nc:=["_law_one"]) (cap:=[("_law_web",3),("_law_pen",2)]) rfl (Bf (AA Ln) Se (by decide+kernel)) (EI.wi (Am (ev 8)) ⟨fun i acc O'=>i≤L.length∧acc.length=i∧(∀t∈acc,Ut t)∧PO O0 p O',⟨by omega,rfl,(fun t ht=>by cases ht),po⟩,?_,?_⟩))))⟩
 ·rintro i t acc O' c e ⟨_,hi,ha,po'⟩ hc
  rw[c9] at e
  cases ec:L[i]? with
  |none=>rw[ec] at e;cases e
  |some r=>
   rw[ec] at e
   cases e
   have hil:=(eB.mp ec).1
   refine⟨[some (AK r),some (BY n ps),some (.raw (.ref p))],fun X' Oe He is=> ⟨?_,Cb (GH fun X' Oe He is=>?_)⟩⟩
   ·obtain⟨cl,s',H',fp,rfl⟩:=is
    exact AL 0 aX (by decide)
   ·obtain⟨cl,s',H',fp,rfl⟩:=is
    obtain⟨ys,hy,py⟩:=po'.at
    have hpc:p≠c:=Jx hy hc
    refine Ar B.lb (hr.mono (by decide)) Bc (EA.wa (AO (ev 0) (AO (Ae (t:=.int n) (ev 1) AB) (AO (ev 2) AC))) ⟨r,n,p,ys,rfl,by have:=hL r (dw ec);omega,by omega,by rw[AQ hpc];exact hy,py,fun t O2 th po2=>?_⟩)
    obtain⟨zs,rfl,pz⟩:=po2
    refine⟨AZ O' p zs,by rw[BK hpc],by rw[AQ (Ne.symm hpc)];exact hc,by omega,by omega,by simp[hi],fun u hu=>?_,po'.step pz⟩
    rcases eO.mp hu with hu|hu
    ·exact ha u hu
    ·rw[dr.mp hu];exact th
 ·rintro acc O' ⟨_,hi,ha,po'⟩
  rw[b6] at hi
  have th0:∀t∈L.map AK,Ut t:=fun t ht=>by
   obtain⟨r,hr',rfl⟩:=eQ.mp ht
   exact Sa (by have:=hL r hr';omega)
  refine Ep (by rw[b6];omega) _ ?_
  refine ET.we (BH (AO (BU AC (fB _)) (AO XU AC)) (by show 2≤sizeLine;decide)) ?_
  refine Ep (by rw[eK,b6];simp only[eD,fL];omega) _ (k _ _ (fun t ht=>?_) po')
  rcases eO.mp ht with ht|ht
  ·rcases eO.mp ht with ht|ht
   ·exact th0 t ht
   ·exact ha t ht
  ·rcases eJ.mp ht with rfl|ht
   ·exact CA (fB _) fun x hx=>by cases hx
   ·rw[dr.mp ht];exact Ke rfl rfl
theorem Uz{O0 O:AI}{v0 v1 v4 v5 v6 v7 v8 v9 v10:Option T}{p:Addr}{n:Int}{ps:List (Int×Int)}{Φ:BW}{N Bk Ct:Fy}(B:Has P w K mg base)(hr:Room 5 (zL P w K mg base f cdv A outer s H E).X.A)(xf:XFly (zL P w K mg base f cdv A outer s H E).X (zL P w K mg base f cdv A outer s H E).W)(wr:WebR n ps)(po:PO O0 p O)
  (k:∀v4 v5 v6 v7 v8 v9 v10 O',PO O0 p O'→N [v0,v1,some (.raw (.ref p)),some (BY n ps),v4,v5,v6,v7,v8,v9,v10] O'):
  HS (zL P w K mg base f cdv A outer s H E) [v0,v1,some (.raw (.ref p)),some (BY n ps),v4,v5,v6,v7,v8,v9,v10] O ((Uy (aq 0)).drop 2) {nx:=N,rt:=Φ,bk:=Bk,ct:=Ct}:=by
 have sb:=Oc
 have n0:=wr.n0
 have n1:=wr.n1
 have hg:(zL P w K mg base f cdv A outer s H E).X.A.guards=some []:=hr.gd
 have hu:(zL P w K mg base f cdv A outer s H E).X.A.units+101<cLine:=by have:=hr.un;omega
 have hsh:∀i,Du ps=some i→0≤i∧i≤1000:=fun i e=>by
  obtain⟨k,rfl,_,hk,_⟩:=BS wr.wn.hw e
  omega
 obtain⟨cf,cm⟩:=YM wr
 have rin:=aV wr
 have rln:=YN wr
 refine An (AM 4 (ET.we (BN B.ls (hr.mono (by decide)) xf (AO (ev 3) AC) ⟨n,ps,rfl,wr,rfl⟩) ?_) Dk.nd)
 have e5:ET (zL P w K mg base f cdv A outer s H E) (Pm v0 v1 p n ps v5 v6 v7 v8 v9 v10) O (match ar 3 with| .Assign _ e _=>e|_=> .Constant .none 0 ⟨0,0,0,0⟩) (.lst ((IU n ps).map AK)):=by
  cases e:Du ps with
  |none=>
   refine ET.cast (Ir (x:=false) (ta:=.non) (tb:=.lst []) (EB.cast (FE DB (ev 4)) (by rw[DA,e];rfl)) (fun h=>by cases h) (fun _=>BH AC (fB _))) ?_
   unfold IU
   rw[e]
   rfl
  |some m=>
   obtain⟨k,rfl,h3,hkn,_⟩:=BS wr.wn.hw e
   refine ET.cast (Ir (x:=true) (ta:=.lst ((Bq (Gr.Adj ps) (AE ps) k n.toNat).map AK)) (tb:=.non) (EB.cast (FE DB (ev 4)) (by rw[DA,e];rfl)) (fun _=>BN B.lr (hr.mono (by decide)) xf (AO (ev 3) (AO (ET.cast (ev 4) (by rw[e];rfl)) AC)) ⟨n,ps,k,rfl,wr,h3,hkn,rfl⟩) (fun h=>by cases h)) ?_
   unfold IU
   rw[e]
   rfl
 refine An (AM 5 (ET.we e5 ?_) Dk.nd)
 refine Hf (k:=false) (EW.eb (EW.cast (En (BF Km (Av _) Mo (JN B.tx.nRepr (BN B.gs (hr.mono (by decide)) xf (AO (ev 3) AC) ⟨n,ps,rfl,wr.wn,rfl⟩) hsh rfl rfl) (JN B.tx.nRepr (ev 4) hsh rfl rfl)) fun _=>FY (BF Km (Av _) Mo (JO (x:=(IU n ps).head?) hg hu B.tx.nRepr (ET.cast (BN B.gf (hr.mono (by decide)) xf (AO (ev 3) AC) ⟨n,ps,rfl,wr,rfl⟩) (by rw[cf])) ?h1 rfl rfl) (JO (x:=(IU n ps).head?) hg hu B.tx.nRepr (CM (Cc (ev 5) (BH (AO CJ AC) (by show 1≤sizeLine;decide)) (by rw[b6];simp only[eD,fL];omega)) AB Pl) ?h2 rfl rfl))) (by simp))) (fun h=>by cases h) fun _=>?_
 case h1=>
  intro r h
  have:=rin r (List.mem_of_head? h)
  exact⟨by omega,fun z hz=>by have:=this.2 z hz;omega⟩
 case h2=>
  intro r h
  have:=rin r (List.mem_of_head? h)
  exact⟨by omega,fun z hz=>by have:=this.2 z hz;omega⟩
 have e6:ET (zL P w K mg base f cdv A outer s H E) (Pm v0 v1 p n ps (some (.lst ((IU n ps).map AK))) v6 v7 v8 v9 v10) O (match ar 5 with| .Assign _ e _=>e|_=> .Constant .none 0 ⟨0,0,0,0⟩) (.int (IS n ps)):=by
  cases e:Du ps with
  |none=>
   refine ET.cast (Ir (x:=false) (ta:=.non) (tb:=.int 0) (EB.cast (FE DB (ev 4)) (by rw[DA,e];rfl)) (fun h=>by cases h) (fun _=>AB)) ?_
   rw[cm,e]
   rfl
  |some m=>
   obtain⟨k,rfl,h3,hkn,_⟩:=BS wr.wn.hw e
   refine ET.cast (Ir (x:=true) (ta:=.int (((IU n ps).length:Int)/ (2*(k:Int)))) (tb:=.non) (EB.cast (FE DB (ev 4)) (by rw[DA,e];rfl)) (fun _=>ET.cast (Em (Nl B.tx.nLen (ev 5)) (Jq AB (ET.cast (ev 4) (by rw[e];rfl)) (.inl ⟨by decide,by decide⟩)) ⟨by omega,by omega⟩) (by rw[b6])) (fun h=>by cases h)) ?_
   rw[cm,e]
   rfl
 have hman:(IS n ps).natAbs.log2<1920:=by
  have:(IS n ps).natAbs<2^63:=by
   rw[cm]
   cases e:Du ps with
   |none=>show(0:Int).natAbs<_;decide
   |some m=>
    obtain⟨k,rfl,h3,hkn,_⟩:=BS wr.wn.hw e
    have h1:(((IU n ps).length:Int)/ (2*(k:Int)))≤((IU n ps).length:Int):=Int.ediv_le_self _ (by omega)
    have h2:0≤(((IU n ps).length:Int)/ (2*(k:Int))):=Int.ediv_nonneg (by omega) (by omega)
    show(((IU n ps).length:Int)/ (2*(k:Int))).natAbs<_
    omega
  by_cases h0:(IS n ps).natAbs=0
  ·rw[h0];decide
  ·exact lE ((oC h0).mpr this) (by decide)
 refine An (AM 6 (ET.we e6 ?_) Dk.nd)
 refine Hf (k:=false) (EB.cast (BF Km (Av _) Mo (Hl B.tx.nRepr (BN B.gm (hr.mono (by decide)) xf (AO (ev 3) AC) ⟨n,ps,rfl,wr,rfl⟩) hman) (Hl B.tx.nRepr (ev 6) hman)) (by simp)) (fun h=>by cases h) fun _=>?_
 clear e5 e6
 refine An (AM 7 (CN B.tx.nTuple (Fz (nc:=["_law_turn"]) (cap:=[("_law_pen",2),("_law_web",3)]) rfl (Bf (AA Ln) Se (by decide+kernel)) (Iu B.tx.nRange (CQ (DT FN (ET.we AB (Ce B.gd (hr.mono (by decide)) xf po (ev 2) AB (by decide) (by decide) fun r O1 r0 r1 po1=>?_))))))) Dk.nd)
 refine HN _ ?_
 refine Al ⟨3+r,rfl,by omega,by omega,fun i acc O'=>i≤10∧∃ds:List Int,acc=ds.map T.int∧ds.length=i∧PO O0 p O',⟨by omega,[],rfl,rfl,po1⟩,?_,?_⟩
 ·rintro i t acc O' c e ⟨_,ds,rfl,hi,po'⟩ hc
  obtain⟨hi2,rfl⟩:=Ak e
  refine⟨[some (.int (0+(i:Int))),some (.raw (.ref p)),some (BY n ps)],fun X' Oe He is=> ⟨?_,Cb (GH fun X' Oe He is=>?_)⟩⟩
  ·obtain⟨cl,s',H',fp,rfl⟩:=is
   exact AL 0 aW (by decide)
  ·obtain⟨cl,s',H',fp,rfl⟩:=is
   exact Br B.gd (hr.mono (by decide)) Bc po' hc (ev 1) (Ae (t:=.int n) (ev 2) AB) (by omega) (by omega) fun r O2 r0 r1 po2 hc2=> ⟨O2,rfl,hc2,by rw[b6];omega,by omega,ds++[r],by simp,by simp[hi],po2⟩
 ·rintro acc O' ⟨h10,ds,rfl,hi,po'⟩
  refine⟨_,rfl,?_⟩
  rw[AY] at h10 hi
  obtain⟨M1,c1,m1,i1⟩:=MA (L:=IU n ps) (lo:=none) (hi:=some 2)
  obtain⟨M2,c2,m2,i2⟩:=MA (L:=IU n ps) (lo:=some (-1)) (hi:=none)
  obtain⟨ys,hy,py⟩:=po'.at
  refine An (AM 8 (DT Gv (ET.we (Cc (ts:=M1.map AK) (us:=M2.map AK) (ET.cast (Xf (ev 5) AB) (by rw[c1])) (ET.cast (Ur (ev 5) (HQ AB)) (by rw[←c2])) (by rw[b6,b6];omega)) (Jp (CQ (ET.we (ev 7) (CQ (Ar B.gb (hr.mono (by decide)) xf (EA.wa (AO (ev 2) (AO (Ae (t:=.int n) (ev 3) AB) AC)) ⟨p,ys,n,rfl,hy,py,by omega,by omega,fun ns xs' pm px'=>Al ⟨by show 2≤sizeLine;decide,?_⟩⟩)))))))) Dk.nd)
  obtain⟨h1,h2,h3⟩:=Hu (n:=n) (by omega) pm
  refine Ep (by rw[eK,b6,b6];simp only[eD,fL];omega) _ ?_
  have po2:=po'.step px'
  have hL:∀r∈M1++M2++[ds,ns],r.length≤10:=fun r hr'=>by
   rcases eO.mp hr' with hr'|hr'
   ·rcases eO.mp hr' with hr'|hr'
    ·exact(rin r (i1 r hr')).1
    ·exact(rin r (i2 r hr')).1
   ·rcases eJ.mp hr' with rfl|hr'
    ·omega
    ·rw[dr.mp hr'];omega
  have hll:(M1++M2++[ds,ns]).length≤7500000:=by
   simp only[eK,eD,fL]
   omega
  have etr:(M1.map AK++M2.map AK++[T.tup (ds.map T.int),T.tup (ns.map T.int)])=(M1++M2++[ds,ns]).map AK:=by
   rw[fj,fj]
   rfl
  rw[etr]
  refine Jy (Nu Ab.own rfl (MB (L:=M1++M2++[ds,ns]) B hr wr po2 hL hll fun ts O2 hts po3=> ⟨ts,rfl,fun i ρ' O3=>∃v9 v10,ρ'=Pm v0 v1 p n ps (some (.lst ((IU n ps).map AK))) (some (.int (IS n ps))) (some (.tup (ds.map T.int))) (some (.lst ((M1++M2++[ds,ns]).map AK))) v9 v10∧O2=O3,⟨_,_,rfl,rfl⟩,?_,?_⟩) (by intro _;rfl))
  ·rintro i t _ _ e ⟨v9,v10,rfl,rfl⟩
   exact⟨_,AL 9 Dk.nd (by show 9<11;decide),(Pn B hr xf wr (hts t (dw e)) fun v10=> ⟨_,_,rfl,rfl⟩)⟩
  ·rintro _ _ ⟨v9,v10,rfl,rfl⟩
   exact k _ _ _ _ _ _ _ _ po3
theorem Sf{O:AI}{v0 v2 v3 v4 v5 v6 v7 v8 v9 v10:Option T}{c:Int}{Φ:BW}{N Bk Ct:Fy}(B:Has P w K mg base)(hr:Room 5 (zL P w K mg base f cdv A outer s H E).X.A)(xf:XFly (zL P w K mg base f cdv A outer s H E).X (zL P w K mg base f cdv A outer s H E).W)
  (k:∀v2 v3 v4 v5 v6 v7 v8 v9 v10 O',N [v0,some (.int c),v2,v3,v4,v5,v6,v7,v8,v9,v10] O'):HS (zL P w K mg base f cdv A outer s H E) [v0,some (.int c),v2,v3,v4,v5,v6,v7,v8,v9,v10] O (Uy (aq 0)) {nx:=N,rt:=Φ,bk:=Bk,ct:=Ct}:=by
 refine An (AM 2 (Ar B.gp (hr.mono (by decide)) xf (EA.wa (AO (ev 1) AC) ⟨c,rfl,fun p xs hp px=>?_⟩)) Dk.nd)
 refine An (AM 3 (Ar B.gy (hr.mono (by decide)) xf (EA.wa (AO (ev 2) (AO AB AC)) ⟨p,xs,10,rfl,AF,px,by decide,by decide,fun n ps O1 n0 n1 hP pw hl po=>?_⟩)) Dk.nd)
 exact Uz B hr xf (aU n0 n1 hP pw) po fun _ _ _ _ _ _ _ _ _=>k _ _ _ _ _ _ _ _ _ _
theorem Sg{ρ:List (Option T)}{a:Addr}{ns:List Int}{Φ:BW}{fC:Addr}{fdC:fm}(hr:Room 5 (zL P w K mg base f cdv A outer s H E).X.A)(xf:XFly (zL P w K mg base f cdv A outer s H E).X (zL P w K mg base f cdv A outer s H E).W)(hS:EY K H a (ns.map V.int))(hn:ns.length≤63)(hρ:ρ[0]?=some (some (.raw (.ref a))))
  (FC:FnOk P w K mg base (CXe P w) 1 fC fdC ["_law_script","_law_k"] (Hr K)) (mC:mg "_law_cell_at" =some (.ref fC)) (kC:jg K (.ref fC)=true) (bC:Binds K fdC ["_law_script","_law_k"] [])
  (k:∀ms:List Int,ms.length≤64→Φ (.lst (ms.map T.int)) VP):HWE (zL P w K mg base f cdv A outer s H E) ρ VP (aT (aq 0)) Φ:=by
 have sb:=Ad
 refine⟨?_⟩
 refine DT Gv ?_
 refine Jp (CQ (RG FC mC kC bC (hr.mono (by decide)) xf (AO (ev 0 hρ) (AO AB AC)) ?_))
 intro σ H1 vs Q as r acc
 obtain⟨v,u,rfl,r1,r2⟩:=r.two_inv
 cases r1.raw_inv
 cases r2.int_inv
 refine⟨a,ns,rfl,VQ as.fr.kp hS,fun c=>acc _ _ _ _ ?_ (.refl as.ok) (.int c)⟩
 refine Al ⟨by show 1≤sizeLine;decide,?_⟩
 refine XY rfl hS (ev 0 hρ) AB AB fun ms hm=>?_
 exact Ep (ts:=[T.int c]) (us:=ms.map T.int) (by simp;omega) _ (k (c::ms) (by simp;omega))
theorem Sh{a:Addr}{ns:List Int}{fC:Addr}{fdC:fm}(B:Has P w K mg base)(hr:Room 5 (zL P w K mg base f cdv A outer s H E).X.A)(xf:XFly (zL P w K mg base f cdv A outer s H E).X (zL P w K mg base f cdv A outer s H E).W)(hS:EY K H a (ns.map V.int))(hn:ns.length≤63)
  (FC:FnOk P w K mg base (CXe P w) 1 fC fdC ["_law_script","_law_k"] (Hr K)) (mC:mg "_law_cell_at" =some (.ref fC)) (kC:jg K (.ref fC)=true) (bC:Binds K fdC ["_law_script","_law_k"] []):HS (zL P w K mg base f cdv A outer s H E) (EO Se [.raw (.ref a)]) VP (Aq Ln) {nx:=fun _ O'=>cH .non O',rt:=cH}:=by
 refine An (Nu Ab.own rfl (Sg hr xf hS hn rfl FC mC kC bC fun ms hm=> ⟨ms.map T.int,rfl,fun i ρ' O'=>∃v1 v2 v3 v4 v5 v6 v7 v8 v9 v10,ρ'=[some (.raw (.ref a)),v1,v2,v3,v4,v5,v6,v7,v8,v9,v10],⟨none,none,none,none,none,none,none,none,none,none,rfl⟩,?_,?_⟩) (by intro _;rfl))
 ·rintro i t _ O1 e ⟨v1,v2,v3,v4,v5,v6,v7,v8,v9,v10,rfl⟩
  rw[c9] at e
  cases ec:ms[i]? with
  |none=>rw[ec] at e;cases e
  |some c=>
   rw[ec] at e
   cases e
   exact⟨[some (.raw (.ref a)),some (.int c),v2,v3,v4,v5,v6,v7,v8,v9,v10],AL 1 Dk.nd (by show 1<11;decide),(Sf B hr xf fun _ _ _ _ _ _ _ _ _ _=> ⟨_,_,_,_,_,_,_,_,_,_,rfl⟩)⟩
 ·rintro _ _ ⟨v1,v2,v3,v4,v5,v6,v7,v8,v9,v10,rfl⟩
  exact Jy (AR (ET.we El rfl))
theorem YO{fd:fm}{fC:Addr}{fdC:fm}(F:Fun K "law" "law" Ln f fd)(B:Has P w K mg base)
  (FC:FnOk P w K mg base (CXe P w) 1 fC fdC ["_law_script","_law_k"] (Hr K)) (mC:mg "_law_cell_at" =some (.ref fC)) (kC:jg K (.ref fC)=true) (bC:Binds K fdC ["_law_script","_law_k"] []):
  FnOk P w K mg base (CXe P w) 6 f fd ["_law_script"] (Ob K):=by
 refine Zd F Dk (fun vs H Q E h=>?_) (fun cdv A outer s H vs Q E hr h=>?_)
 ·obtain⟨a,ns,rfl,_⟩:=h
  rfl
 ·obtain⟨a,ns,rfl,hS,hn,k⟩:=h
  refine⟨[.raw (.ref a)],VP,cH,fun _ _=>False,.cons (.raw _) .nil,RI,fun xf=>Sh B hr xf hS hn FC mC kC bC,fun v H' t O' p f r=>?_,fun cls O' H' z=>z.elim⟩
  have p:t=T.bl true:=p
  subst p
  cases r.bl_inv
  exact k H'
end
end K04
namespace L2.TL
open PySem PySem.Spec PyProof.Rows
structure Fi(K:a8)(x:Str)(st:Stmt)(f:Addr)(fd:fm):Prop where
 F:Fun K x x st f fd
 a:kG K gT x=some (some (.ref f))
def Fx(K:a8)(x:Str)(st:Stmt):Prop:=∃f fd,Fi K x st f fd
def Zn(K:a8)(x:Str):Prop:=kG K gT x=some none
structure Mg(P:Program)(w:World)(K:a8)(mg:Str→Option Value)(base:Heap):Prop where
 mm:∀{x:Str} {v:Value},kG K gT x=some (some v)→mg x=some v
section
variable{P:Program}{w:World}{K:a8}{mg:Str→Option Value}{base:Heap}{x:Str}{st:Stmt}{f:Addr}{fd:fm}{ps:List Str}{k:Nat}
theorem fi{oc:Value}{od:Option Addr}{kV doc pm:Value}{an:Option Addr}{cdv ct:Value}{osl:Array (Option Value)}(a:kG K gT x=some (some (.ref f)))(l:K.lookup f=some ⟨oc,od,.func (j3 x x (Ef st) (Aq st) (AA st) .none kV doc pm an cdv ct),osl⟩)(q:m9 K cdv x=true)(h:jg K (.ref f)=true):
  Fx K x st:=⟨f,_,⟨⟨⟨oc,od,kV,doc,pm,an,cdv,ct,osl,rfl,l,q⟩,h⟩,a⟩⟩
abbrev Bi(x:Str)(st:Stmt)(ps:List Str)(us:List Value):Prop:=∀(kV doc pm:Value) (an:Option Addr) (cdv ct:Value),bindArgs (j3 x x (Ef st) (Aq st) (AA st) .none kV doc pm an cdv ct) ⟨us,[]⟩=pure (ps.zip us)
theorem Fi.b1(h:Fi K x st f fd)(hl:ps.length=1)(q:∀a,Bi x st ps [a]):Binds K fd ps []:=h.F.binds fun _ _ _ _ _ _ us e=>match us,e.trans hl with| [a],_=>q a ..
theorem Fi.b2(h:Fi K x st f fd)(hl:ps.length=2)(q:∀a b,Bi x st ps [a,b]):Binds K fd ps []:=h.F.binds fun _ _ _ _ _ _ us e=>match us,e.trans hl with| [a,b],_=>q a b ..
theorem Fi.b3(h:Fi K x st f fd)(hl:ps.length=3)(q:∀a b c,Bi x st ps [a,b,c]):Binds K fd ps []:=h.F.binds fun _ _ _ _ _ _ us e=>match us,e.trans hl with| [a,b,c],_=>q a b c ..
theorem Fi.b4(h:Fi K x st f fd)(hl:ps.length=4)(q:∀a b c d,Bi x st ps [a,b,c,d]):Binds K fd ps []:=h.F.binds fun _ _ _ _ _ _ us e=>match us,e.trans hl with| [a,b,c,d],_=>q a b c d ..
theorem Fi.t{s:Df}(h:Fi K x st f fd)(M:Mg P w K mg base)(ok:FnOk P w K mg base (CXe P w) k f fd ps (EK K s))(b:Binds K fd ps []):FnT P w K mg base x k ps s:=⟨f,fd,ok,M.mm h.a,h.F.kp,b⟩
end
end L2.TL
namespace K04
open PySem L2 L2.TL
theorem YQ{l:mQ}{w:World}{K:a8}{h:Heap}{mg:Str→Option Value}{fa:Addr}{tLEAST_RING:Tok}(X:K.In h)(G:h.Ns gT mg)(hfa:mg "law" =some (.ref fa))
  (H0:Fx K "is_whole" KH) (H1:Fx K "least_told" KJ) (H2:Fx K "is_place" Mt) (H3:Fx K "are_tied" OB) (H4:Fx K "nears_of" KI) (H5:Fx K "fars_from" JA) (H6:Fx K "ring_good" Hq) (H7:Fx K "ring_by_tie" US) (H8:Fx K "shortest" KL) (H9:Fx K "shortest_rings_from" Xk) (H10:Fx K "rows_longer" UT) (H11:Fx K "first_ring" Mv) (H12:Fx K "shortest_many" KM) (H13:Fx K "_law_cell_at" Rc) (H14:Fx K "_law_next" Re) (H15:Fx K "_law_pen_of" Xl) (H16:Fx K "_law_draw" Rf) (H17:Fx K "_law_whole" KN) (H18:Fx K "_law_named" Fm) (H19:Fx K "_law_names_by" Ez) (H20:Fx K "_law_turned" GV) (H21:Fx K "_law_shape" Bv) (H22:Fx K "_law_web_by" DN) (H23:Fx K "_law_far" Mu) (H24:Fx K "_law_rings" Bm) (H25:Fx K "_law_shortest" GU) (H26:Fx K "_law_good" ER) (H27:Fx K "_law_bent" Mw) (H28:Fx K "law" Ln)
  (zint:Zn K "int") (zbool:Zn K "bool") (ztuple:Zn K "tuple") (zlist:Zn K "list") (zset:Zn K "set") (zrange:Zn K "range") (zisinstance:Zn K "isinstance") (zmax:Zn K "max") (zmin:Zn K "min") (zlen:Zn K "len") (zall:Zn K "all") (zsorted:Zn K "sorted") (zrepr:Zn K "repr") (zValueError:Zn K "ValueError") (zany:Zn K "any") (zenumerate:Zn K "enumerate") (zzip:Zn K "zip") (zsum:Zn K "sum") (vLEAST_RING:kG K gT "LEAST_RING" =some (some (.int 3 tLEAST_RING)))
  :∃fd:fm,(∀(s:a9) (v:Value),om s fd ⟨[v],[]⟩ [("_law_script",v)])∧∀base:Heap,K.In base→base.Ns gT mg→FnOk l.prog w K mg base (CXe l.prog w) 6 fa fd ["_law_script"] (Ob K):=by
 obtain⟨f0,d0,h0⟩:=H0
 obtain⟨f1,d1,h1⟩:=H1
 obtain⟨f2,d2,h2⟩:=H2
 obtain⟨f3,d3,h3⟩:=H3
 obtain⟨f4,d4,h4⟩:=H4
 obtain⟨f5,d5,h5⟩:=H5
 obtain⟨f6,d6,h6⟩:=H6
 obtain⟨f7,d7,h7⟩:=H7
 obtain⟨f8,d8,h8⟩:=H8
 obtain⟨f9,d9,h9⟩:=H9
 obtain⟨f10,d10,h10⟩:=H10
 obtain⟨f11,d11,h11⟩:=H11
 obtain⟨f12,d12,h12⟩:=H12
 obtain⟨f13,d13,h13⟩:=H13
 obtain⟨f14,d14,h14⟩:=H14
 obtain⟨f15,d15,h15⟩:=H15
 obtain⟨f16,d16,h16⟩:=H16
 obtain⟨f17,d17,h17⟩:=H17
 obtain⟨f18,d18,h18⟩:=H18
 obtain⟨f19,d19,h19⟩:=H19
 obtain⟨f20,d20,h20⟩:=H20
 obtain⟨f21,d21,h21⟩:=H21
 obtain⟨f22,d22,h22⟩:=H22
 obtain⟨f23,d23,h23⟩:=H23
 obtain⟨f24,d24,h24⟩:=H24
 obtain⟨f25,d25,h25⟩:=H25
 obtain⟨f26,d26,h26⟩:=H26
 obtain⟨f27,d27,h27⟩:=H27
 obtain⟨f28,d28,h28⟩:=H28
 have e:=hfa.symm.trans (PySem.W.mg_of X G h28.a)
 cases e
 have mm:∀{x:Str} {v:Value},kG K gT x=some (some v)→mg x=some v:=fun e=>PySem.W.mg_of X G e
 have nn:∀{x:Str},Zn K x→mg x=none:=fun e=>PySem.W.mg_none_of X G e
 have Tx:Txt mg:=⟨nn zint,nn zbool,nn ztuple,nn zlist,nn zset,nn zrange,nn zisinstance,nn zmax,nn zmin,nn zlen,nn zall,nn zsorted,nn zrepr,nn zValueError,nn zany,nn zenumerate,nn zzip,nn zsum,⟨tLEAST_RING,mm vLEAST_RING⟩⟩
 refine⟨d28,fun s v=>?_,fun base _ _=>?_⟩
 ·obtain⟨⟨_,_,_,_,_,_,_,_,_,rfl,_⟩,_⟩:=h28.F
  exact .of_eq rfl
 have M:Mg l.prog w K mg base:=⟨mm⟩
 have G0:=h0.t M (Rb h0.F Tx) (h0.b3 rfl fun _ _ _ _ _ _ _ _ _=>rfl)
 have G1:=h1.t M (SC h1.F Tx) (h1.b1 rfl fun _ _ _ _ _ _ _=>rfl)
 have G2:=h2.t M (Ro h2.F G0) (h2.b2 rfl fun _ _ _ _ _ _ _ _=>rfl)
 have G3:=h3.t M (Ud h3.F Tx) (h3.b3 rfl fun _ _ _ _ _ _ _ _ _=>rfl)
 have G4:=h4.t M (Rp h4.F Tx) (h4.b1 rfl fun _ _ _ _ _ _ _=>rfl)
 have G5:=h5.t M (Rt h5.F) (h5.b2 rfl fun _ _ _ _ _ _ _ _=>rfl)
 have G6:=h6.t M (SW h6.F Tx G2 G3) (h6.b2 rfl fun _ _ _ _ _ _ _ _=>rfl)
 have G7:=h7.t M (Xx h7.F Tx G5) (h7.b3 rfl fun _ _ _ _ _ _ _ _ _=>rfl)
 have G8:=h8.t M (SK h8.F G4 G7 G1) (h8.b1 rfl fun _ _ _ _ _ _ _=>rfl)
 have G10:=h10.t M (YB h10.F) (h10.b4 rfl fun _ _ _ _ _ _ _ _ _ _=>rfl)
 have G9:=h9.t M (YD h9.F Tx G5 G10) (h9.b3 rfl fun _ _ _ _ _ _ _ _ _=>rfl)
 have G11:=h11.t M (SO h11.F Tx G8 G4 G9) (h11.b1 rfl fun _ _ _ _ _ _ _=>rfl)
 have G12:=h12.t M (SR h12.F Tx G8 G4 G9) (h12.b1 rfl fun _ _ _ _ _ _ _=>rfl)
 have W13:FnOk l.prog w K mg base (CXe l.prog w) 1 f13 _ _ (Hr K):=UV h13.F Tx
 have G14:=h14.t M (UW h14.F) (h14.b1 rfl fun _ _ _ _ _ _ _=>rfl)
 have G15:=h15.t M (Xn h15.F Tx) (h15.b1 rfl fun _ _ _ _ _ _ _=>rfl)
 have G16:=h16.t M (UX h16.F G14) (h16.b2 rfl fun _ _ _ _ _ _ _ _=>rfl)
 have G17:=h17.t M (Pa h17.F Tx) (h17.b1 rfl fun _ _ _ _ _ _ _=>rfl)
 have G18:=h18.t M (Rm h18.F Tx) (h18.b2 rfl fun _ _ _ _ _ _ _ _=>rfl)
 have G19:=h19.t M (Lq h19.F Tx G16) (h19.b2 rfl fun _ _ _ _ _ _ _ _=>rfl)
 have G20:=h20.t M (Pb h20.F Tx) (h20.b2 rfl fun _ _ _ _ _ _ _ _=>rfl)
 have G21:=h21.t M (SZ h21.F Tx G16 G20) (h21.b2 rfl fun _ _ _ _ _ _ _ _=>rfl)
 have G22:=h22.t M (Pc h22.F Tx G16 G21 G18 G19) (h22.b2 rfl fun _ _ _ _ _ _ _ _=>rfl)
 have G23:=h23.t M (Xs h23.F Tx) (h23.b1 rfl fun _ _ _ _ _ _ _=>rfl)
 have G24:=h24.t M (aS h24.F Tx G23) (h24.b2 rfl fun _ _ _ _ _ _ _ _=>rfl)
 have G25:=h25.t M (YK h25.F Tx G24) (h25.b1 rfl fun _ _ _ _ _ _ _=>rfl)
 have G26:=h26.t M (SX h26.F Tx G17) (h26.b2 rfl fun _ _ _ _ _ _ _ _=>rfl)
 have G27:=h27.t M (Ux h27.F Tx G16) (h27.b3 rfl fun _ _ _ _ _ _ _ _ _=>rfl)
 exact YO h28.F ⟨Tx,G15,G16,G19,G22,G8,G11,G12,G6,G24,G25,G26,G27⟩ W13 (mm h13.a) h13.F.kp (h13.b2 rfl fun _ _ _ _ _ _ _ _=>rfl)
theorem walk{l:mQ}{q:Program}{loose:List Str}{XP:(Str→Option Value)→Heap→Prop}{YP:World→Heap→Prop}{d:DefRec}{K:Params→a8}(hn:l.most=some 63)(hdf:d.params.defaults=[])
  (hY:∀(w:World) (h:Heap),YP w h→(K w.params).In h)
  (F:∀(w:World) (mg:Str→Option Value) (fa:Addr) (h:Heap),(K w.params).In h→h.Ns gT mg→mg d.name=some (.ref fa)→
   ∃fd:fm,(∀(s:a9) (u:Value),om s fd ⟨[u],[]⟩ [("_law_script",u)])∧∀base:Heap,(K w.params).In base→base.Ns gT mg→FnOk l.prog w (K w.params) mg base (CXe l.prog w) 6 fa fd ["_law_script"] (Ob (K w.params))):
  PySem.W.WalkO q loose XP YP l.row.toRowW d [] (fun f vs=>PySem.call f vs):=
 L2.TJ (n:=63) (k:=6) (x:="_law_script") (CX:=fun w=>CXe l.prog w) (sp:=fun w=>Ob (K w.params)) hn (by decide) hdf ⟨rfl,by decide,by decide,rfl⟩ hY F (fun _ _ a ns hl _ hS=> ⟨a,ns,rfl,hS,hl,fun _=>rfl⟩) fun _ _ _ _ _ z=>z.never
end K04
open PySem PySem.W PyProof.Rows
set_option maxRecDepth 100000 in
set_option maxHeartbeats 0 in
theorem PySem.Challenge.cw_noshortring_k04_rings_holds : PySem.Challenge.rw_noshortring_k04_rings.Holds := by
 w_on;o_law
 refine PySem.W.holds_open (q:=K04.kq) (loose:=[]) (Xt:=fun s=>PySem.W.xlAt K04.kq [] s&&PySem.W.recOk [] s) (XP:=PySem.W.XL K04.kq []) (Yf:=fun s=>K04.ka.map s.heap.get?) (Ya:=fun w=> (K04.Kk w.params).map fun(p:Addr×Obj)=>some p.2) (YP:=oB K04.Kk) (N:=1876) K04.left (oB.of fun _=>by kernel_rfl) oB.keeps (fun s e=>xl_of s (Bool.and_eq_true_iff.mp e).1) XL.keeps (by rfl) (by rfl) (by rfl) (fun s e=>recFacts_of (Bool.and_eq_true_iff.mp e).2) (by rfl) (by first|assumption|decide+kernel) (by first|k_qdec|decide+kernel) ⟨rfl,rfl,rfl,rfl,rfl,by decide+kernel⟩ ?hw ?hc
 (case hw=>w_witness2)
 k_fill
 refine K04.walk (l:=PySem.Challenge.rw_noshortring_k04_rings) rfl rfl (fun w h Y=>Y) ?F
 case F=>
  intro w mg fa h KX G hmg
  refine' K04.YQ KX G hmg ?H0 ?H1 ?H2 ?H3 ?H4 ?H5 ?H6 ?H7 ?H8 ?H9 ?H10 ?H11 ?H12 ?H13 ?H14 ?H15 ?H16 ?H17 ?H18 ?H19 ?H20 ?H21 ?H22 ?H23 ?H24 ?H25 ?H26 ?H27 ?H28 ?zint ?zbool ?ztuple ?zlist ?zset ?zrange ?zisinstance ?zmax ?zmin ?zlen ?zall ?zsorted ?zrepr ?zValueError ?zany ?zenumerate ?zzip ?zsum ?vLEAST_RING
  case H0|H1|H2|H3|H4|H5|H6|H7|H8|H9|H10|H11|H12|H13|H14|H15|H16|H17|H18|H19|H20|H21|H22|H23|H24|H25|H26|H27|H28=> (refine' L2.TL.fi ?a ?l ?q ?k;(case a=>k_is);(case l=>k_is);(case q=>k_is);(case k=>k_is))
  case zint|zbool|ztuple|zlist|zset|zrange|zisinstance|zmax|zmin|zlen|zall|zsorted|zrepr|zValueError|zany|zenumerate|zzip|zsum=> (delta L2.TL.Zn;k_is)
  case vLEAST_RING=>k_is
