import PyProof.Rows.All
import Wide.All
import OpenK.AllK
import Wide.FinOn
import Lean
import PyProof.EqAt
import PyProof.EqKinds
import PyProof.TupleCall
import PySem.Challenge.RW_noshortring_k06_whole_rings
noncomputable section
local macro_rules|`(tactic|ac_rfl)=>`(tactic|exact⟨rfl,rfl,rfl,by decide+kernel,rfl,by decide+kernel,by decide+kernel⟩)
open Array renaming length_toList→iq,getElem?_toList→iR,getElem?_eq_some_iff→jw,toList_extract→jE,toList_reverse→j3,toList_append→lA,toList_push→lV,ext'→mP,getD→oW,toList_map→pV,replicate→qo
open Bool renaming false_ne_true→gx,false_eq_true→iK,eq_iff_iff→jW,and_eq_true→ko,not_eq_true'→kz,not_true→m8,not_eq_false'→oV,eq_false_iff→pz,not_false→qF,and_false→qG,true_and→qY
open Classical renaming byContradiction→kv
open False renaming elim→lZ
open ForInStep renaming yield→kU
open Int renaming eq_ofNat_of_zero_le→iE,toNat_natCast→iS,toNat_of_nonneg→kR,le_refl→kT,emod_lt_of_pos→k7,le_trans→lC,emod_nonneg→lN,le_of_lt→lU,zero_add→mW,le_total→mX,min_eq_right→nT,min_eq_left→ot,max_eq_right→pT,max_eq_left→ql,le_antisymm→qm,ediv_one→rQ
open List renaming getElem?_eq_getElem→b6,length_map→c9,getElem?_map→e7,mem_singleton→e9,mem_of_getElem?→hZ,mem_cons→ic,getElem?_eq_some_iff→ie,mem_map→ig,size_toArray→iu,length_cons→iw,mem_cons_of_mem→iy,range→iA,length_append→iB,getD_eq_getElem?_getD→iD,nodup_iff_pairwise_ne→iF,getElem?_append_right→iG,length_take→iH,mem_range→iM,map_cons→iN,mem_append→iO,replicate→iQ,nodup_cons→iT,map_append→iU,mem_cons_self→iV,mem_filter→iX,getElem?_append_left→iY,Pairwise→iZ,getElem?_set_ne→i6,map_map→i7,not_mem_nil→i9,getElem?_set_self→jb,pairwise_map→jc,nodup_append→jd,extract_eq_drop_take→jf,getElem_mem→jg,getElem?_eq_none→jh,take_length→jj,lookup_cons→jk,getElem?_of_mem→jm,pairwise_iff_getElem→jn,take_append_drop→jq,mem_append_right→jr,take_add_one→jt,length_drop→jx,ext_getElem?→jy,reverse_cons→jI,getLast?_cons_cons→jK,all_eq_true→jM,pairwise_lt_range→jP,length_range→jQ,append_assoc→jR,getElem?_drop→jT,filterMap_cons→jU,append_nil→jV,getLast?_eq_some_iff→j4,getD→kc,drop_eq_getElem_cons→ku,length_replicate→kB,length_nil→kH,mem_flatMap→kJ,mem_append_left→kK,getElem?_replicate→kL,length_reverse→kP,getElem?_range→kQ,perm_append_comm→kX,mem_filterMap→k6,mem_of_getLast?→lg,getElem?_cons_succ→lu,getElem_cons_drop→lB,getElem?_take→lH,length_set→lL,Perm→lM,take_sublist→lS,getElem?_take_of_lt→lX,map_congr_left→l8,getElem_of_mem→l9,flatMap_append→ma,pairwise_singleton→mf,length_eq_zero_iff→mh,pairwise_cons→mx,perm_ext_iff_of_nodup→mL,getLast?_append→mM,filter_cons→mU,cons_append→mV,getLast?_eq_getElem?→mY,length_pos_of_mem→nF,head?_eq_getElem?→nG,head?_append→nH,pairwise_reverse→nI,pairwise_flatMap→nJ,length_filter_le→nK,filterMap_append→nL,mem_reverse→nR,getElem_map→nS,pairwise_append→n8,mem_of_mem_take→n9,getElem?_zipIdx→oa,forIn_cons→oq,reverse_append→ow,mem_map_of_mem→oy,map_nil→oC,zip_cons_cons→oR,take_zero→oT,getLast?_cons→oU,foldl_append→pf,flatMap_cons→ph,drop_sublist→pj,map_drop→pJ,zipIdx_cons→pQ,map_reverse→pR,any_eq_true→pS,map_set→p9,range_succ→qi,of_mem_zip→qj,foldl_cons→qk,map_id→qA,forIn_nil→qB,drop_zero→qC,map_take→qX,foldl→rq,toArray→rP
open List.Pairwise renaming imp_of_mem→k9,nil→lT,filter→og,map→pk
open Nat renaming le_refl→hC,lt_of_lt_of_le→iJ,ne_of_lt→iL,zero_le→jl,le_trans→jv,lt_irrefl→jD,lt_succ_of_lt→jO,lt_succ_self→k4,zero_add→k8,lt_trichotomy→lR,ne_of_gt→mw,not_lt_zero→my,le_of_lt→mT,le_of_not_lt→nQ,succ_pos→oB,lt_of_le_of_lt→oQ,lt_of_succ_lt→o9,le_of_succ_le→pe,strongRecOn→qh,add_assoc→qW,mod_lt→rm,succ_add→rM,lt_trans→rN,add_zero→rO
open Option renaming some→i8,isSome→pI,getD_some→pP
open Or renaming inr→oO,inl→pH
open Prod renaming ext→kb,fst→kI
open Prod.mk renaming injEq→qV
open PyProof.Rows renaming wpS_bind→gz,wpS_pure→hV,slot_tuple_getitem→ja,SortSt→ji,wpS_forRange→ju,seqObj→jG,wpS_mono→kr,callWith_type1→kM,envOfC→lE,IntsAre→lI,failedOf→me,wpS_modify→mi,SortKind→mK,wpS_get→ny,get?_update_seq→om,entry_tuple_getitem→ou,AllBare→oD,wpS_lift→oH,slicePart_none→oI,setPending→oJ,assignInOrder_cons→oM,args_tuple_getitem→oN,subscriptTail→pB,listUpdate_at→pC,entry_list_sort→qd,slot_list_sort→qq,seqEpoch_at→qr,args_list_sort→qw,minRun'→qM,tupleItemsOf_→qP,Subscript_→rj,plain_sorted→rz,firstMet→rB,entry_sorted→rC,args_sorted1→rH,kind_sorted→sd
open PyProof.Rows.F renaming plain_set_update_loop→ky
open PyProof.Rows.SortSt renaming mk'→p7
open PySem renaming wpAny_bind→a7,Shared→a9,wpAny_pure→b9,starEach→e8,Spec→il,Around→iC,FuncData→iI,bootBuiltins→i5,wpAny_holding→je,wpAny_newObj_type→js,PyData→jz,compareOp→jB,sizeLine_eq→jC,wpAny_call_entry→jF,wpAny_callSpecial?_slot→jJ,SetTable→jN,foldedSetIterable→jX,wpAny_field→jZ,wpAny_seqItems→j8,mainGlobals→kg,wpAny_setState_of→ki,wpAny_setField_rec→kj,cellsFrom→kA,assignEach→kY,wpAny_truthy_bool→lj,wpAny_rule→lx,codeAny_builtin→ly,backTo→lz,wpAny_passesOwn→lK,codeAny_call_builtin→lO,binaryOp→lP,Builtin→lW,IsPair→lY,mem_of_lookup→l0,wpAny_pyIter_tuple→mj,wpAny_mono→mn,wpAny_attempt→mz,plainId_quiet→mB,sliceBounds→mH,codeAny→mQ,wpAny_standAt→m6,wpAny_Call_Name_kw→ng,pyNext→nh,wpAny_letGo→nu,wpAny_typeOf→nz,wpAny_tryCatch→nA,rawInt→nB,isSubtype_type→nC,wpAny_forIn_list→nM,wpAny_askSetting→nN,swapsWith→nO,wpAny_newList→nU,swapsWithSole→nV,swappedStores→nW,wpAny_updateSeq_pair→nX,wpAny_of_eq→nY,wpAny_loadPart'→oh,wpAny_execs_nil→oi,letOwnedTupleGo→oj,codeAny_mono→oA,pickOrder→oF,PassesOwn→oG,firstArgMember→oK,wpAny_sequenceKey→oX,wpAny_pyIter_list→oY,slot_list_getitem→oZ,ofAClassStatement→o6,getItem→o7,Keyword→pq,wpAny_onRaise→pA,evalPart_none→pD,attributeBase→pE,wpAny_isInstance→pK,wpAny_eqBool_int→pL,noFill_tuple_add→pM,checkBuiltinCall→pN,wpAny_call→pW,argBest→pX,IsPart→qb,wpAny_updateSeq→qc,wpAny_newTuple→qp,pyIter→qt,newFunctionEnv→qu,keywordEach→qv,Operator→qz,slicePick→qH,seqItems?→qJ,seqIndex?→qK,pushCells→qL,callerA→qN,seq_tuple_add→qQ,evalPart_some→qR,frameOf→qT,setEntries→qZ,call_meets→rf,builtinsNs→rh,entryPlaceOf→rE,concat_meets→rF,compEnvC→rG,ZipApart→rJ,Within→rK,BindsTo→rS,scanBound→rT,preSum→rV,Result→rX,Fin→rY,wpAny_Slice→r8,seqIndex_of→r9,backToKw→sv
open PySem.Around renaming under_plainId→lh
open PySem.Builtin.Slice renaming sliceAdjust→jL,slicePlaces→j5,sliceApplied→mO
open PySem.Builtin.SmallTypes renaming nextOf→jo,ownedTupleIsFree→kG
open PySem.Builtin.Tuple renaming tupleExact→ke,tupleItemsOf→mN
open PySem.Challenge renaming pw_noshortring_k06_whole_rings→iW
open PySem.Data renaming cell→qO,fields→sf
open PySem.EntryCells renaming newEntry→oz
open PySem.Expr renaming Call→rZ
open PySem.F renaming slot_tuple_iterator_next→kN,plain_min_loop→lD,slot_zip_next→mG,args_tuple_add_2→m7,called_set→nj,entry_tuple_add→nv,slot_tuple_add→nE,entry_min_loop→pU
open PySem.Heap renaming get?_push_of_some→e6,lt_size→ip,get?_push_size→iz,size_push→jA,get?_update_other→km,SameBut→kO,get?_update_self→lJ,get?_update_ne→mZ,IsSliceOf→qD,ExtBut→qE,FlyingW→rR
open PySem.Heap.SameBut renaming update→md
open PySem.NameKind renaming cell→mF
open PySem.Obj renaming mapSeq→kl,putSet→oP
open PySem.PyData renaming eqv→kh,depthAll→kS,eqvAll→mE
open PySem.SeqAt renaming EqAt→jS,RcNeAt→p8
open PySem.SetTable renaming insertAt→kW,runEnd→mJ,sizeAbove→qI,fill→qS
open PySem.SetTable.below renaming go→su
open PySem.SetTable.probe renaming go→nZ
open PySem.Str renaming ofString→lQ
open PySem.Value renaming none→kZ,type→mq,bool→nP,int→pO,str→rW
open PySem.W renaming Frag→a8,kitOne→iP,openGood→jH,kia_one→j9,kitCls→lF,keepIn→lG,hideAll_get→l7,Looks→mD,nsIn→mR,fnOf→mS,hideAll→m9,of_hideAll→ni,findIn→nD,looks_findIn→n6,methodObj→o8,mroIn→pF,clsIn→pG,instObj→qf,OpenLaw→qg,lookIn→qx,codeIn→qy,recOk→qU,xlAt→rL,InK→se
open PySem.W.Fast renaming te14364793385576792824→jY,tw4187177175401517315→j6,te4187177175401517315→j7
open PySem.pickOrder renaming go→rA
open Sum renaming inr→pZ,inl→p0
open True renaming intro→pY
set_option Elab.async false
set_option linter.all false
set_option maxRecDepth 100000
namespace L2
open PySem PySem.Spec PyProof.Rows
abbrev Ki:=Sum Int Str
def WK:Ki→Value→Bool
 | .inl k,v=>Value.isInt k v
 | .inr x,v=>Value.isStrOf x v
def dR(w:World):Ki→Int
 | .inl k=>hashInt k
 | .inr x=>hashStr w x
theorem Au:∀{k:Ki} {v:Value},WK k v=true→(∃i t,k=p0 i∧v=pO i t)∨(∃x t,k=pZ x∧v=rW x t)
 | .inl i,v,h=>by
  obtain⟨t,e⟩:=Value.isInt_shape (k:=i) (v:=v) h
  exact .inl ⟨i,t,rfl,e⟩
 | .inr x,v,h=>by
  obtain⟨t,e⟩:=Value.isStrOf_shape (x:=x) (v:=v) h
  exact .inr ⟨x,t,rfl,e⟩
theorem Ww(a b:Int):decide ((p0 a:Ki)=p0 b)=(a==b):=by
 by_cases e:a=b
 ·subst e;simp
 ·have h:¬(p0 a:Ki)=p0 b:=fun q=>e (p0.inj q)
  rw[decide_eq_false h]
  exact(beq_eq_false_iff_ne.mpr e).symm
theorem Wx(a b:Str):decide ((pZ a:Ki)=pZ b)=decide (a=b):=by
 by_cases e:a=b
 ·subst e;simp
 ·have h:¬(pZ a:Ki)=pZ b:=fun q=>e (pZ.inj q)
  rw[decide_eq_false h,decide_eq_false e]
theorem Wy(a:Int)(b:Str):decide ((p0 a:Ki)=pZ b)=false:=decide_eq_false (fun q=>nomatch q)
theorem Wz(a:Str)(b:Int):decide ((pZ a:Ki)=p0 b)=false:=decide_eq_false (fun q=>nomatch q)
def JT(prog:Program)(w:World):PySem.KeyKind prog w Ki where
 is:=WK
 hash:=dR w
 inj:=fun v a b ha hb=>by
  rcases Au ha with⟨i,t,rfl,rfl⟩| ⟨x,t,rfl,rfl⟩
  ·rcases Au hb with⟨j,u,rfl,e⟩| ⟨y,u,rfl,e⟩
   ·injection e with e1 _;rw[e1]
   ·exact nomatch e
  ·rcases Au hb with⟨j,u,rfl,e⟩| ⟨y,u,rfl,e⟩
   ·exact nomatch e
   ·injection e with e1 _;rw[e1]
 byValue:=fun k v h=>by
  rcases Au h with⟨i,t,rfl,rfl⟩| ⟨x,t,rfl,rfl⟩<;>rfl
 pyHash:=fun hv h=>by
  rcases Au hv with⟨i,t,rfl,rfl⟩| ⟨x,t,rfl,rfl⟩
  ·exact wpAny_pyHash_int h
  ·exact wpAny_pyHash_str h
 eqBool:=fun hu hv h=>by
  rcases Au hu with⟨i,t,rfl,rfl⟩| ⟨x,t,rfl,rfl⟩
  ·rcases Au hv with⟨j,u,rfl,rfl⟩| ⟨y,u,rfl,rfl⟩
   ·rw[Ww] at h;exact pL h
   ·rw[Wy] at h;exact jS.int_str i t y u _ _ _ _ h
  ·rcases Au hv with⟨j,u,rfl,rfl⟩| ⟨y,u,rfl,rfl⟩
   ·rw[Wz] at h;exact jS.str_int x t j u _ _ _ _ h
   ·rw[Wx] at h;exact wpAny_eqBool_str h
 «strs»:=fun k x t v h=>by
  rcases Au h with⟨i,u,rfl,e⟩| ⟨y,u,rfl,e⟩
  ·exact nomatch e
  ·injection e with e1 _
   subst e1
   cases v<;>rfl
inductive V where
 |non|bl (b:Bool)|int (i:Int)|str (x:Str)|byt (b:Array UInt8)|flt (b:UInt64)|ref (a:Addr)|ty (n:String)
 deriving DecidableEq
def RelV:V→Value→Prop
 | .non,u=>u=kZ
 | .bl b,u=>u=nP b
 | .int i,u=>∃t,u=pO i t
 | .str x,u=>∃t,u=rW x t
 | .byt b,u=>∃t,u=Value.bytes b t
 | .flt b,u=>∃t,u=Value.float b t
 | .ref a,u=>u=Value.ref a
 | .ty n,u=>u=mq n
abbrev Vals:List V→List Value→Prop:=Paired RelV
theorem Vals.length{xs:List V}{us:List Value}(r:Vals xs us):xs.length=us.length:=Paired.length r
theorem Vals.get:∀{xs:List V} {us:List Value} {i:Nat} {x:V},Vals xs us→xs[i]?=some x→∃u,us[i]?=some u∧RelV x u
 |_,_,_,_,.nil,e=>by simp at e
 |_,_,0,_,.cons r _,e=>by simp at e;subst e;exact⟨_,rfl,r⟩
 |_,_,i+1,x,.cons _ t,e=>by
  obtain⟨u,h1,h2⟩:=Vals.get (i:=i) (x:=x) t (by simpa using e)
  exact⟨u,by simpa using h1,h2⟩
theorem Vals.set{x:V}{u:Value}(r:RelV x u):∀{xs:List V} {us:List Value} (i:Nat),Vals xs us→Vals (xs.set i x) (us.set i u)
 |_,_,_,.nil=> .nil
 |_,_,0,.cons _ t=> .cons r t
 |_,_,i+1,.cons q t=> .cons q (Vals.set r i t)
theorem Vals.append:∀{xs ys:List V} {us ws:List Value},Vals xs us→Vals ys ws→Vals (xs++ys) (us++ws)
 |_,_,_,_,.nil,s=>s
 |_,_,_,_,.cons r t,s=> .cons r (Vals.append t s)
theorem Vals.take:∀{xs:List V} {us:List Value} (n:Nat),Vals xs us→Vals (xs.take n) (us.take n)
 |_,_,0,_=> .nil
 |_,_,_+1,.nil=> .nil
 |_,_,n+1,.cons r t=> .cons r (Vals.take n t)
theorem Vals.drop:∀{xs:List V} {us:List Value} (n:Nat),Vals xs us→Vals (xs.drop n) (us.drop n)
 |_,_,0,r=>r
 |_,_,_+1,.nil=> .nil
 |_,_,n+1,.cons _ t=>Vals.drop n t
def UD:Option V→Option Value→Prop
 |some v,some u=>RelV v u
 |none,none=>True
 |_,_=>False
def KV{κ:Type}:List (κ×V)→List (κ×Value)→Prop:=Paired fun(p:κ×V) (q:κ×Value)=>p.1=q.1∧RelV p.2 q.2
def kV:Ki→V
 | .inl i=> .int i
 | .inr x=> .str x
inductive HO where
 /-- a list -/
 | lst (xs:List V)
 /-- a tuple (never changes) -/
 | tup (xs:List V)
 /-- a dict whose keys are ints and texts; one whose keys are tuples of ints and texts (the empty one is both) -/
 | dK (kvs:List (Ki × V)) | dT (kvs:List (List Ki × V))
 /-- a set of ints: its members,its size -/
 | set (S:Int→Bool) (n:Nat)
 /-- an instance of the class at C,its dict at dx,its attributes -/
 | ins (C dx:Addr) (fs:List (Str × V))
 /-- the dict of the instance at x -/
 | own (x:Addr)
 /-- the dict of an exception -/
 | xd (fs:List (Str × V))
 /-- a bound method,f of x -/
 | met (f x:Addr)
 /-- a range object lo,lo + 1,.. below hi -/
 | rng (lo hi:Int)
 /-- a thing that is known to the object (the script; a dict while a loop walks it): read,never written while it is so -/
 | frz (o:Obj) (u:HO)
 /-- a code object's table -/
 | tbl (ps:Array Value)
 /-- any other thing,by what is true of its one object (a def of one's own: SetO a S n:=HO.ext fun h => ..) -/
 | ext (φ:Heap→Prop)
abbrev Hp:=Addr→Option HO
def upd(H:Hp)(a:Addr)(o:HO):Hp:=fun b=>if b=a then some o else H b
theorem AQ{H:Hp}{a:Addr}{o:HO}:upd H a o a=some o:=by unfold upd;rw[if_pos rfl]
theorem AO{H:Hp}{a b:Addr}{o:HO}(h:b≠a):upd H a o b=H b:=by unfold upd;rw[if_neg h]
theorem AK{H:Hp}{a b:Addr}{o:HO}(h:H a=some o)(h':H b=none):a≠b:=by
 intro e;subst e;rw[h] at h';cases h'
section
variable(P:Program)(w:World)
def ObjOk(H:Hp)(h:Heap)(a:Addr):HO→Prop
 | .lst xs=>xs.length≤sizeLine∧∃(its:List Value) (n:Nat),Vals xs its∧h.get? a=some {cls:=.type "list",data:=.seq its.toArray n}
 | .tup xs=>xs.length≤sizeLine∧∃its:List Value,Vals xs its∧IsTup h a its.toArray
 | .dK kvs=>kvs.length≤sizeLine∧(a==sysModules)=false∧∃vs,KV kvs vs∧h.DictOf (JT P w) a vs
 | .dT kvs=>kvs.length≤sizeLine∧(a==sysModules)=false∧∃xs:List (List Ki×Addr×Value),
   Paired (fun(p:List Ki×V) (q:List Ki×Addr×Value)=>p.1=q.1∧H q.2.1=some (.tup (p.1.map kV))∧RelV p.2 q.2.2) kvs xs∧
   ∃o es ep,h.get? a=some o∧o.ExactDict∧o.data=.dict es ep∧es.toList=xs.map (entryOfKey (tupleKind (JT P w)))∧(xs.map (·.1)).Nodup
 | .set S n=>h.SetOf (intKind P w) a S n
 | .ins C dx fs=>H dx=some (.own a)∧fs.length≤1000∧dx≠a∧h.get? a=some (qf C dx)∧
   ∃mA,h.Ns1 dx mA∧(∀f,UD (fs.lookup f) (mA f))∧rK mA (fs.map (·.1))
 | .own _=>∃o,h.get? a=some o
 | .xd fs=>∃mA,h.Ns1 a mA∧∀f,UD (fs.lookup f) (mA f)
 | .rng lo hi=>∃t u v,h.get? a=some {cls:=.type "range",data:=.fields #[.int lo t,.int hi u,.int 1 v]}
 | .frz o u=>h.get? a=some o∧ObjOk H h a u
 | .tbl ps=>h.get? a=some {cls:=.none,data:=.fields ps}
 | .met f x=>h.get? a=some (o8 (.ref f) (.ref x))
 | .ext φ=>φ h∧(∃o,h.get? a=some o)∧∀h1 h2:Heap,φ h1→(∀o,h1.get? a=some o→h2.get? a=some o)→φ h2
def HOk(H:Hp)(h:Heap):Prop:=∀a o,H a=some o→ObjOk P w H h a o
end
section
variable{P:Program}{w:World}{H H':Hp}{h h':Heap}{a:Addr}{o:HO}
theorem ObjOk.lt(x:ObjOk P w H h a o):a<h.objs.size:=by
 cases o with
 |lst xs=>obtain⟨_,_,_,_,e⟩:=x;exact ip e
 |tup xs=>obtain⟨_,_,_,p⟩:=x;exact p.lt
 |dK kvs=>obtain⟨_,_,_,_,o,_,_,e,_⟩:=x;exact ip e
 |dT kvs=>obtain⟨_,_,_,_,o,_,_,e,_⟩:=x;exact ip e
 |set S n=>obtain⟨o,_,_,_,e,_⟩:=x;exact ip e
 |ins C dx fs=>obtain⟨_,_,_,e,_⟩:=x;exact ip e
 |own y=>obtain⟨_,e⟩:=x;exact ip e
 |xd fs=>obtain⟨_,⟨_,_,_,e,_⟩,_⟩:=x;exact ip e
 |rng lo hi=>obtain⟨_,_,_,e⟩:=x;exact ip e
 |frz ob u=>obtain⟨e,_⟩:=x;exact ip e
 |tbl ps=>exact ip (show h.get? a=some _ from x)
 |met f y=>exact ip (show h.get? a=some _ from x)
 |ext φ=>obtain⟨_,⟨_,e⟩,_⟩:=x;exact ip e
theorem Paired.mapP{α β:Type}{F G:α→β→Prop}:∀{l₁:List α} {l₂:List β},Paired F l₁ l₂→(∀a b,F a b→G a b)→Paired G l₁ l₂
 |_,_,.nil,_=> .nil
 |_,_,.cons r t,f=> .cons (f _ _ r) (Paired.mapP t f)
theorem ObjOk.stay(x:ObjOk P w H h a o)(k:∀b u,(b=a∨H b=some (.own a))→h.get? b=some u→h'.get? b=some u)
  (ho:∀b,H b=some (.own a)→H' b=some (.own a)) (ht:∀b xs,H b=some (.tup xs)→H' b=some (.tup xs)):ObjOk P w H' h' a o:=by
 induction o with
 |lst xs=>obtain⟨z,its,n,r,e⟩:=x;exact⟨z,its,n,r,k _ _ (.inl rfl) e⟩
 |tup xs=>obtain⟨z,its,r,ob,e,c⟩:=x;exact⟨z,its,r,ob,k _ _ (.inl rfl) e,c⟩
 |dK kvs=>obtain⟨z,y,vs,r,ob,es,ep,e,c⟩:=x;exact⟨z,y,vs,r,ob,es,ep,k _ _ (.inl rfl) e,c⟩
 |dT kvs=>
  obtain⟨z,y,xs,r,ob,es,ep,e,c⟩:=x
  exact⟨z,y,xs,Paired.mapP r fun p q z=> ⟨z.1,ht _ _ z.2.1,z.2.2⟩,ob,es,ep,k _ _ (.inl rfl) e,c⟩
 |set S n=>obtain⟨ob,es,ep,t,e,c⟩:=x;exact⟨ob,es,ep,t,k _ _ (.inl rfl) e,c⟩
 |ins C dx fs=>
  obtain⟨d,z,ne,e,mA,⟨od,es,ep,e2,c⟩,r⟩:=x
  exact⟨ho _ d,z,ne,k _ _ (.inl rfl) e,mA,⟨od,es,ep,k _ _ (.inr d) e2,c⟩,r⟩
 |own y=>obtain⟨ob,e⟩:=x;exact⟨ob,k _ _ (.inl rfl) e⟩
 |xd fs=>obtain⟨mA,⟨od,es,ep,e,c⟩,r⟩:=x;exact⟨mA,⟨od,es,ep,k _ _ (.inl rfl) e,c⟩,r⟩
 |rng lo hi=>obtain⟨t,u,v,e⟩:=x;exact⟨t,u,v,k _ _ (.inl rfl) e⟩
 |frz ob u ih=>obtain⟨e,q⟩:=x;exact⟨k _ _ (.inl rfl) e,ih q⟩
 |tbl ps=>
  have e:h.get? a=some {cls:=.none,data:=.fields ps}:=x
  show h'.get? a=some {cls:=.none,data:=.fields ps}
  exact k a _ (.inl rfl) e
 |met f y=>
  have e:h.get? a=some (o8 (.ref f) (.ref y)):=x
  show h'.get? a=some (o8 (.ref f) (.ref y))
  exact k a _ (.inl rfl) e
 |ext φ=>obtain⟨p,⟨o,e⟩,st⟩:=x;exact⟨st _ _ p fun o q=>k _ _ (.inl rfl) q,⟨o,k _ _ (.inl rfl) e⟩,st⟩
theorem HOk.lt(x:HOk P w H h)(e:H a=some o):a<h.objs.size:=(x a o e).lt
theorem HOk.fresh(x:HOk P w H h)(e:h.objs.size≤a):H a=none:=by
 cases q:H a with
 |none=>rfl
 |some u=>exact absurd (iJ (x.lt q) e) (jD _)
theorem HOk.kept(x:HOk P w H h)(k:∀b u,h.get? b=some u→h'.get? b=some u):HOk P w H h':=fun a o e=>
 (x a o e).stay (fun b u _ q=>k b u q) (fun _ q=>q) fun _ _ q=>q
theorem HOk.laid(x:HOk P w H h)(k:∀b u,h.get? b=some u→h'.get? b=some u)(hp:h.objs.size≤a)(new:ObjOk P w (upd H a o) h' a o):HOk P w (upd H a o) h':=fun b u e=>by
 have hn:=x.fresh hp
 by_cases hb:b=a
 ·subst hb;rw[AQ] at e;cases e;exact new
 ·rw[AO hb] at e
  exact(x b u e).stay (fun c v _ q=>k c v q) (fun c q=>by rw[AO (AK q hn)];exact q) fun c xs q=>by rw[AO (AK q hn)];exact q
end
def Rd(H:Hp)(a:Addr)(u:HO):Prop:=H a=some u∨∃o,H a=some (.frz o u)
theorem Rd.ok{P:Program}{w:World}{H:Hp}{h:Heap}{a:Addr}{u:HO}(r:Rd H a u)(x:HOk P w H h):ObjOk P w H h a u:=by
 rcases r with r| ⟨o,r⟩
 ·exact x a u r
 ·obtain⟨_,q⟩:=x a _ r
  exact q
def dE:Option HO→Prop
 |some (.lst _)=>True
 |some (.dK _)=>True
 |some (.dT _)=>True
 |some (.set _ _)=>True
 |some (.ins _ _ _)=>True
 |some (.ext _)=>True
 |_=>False
section
variable{P:Program}{w:World}{H:Hp}{h h':Heap}{x e:Addr}{o':HO}
theorem HOk.write(ok:HOk P w H h)(mu:dE (H x))(he:e=x∨H e=some (.own x))(k:∀b u,b≠e→h.get? b=some u→h'.get? b=some u)(heo:∃u,h'.get? e=some u)
  (new:ObjOk P w (upd H x o') h' x o'):HOk P w (upd H x o') h':=fun b u q=>by
 have nown:∀c y,H c=some (.own y)→c≠x:=fun c y r z=>by subst z;rw[r] at mu;exact mu
 have ntup:∀c xs,H c=some (.tup xs)→c≠x:=fun c xs r z=>by subst z;rw[r] at mu;exact mu
 by_cases hb:b=x
 ·subst hb;rw[AQ] at q;cases q;exact new
 ·rw[AO hb] at q
  by_cases hbe:b=e
  ·have q':H b=some (.own x):=by
    rcases he with z|z
    ·exact absurd (hbe.trans z) hb
    ·rw[hbe];exact z
   rw[q] at q';cases q'
   obtain⟨v,hv⟩:=heo
   exact⟨v,by rw[hbe];exact hv⟩
  ·refine(ok b u q).stay (fun c v hc r=>k c v ?_ r) (fun c r=>by rw[AO (nown c b r)];exact r) fun c xs r=>by rw[AO (ntup c xs r)];exact r
   rcases hc with rfl|hc
   ·exact hbe
   ·rintro rfl
    rcases he with z|z
    ·exact nown c b hc z
    ·rw[hc] at z;cases z;exact hb rfl
end
structure Un(fs ex:List Addr)(H H':Hp)(h h':Heap):Prop where
 keep:∀b o,h.get? b=some o→H b=none→b∉fs→b∉ex→h'.get? b=some o
 slot:∀b o,h.get? b=some o→H b=none→b∈fs→b∉ex→∃sl,h'.get? b=some {o with slots:=sl}
 free:∀b o,h.get? b=some o→H b=none→b∉ex→H' b=none
 there:∀b o,h.get? b=some o→b∉ex→∃o',h'.get? b=some o'
 tups:∀b xs,H b=some (.tup xs)→H' b=some (.tup xs)
 frzs:∀b o u,H b=some (.frz o u)→H' b=some (.frz o u)
 tbls:∀b ps,H b=some (.tbl ps)→∃more,H' b=some (.tbl (ps++more))
section
variable{fs fs' ex ex':List Addr}{H H1 H2:Hp}{h h1 h2 h':Heap}{a x e:Addr}{o:HO}
theorem Un.any(u:Un fs ex H H1 h h1){b:Addr}{ob:Obj}(q:h.get? b=some ob)(n:H b=none)(hx:b∉ex):∃sl,h1.get? b=some {ob with slots:=sl}:=by
 by_cases hb:b∈fs
 ·exact u.slot b ob q n hb hx
 ·exact⟨ob.slots,u.keep b ob q n hb hx⟩
theorem Un.kept(k:∀b u,h.get? b=some u→h'.get? b=some u):Un fs ex H H h h':=
 ⟨fun b ob q _ _ _=>k b ob q,fun b ob q _ _ _=> ⟨ob.slots,k b ob q⟩,fun _ _ _ n _=>n,fun b ob q _=> ⟨ob,k b ob q⟩,fun _ _ q=>q,fun _ _ _ q=>q,fun _ ps q=> ⟨#[],by rw[q];simp⟩⟩
theorem Un.refl:Un fs ex H H h h:=Un.kept fun _ _ q=>q
theorem Un.laid(k:∀b u,h.get? b=some u→h'.get? b=some u)(hp:h.objs.size≤a)(hn:H a=none):Un fs ex H (upd H a o) h h' where
 keep:=fun b u q _ _ _=>k b u q
 slot:=fun b u q _ _ _=> ⟨u.slots,k b u q⟩
 free:=fun b u q n _=>by rw[AO (iL (iJ (ip q) hp))];exact n
 there:=fun b u q _=> ⟨u,k b u q⟩
 tups:=fun b xs q=>by rw[AO (AK q hn)];exact q
 frzs:=fun b u xs q=>by rw[AO (AK q hn)];exact q
 tbls:=fun b ps q=> ⟨#[],by rw[AO (AK q hn),q];simp⟩
theorem Un.write(mu:dE (H x))(he:e=x∨H e=some (.own x))(k:∀b u,b≠e→h.get? b=some u→h'.get? b=some u)(heo:∃u,h'.get? e=some u):Un fs ex H (upd H x o) h h':=by
 have hx:∀b,H b=none→b≠x:=fun b n z=>by subst z;rw[n] at mu;exact mu
 have hb:∀b,H b=none→b≠e:=fun b n z=>by
  subst z
  rcases he with r|r
  ·exact hx b n r
  ·rw[n] at r;cases r
 have hm:∀b u,H b=some u→¬dE (some u)→b≠x:=fun b u q nm z=>by subst z;rw[q] at mu;exact nm mu
 refine⟨fun b u q n _ _=>k b u (hb b n) q,fun b u q n _ _=> ⟨u.slots,k b u (hb b n) q⟩,fun b u q n _=>by rw[AO (hx b n)];exact n,fun b u q _=>?_,
  fun b xs q=>by rw[AO (hm b _ q fun z=>z)];exact q,fun b u xs q=>by rw[AO (hm b _ q fun z=>z)];exact q,fun b ps q=> ⟨#[],by rw[AO (hm b _ q fun z=>z),q];simp⟩⟩
 by_cases hbe:b=e
 ·subst hbe;exact heo
 ·exact⟨u,k b u hbe q⟩
end
def dF(h:Heap)(H:Hp):List Addr:=(iA h.objs.size).filter fun a=> (H a).isSome
def JU(h:Heap)(H:Hp):Heap:=m9 h (dF h H)
theorem PD(h:Heap)(H:Hp):(JU h H).objs.size=h.objs.size:=PySem.W.hideAll_size _ _
theorem QS{h:Heap}{H:Hp}{b:Addr}{o:Obj}(e:h.get? b=some o)(n:H b=none):(JU h H).get? b=some o:=
 l7 _ e fun hm=>by
  have q:(H b).isSome=true:=(iX.mp hm).2
  rw[n] at q;simp at q
theorem UE{h:Heap}{H:Hp}{b:Addr}{o:Obj}(e:(JU h H).get? b=some o):h.get? b=some o∧H b=none:=by
 have e':h.get? b=some o:=ni (dF h H) e
 refine⟨e',?_⟩
 cases q:H b with
 |none=>rfl
 |some x=>
  have hm:b∈dF h H:=iX.mpr ⟨iM.mpr (ip e'),by simp[q]⟩
  have z:(JU h H).get? b=none:=PySem.W.hideAll_none (dF h H) hm
  rw[z] at e;cases e
structure Mod(K:a8)(mg:Str→Option Value)(base:Heap):Prop where
 kin:K.In base
 glob:base.Ns kg mg
 blt:∃mb,base.Ns rh mb∧∀x:Str,x≠"__name__"→mb x=i5 x
 nolimit:base.NoLimit
structure Cx where
 prog:Program
 w:World
 K:a8
 mg:Str→Option Value
 base:Heap
 A:iC
 N:List Str
 s₀:a9
 H₀:Hp
 env:Env
 outer:List Env
 stack:List Env
 ex:List Addr
 fn:Str→Bool
 calm:Bool
 pn:List (Addr×Obj)
 xe:Value→a9→Prop
def IL(l:List Env):List Addr:=l.filterMap (·.frame)
abbrev Cx.fs(X:Cx):List Addr:=IL X.outer
def Zo(sc:Scope)(x:Str):Prop:=sc.names.lookup x=some .local∨sc.names.lookup x=some .cell∨sc.names.lookup x=some .free
def QP(sc:Scope)(x:Str):Prop:=sc.names.lookup x=some .local∨sc.names.lookup x=some .cell
def dS(env:Env)(h:Heap)(m:Str→Option Value)(x:Str)(u:Value):Prop:=
 (env.kindOf x=some .local∧m x=some u)∨((env.kindOf x=some .cell∨env.kindOf x=some .free)∧∃c,env.cells.lookup x=some c∧h.IsCell c (some u))
structure Cx.Ok(X:Cx):Prop where
 mod:Mod X.K X.mg X.base
 kind:X.env.scope.kind=.function
 glob:X.env.globals=kg
 blt:X.env.builtins=rh
 above:X.s₀.heap.objs.size≤X.env.locals
 inj:∀x y c,X.env.cells.lookup x=some c→X.env.cells.lookup y=some c→x=y
 has:∀x,(X.env.kindOf x=some .cell∨X.env.kindOf x=some .free)→∃c,X.env.cells.lookup x=some c
 cab:∀x c,X.fn x=true→X.env.cells.lookup x=some c→X.s₀.heap.objs.size≤c
 hd:X.calm=true→X.A.handled=none
 frames:X.A.frames=some X.stack
 stk:X.stack=X.outer∨(X.stack=X.env::X.outer∧X.env.frame=some X.env.locals)
 exf:∀b∈X.ex,b≠X.env.locals∧∀x c,X.env.cells.lookup x=some c→c≠b
 bs:∀b o,X.base.get? b=some o→X.s₀.heap.get? b=some o∧X.H₀ b=none
 bsz:X.base.objs.size≤X.s₀.heap.objs.size
 noex:∀b o,X.base.get? b=some o→b∉X.ex
 exfs:∀b∈X.ex,b∉X.fs
 funs:X.s₀.heap.FunFrames X.base X.outer
 frf:∀b∈X.fs,X.H₀ b=none
structure Inv(X:Cx)(pins:List (Addr×Obj))(σ:List (Option V))(H:Hp)(s:a9):Prop where
 ok:X.Ok
 os:s.os=X.s₀.os
 bare:oD s.gens
 base:Un X.fs X.ex X.H₀ H X.s₀.heap s.heap
 loc:∃m,s.heap.Ns X.env.locals m∧∀(i:Nat) (x:Str) (v:V),X.N[i]?=some x→σ[i]?=some (some v)→Zo X.env.scope x→∃u,RelV v u∧dS X.env s.heap m x u
 cell:∀x c,X.env.cells.lookup x=some c→∃v,s.heap.IsCell c v
 free:H X.env.locals=none
 freeC:∀x c,X.env.cells.lookup x=some c→H c=none
 pin:∀p∈X.pn++pins,s.heap.get? p.1=some p.2∧H p.1=none∧p.1≠X.env.locals∧p.1∉X.fs∧∀v,p.2.data≠.cell v
 hok:HOk X.prog X.w H s.heap
 len:σ.length=X.N.length
section
variable{X:Cx}{pins:List (Addr×Obj)}{σ:List (Option V)}{H H':Hp}{s:a9}{h':Heap}
theorem Cx.Ok.nofr(ok:X.Ok){b:Addr}{o:Obj}(e:X.base.get? b=some o):b∉X.fs:=fun hb=>by
 have:=(ok.funs.mem hb).1
 rw[e] at this;cases this
theorem Inv.bs(I:Inv X pins σ H s):∀b o,X.base.get? b=some o→s.heap.get? b=some o∧H b=none:=fun b o e=>
 ⟨I.base.keep b o (I.ok.bs b o e).1 (I.ok.bs b o e).2 (I.ok.nofr e) (I.ok.noex b o e),I.base.free b o (I.ok.bs b o e).1 (I.ok.bs b o e).2 (I.ok.noex b o e)⟩
theorem Inv.bk(I:Inv X pins σ H s):∀b o,X.base.get? b=some o→s.heap.get? b=some o:=fun b o e=> (I.bs b o e).1
theorem Inv.mod(I:Inv X pins σ H s):Mod X.K X.mg X.base:=I.ok.mod
theorem Inv.kIn(I:Inv X pins σ H s):X.K.In s.heap:=I.ok.mod.kin.keeps I.bk
theorem Inv.lt(I:Inv X pins σ H s):X.env.locals<s.heap.objs.size:=let⟨_,hn,_⟩:=I.loc;hn.lt
theorem Inv.sz(I:Inv X pins σ H s):X.s₀.heap.objs.size≤s.heap.objs.size:=jv I.ok.above (mT I.lt)
theorem Inv.nofs(I:Inv X pins σ H s){a:Addr}(h:s.heap.objs.size≤a):a∉X.fs:=fun hb=>by
 obtain⟨_,o,ho,_⟩:=I.ok.funs.mem hb
 exact absurd (iJ (ip ho) (jv I.sz h)) (jD _)
theorem Inv.cne(I:Inv X pins σ H s):∀x c,X.env.cells.lookup x=some c→c≠X.env.locals:=fun x c e z=>by
 obtain⟨v,o,ho,hd⟩:=I.cell x c e
 obtain⟨m,⟨o',es,ep,ho',hd',_⟩,_⟩:=I.loc
 rw[z,ho'] at ho;cases ho;rw[hd'] at hd;cases hd
theorem Inv.funs(I:Inv X pins σ H s):s.heap.FunFrames X.base X.outer:=by
 have all:∀(l:List Env),(∀b∈IL l,b∈X.fs)→X.s₀.heap.FunFrames X.base l→s.heap.FunFrames X.base l:=by
  intro l
  induction l with
  |nil=>intro _ _;trivial
  |cons env r ih=>
   intro hs hl
   obtain⟨hk,⟨L,o,hf,hn,ho,hd⟩,hr⟩:=hl
   have hL:L∈X.fs:=hs L (by unfold IL;rw[jU,hf];exact iV)
   obtain⟨sl,e⟩:=I.base.slot L o ho (I.ok.frf L hL) hL fun z=>I.ok.exfs L z hL
   exact⟨hk,⟨L,_,hf,hn,e,hd⟩,ih (fun b hb=>hs b (by unfold IL;rw[jU,hf];exact iy _ hb)) hr⟩
 exact all X.outer (fun _ hb=>hb) I.ok.funs
theorem Inv.stack(I:Inv X pins σ H s):s.heap.FunFrames X.base X.stack:=by
 rcases I.ok.stk with e| ⟨e,hf⟩
 ·rw[e];exact I.funs
 ·rw[e]
  obtain⟨m,hn,_⟩:=I.loc
  refine .cons (by rw[I.ok.kind];decide) hf hn ?_ I.funs
  exact Heap.get?_none_of_le (jv I.ok.bsz I.ok.above)
theorem Inv.stkSub(I:Inv X pins σ H s):∀b∈IL X.stack,b∈X.env.locals::X.fs:=fun b hb=>by
 rcases I.ok.stk with e| ⟨e,hf⟩
 ·rw[e] at hb;exact iy _ hb
 ·rw[e] at hb
  unfold IL at hb
  rw[jU,hf] at hb
  exact hb
theorem Inv.stkFree(I:Inv X pins σ H s):∀b∈IL X.stack,H b=none:=fun b hb=>by
 rcases ic.mp (I.stkSub b hb) with e|hb
 ·rw[e];exact I.free
 ·obtain⟨_,o,ho,_⟩:=I.ok.funs.mem hb
  exact I.base.free b o ho (I.ok.frf b hb) fun z=>I.ok.exfs b z hb
theorem Inv.step{g':Array GenState}{t':Nat}{d':Drawn}{ch:List Addr}(I:Inv X pins σ H s)
  (hch:∀b∈ch,(b∈X.ex∨X.s₀.heap.objs.size≤b)∧b≠X.env.locals∧(∀x c,X.env.cells.lookup x=some c→c≠b)∧∀p∈X.pn++pins,p.1≠b)
  (keep:∀b o,b≠X.env.locals→b∉X.fs→b∉ch→s.heap.get? b=some o→H b=none→h'.get? b=some o)
  (slot:∀b o,b≠X.env.locals→b∈X.fs→b∉ch→s.heap.get? b=some o→H b=none→∃sl,h'.get? b=some {o with slots:=sl}) (free:∀b o,b∉ch→s.heap.get? b=some o→H b=none→H' b=none)
  (there:∀b o,b∉ch→s.heap.get? b=some o→∃o',h'.get? b=some o')
  (tups:∀b xs,H b=some (.tup xs)→H' b=some (.tup xs)) (frzs:∀b o u,H b=some (.frz o u)→H' b=some (.frz o u)) (tbls:∀b ps,H b=some (.tbl ps)→∃more,H' b=some (.tbl (ps++more)))
  (ns:∀m,s.heap.Ns X.env.locals m→h'.Ns X.env.locals m) (hok:HOk X.prog X.w H' h') (hg:oD g'):
  Inv X pins σ H' {s with heap:=h',gens:=g',drawn:=d',toks:=t'}:=by
 have neL:∀b o,X.s₀.heap.get? b=some o→b≠X.env.locals:=fun b o e=>iL (iJ (ip e) I.ok.above)
 have neC:∀b o,X.s₀.heap.get? b=some o→b∉X.ex→b∉ch:=fun b o e hx hb=>by
  rcases(hch b hb).1 with z|z
  ·exact hx z
  ·exact absurd (iJ (ip e) z) (jD _)
 have cellK:∀x c,X.env.cells.lookup x=some c→∀v,s.heap.IsCell c v→h'.IsCell c v:=fun x c e v ⟨o,ho,hd⟩=>by
  have nch:c∉ch:=fun z=> (hch c z).2.2.1 x c e rfl
  by_cases hc:c∈X.fs
  ·obtain⟨sl,q⟩:=slot c o (I.cne x c e) hc nch ho (I.freeC x c e)
   exact⟨_,q,hd⟩
  ·exact⟨o,keep c o (I.cne x c e) hc nch ho (I.freeC x c e),hd⟩
 refine⟨I.ok,I.os,hg,⟨fun b o e n hb hx=>?_,fun b o e n hb hx=>?_,fun b o e n hx=>?_,fun b o e hx=>?_,fun b xs e=>tups b xs (I.base.tups b xs e),fun b o xs e=>frzs b o xs (I.base.frzs b o xs e),fun b ps e=>?_⟩,?_,fun x c e=>?_,?_,fun x c e=>?_,fun p hp=>?_,hok,I.len⟩
 ·exact keep b o (neL b o e) hb (neC b o e hx) (I.base.keep b o e n hb hx) (I.base.free b o e n hx)
 ·obtain⟨sl,e1⟩:=I.base.slot b o e n hb hx
  obtain⟨sl',e2⟩:=slot b _ (neL b o e) hb (neC b o e hx) e1 (I.base.free b o e n hx)
  exact⟨sl',e2⟩
 ·obtain⟨o',e1⟩:=I.base.there b o e hx
  exact free b o' (neC b o e hx) e1 (I.base.free b o e n hx)
 ·obtain⟨o',e1⟩:=I.base.there b o e hx
  exact there b o' (neC b o e hx) e1
 ·obtain⟨m1,e1⟩:=I.base.tbls b ps e
  obtain⟨m2,e2⟩:=tbls b _ e1
  exact⟨m1++m2,by rw[e2,Array.append_assoc]⟩
 ·obtain⟨m,hn,hl⟩:=I.loc
  refine⟨m,ns m hn,fun i x v e1 e2 e3=>?_⟩
  obtain⟨u,r,l⟩:=hl i x v e1 e2 e3
  refine⟨u,r,?_⟩
  rcases l with l| ⟨k,c,e,z⟩
  ·exact .inl l
  ·exact .inr ⟨k,c,e,cellK x c e _ z⟩
 ·obtain⟨v,z⟩:=I.cell x c e
  exact⟨v,cellK x c e v z⟩
 ·obtain⟨m,⟨o,_,_,ho,_⟩,_⟩:=I.loc
  exact free _ o (fun z=> (hch _ z).2.1 rfl) ho I.free
 ·obtain⟨v,o,ho,hd⟩:=I.cell x c e
  exact free c o (fun z=> (hch c z).2.2.1 x c e rfl) ho (I.freeC x c e)
 ·obtain⟨e,n,ne,nf,d⟩:=I.pin p hp
  have nch:p.1∉ch:=fun z=> (hch p.1 z).2.2.2 p hp rfl
  exact⟨keep p.1 p.2 ne nf nch e n,free p.1 p.2 nch e n,ne,nf,d⟩
theorem Inv.un{t':Nat}(I:Inv X pins σ H s)(u:Un X.fs [] H H' s.heap h')(hok:HOk X.prog X.w H' h'):Inv X pins σ H' {s with heap:=h',toks:=t'}:=by
 obtain⟨m,⟨o,es,ep,ho,r⟩,_⟩:=id I.loc
 obtain⟨sl,hL⟩:=u.any ho I.free (by simp)
 exact I.step (g':=s.gens) (d':=s.drawn) (ch:=[]) (fun _ z=>nomatch z) (fun b o _ hb _ e n=>u.keep b o e n hb (by simp)) (fun b o _ hb _ e n=>u.slot b o e n hb (by simp)) (fun b o _ e n=>u.free b o e n (by simp)) (fun b o _ e=>u.there b o e (by simp)) u.tups u.frzs u.tbls (fun m' hm=>by
  obtain⟨o',es',ep',ho',r'⟩:=hm
  rw[ho] at ho';cases ho'
  exact⟨_,es',ep',hL,r'⟩) hok I.bare
theorem Inv.call{g':Array GenState}{t':Nat}{d':Drawn}{ch:List Addr}(I:Inv X pins σ H s)(u:Un (IL X.stack) ch H H' s.heap h')(hok:HOk X.prog X.w H' h')(hg:oD g')
  (hch:∀b∈ch,(b∈X.ex∨X.s₀.heap.objs.size≤b)∧b≠X.env.locals∧(∀x c,X.env.cells.lookup x=some c→c≠b)∧∀p∈X.pn++pins,p.1≠b):
  Inv X pins σ H' {s with heap:=h',gens:=g',drawn:=d',toks:=t'}:=by
 obtain⟨m,⟨o,es,ep,ho,r⟩,_⟩:=id I.loc
 obtain⟨sl,hL⟩:=u.any ho I.free fun z=> (hch _ z).2.1 rfl
 exact I.step (ch:=ch) hch (fun b o hL hb hc e n=>u.keep b o e n (fun z=> (ic.mp (I.stkSub b z)).elim hL hb) hc) (fun b o _ _ hc e n=>u.any e n hc) (fun b o hc e n=>u.free b o e n hc) (fun b o hc e=>u.there b o e hc) u.tups u.frzs u.tbls (fun m' hm=>by
  obtain⟨o',es',ep',ho',r'⟩:=hm
  rw[ho] at ho';cases ho'
  exact⟨_,es',ep',hL,r'⟩) hok hg
theorem Inv.turned{t':Nat}{it:Addr}(I:Inv X pins σ H s)(k:∀b o,b≠it→s.heap.get? b=some o→h'.get? b=some o)(hn:H it=none)(hL:it≠X.env.locals)
  (h1:it∈X.ex∨X.s₀.heap.objs.size≤it) (h2:∀x c,X.env.cells.lookup x=some c→c≠it) (h3:∀p∈X.pn++pins,p.1≠it):Inv X pins σ H {s with heap:=h',toks:=t'}:=by
 have nit:∀b u,H b=some u→b≠it:=fun b u e z=>by rw[z,hn] at e;cases e
 refine I.step (g':=s.gens) (d':=s.drawn) (ch:=[it]) (fun b hb=>?_) (fun b o _ _ hc e _=>k b o (fun z=>hc (by simp[z])) e) (fun b o _ _ hc e _=> ⟨o.slots,k b o (fun z=>hc (by simp[z])) e⟩) (fun _ _ _ _ n=>n)
  (fun b o hc e=> ⟨o,k b o (fun z=>hc (by simp[z])) e⟩) (fun _ _ e=>e) (fun _ _ _ e=>e) (fun b ps e=> ⟨#[],by rw[e];simp⟩) (fun m hm=>?_) (fun b u e=>?_) I.bare
 ·have e:b=it:=by simpa using hb
  subst e
  exact⟨h1,hL,h2,h3⟩
 ·obtain⟨o,es,ep,ho,r⟩:=hm
  exact⟨o,es,ep,k _ o (Ne.symm hL) ho,r⟩
 ·refine(I.hok b u e).stay (fun c v hc q=>k c v ?_ q) (fun _ q=>q) fun _ _ q=>q
  rcases hc with z|z
  ·rw[z];exact nit b u e
  ·exact nit c _ z
theorem Inv.tok(I:Inv X pins σ H s)(t:Nat):Inv X pins σ H {s with toks:=t}:=I.un (h':=s.heap) (t':=t) Un.refl I.hok
theorem Inv.kept{t':Nat}(I:Inv X pins σ H s)(k:∀b u,s.heap.get? b=some u→h'.get? b=some u):Inv X pins σ H {s with heap:=h',toks:=t'}:=I.un (Un.kept k) (I.hok.kept k)
theorem Inv.laid{a:Addr}{o:HO}{t':Nat}(I:Inv X pins σ H s)(k:∀b u,s.heap.get? b=some u→h'.get? b=some u)(hp:s.heap.objs.size≤a)(new:ObjOk X.prog X.w (upd H a o) h' a o):
  Inv X pins σ (upd H a o) {s with heap:=h',toks:=t'}:=I.un (Un.laid k hp (I.hok.fresh hp)) (I.hok.laid k hp new)
theorem Inv.write{x e:Addr}{o:HO}{t':Nat}(I:Inv X pins σ H s)(mu:dE (H x))(he:e=x∨H e=some (.own x))(k:∀b u,b≠e→s.heap.get? b=some u→h'.get? b=some u)(heo:∃u,h'.get? e=some u)
  (new:ObjOk X.prog X.w (upd H x o) h' x o):Inv X pins σ (upd H x o) {s with heap:=h',toks:=t'}:=I.un (Un.write mu he k heo) (I.hok.write mu he k heo new)
theorem Inv.weak{σ':List (Option V)}(I:Inv X pins σ H s)(hl:σ'.length=σ.length)(w:∀(i:Nat) v,σ'[i]?=some (some v)→σ[i]?=some (some v)):Inv X pins σ' H s:=
 ⟨I.ok,I.os,I.bare,I.base,let⟨m,hn,hl'⟩:=I.loc;⟨m,hn,fun i x v e1 e2 e3=>hl' i x v e1 (w i v e2) e3⟩,I.cell,I.free,I.freeC,I.pin,I.hok,hl.trans I.len⟩
theorem Inv.pins_of{pins':List (Addr×Obj)}(I:Inv X pins σ H s)(h:∀p∈pins',s.heap.get? p.1=some p.2∧H p.1=none∧p.1≠X.env.locals∧p.1∉X.fs∧∀v,p.2.data≠.cell v):Inv X pins' σ H s:=
 ⟨I.ok,I.os,I.bare,I.base,I.loc,I.cell,I.free,I.freeC,fun p hp=> (iO.mp hp).elim (fun z=>I.pin p (kK _ z)) (h p),I.hok,I.len⟩
theorem Kl{N:List Str}(hN:N.Nodup){i j:Nat}{x:Str}(a:N[i]?=some x)(b:N[j]?=some x):i=j:=by
 obtain⟨h1,e1⟩:=ie.mp a
 obtain⟨h2,e2⟩:=ie.mp b
 exact(List.getElem_inj hN).mp (e1.trans e2.symm)
theorem Ia{M:Model}{A:iC}{E:Value→a9→Prop}{i:Nat}{x:Str}{v:V}{u:Value}{Q:Unit→a9→Prop}(I:Inv X pins σ H s)(hN:X.N.Nodup)(hi:X.N[i]?=some x)(hx:QP X.env.scope x)(r:RelV v u)
  (h:∀s',Inv X pins (σ.set i (some v)) H s'→(∃a,kO a s.heap s'.heap∧(a=X.env.locals∨X.env.cells.lookup x=some a))→Q () s') (hf:X.fn x=true∨X.env.scope.names.lookup x=some .local:=by first|exact .inl rfl|exact .inr rfl|assumption):wpAny M A (storeName X.env x u) Q E s:=by
 obtain⟨m,hn,hl⟩:=id I.loc
 have hcls:(X.env.scope.kind==.class|| (X.env.scope.kind==.module&&X.env.locals !=X.env.globals))=false:=by rw[I.ok.kind];rfl
 have hiσ:i<σ.length:=by rw[I.len];exact(ie.mp hi).1
 have cne:=I.cne
 have tracked:∀{a:Addr} {h':Heap},(∃o,s.heap.get? a=some o∧H a=none)→kO a s.heap h'→HOk X.prog X.w H h':=fun{a h'} ha hs b ob e=>by
  obtain⟨_,_,hfree⟩:=ha
  refine(I.hok b ob e).stay (fun c w' hc q=> (hs.2 c ?_).trans q) (fun _ q=>q) fun _ _ q=>q
  rintro rfl
  rcases hc with rfl|hc
  ·rw[hfree] at e;cases e
  ·rw[hfree] at hc;cases hc
 rcases hx with hk|hk
 ·refine wpAny_storeName_local hk hn (fun h' hn' hs=>?_) hcls
  obtain⟨oL,_,_,hoL,_⟩:=id hn
  refine h _ ⟨I.ok,I.os,I.bare,⟨fun b o e n hb hx=>?_,fun b o e n hb hx=>?_,I.base.free,fun b o e hx=>?_,I.base.tups,I.base.frzs,I.base.tbls⟩,⟨_,hn',fun j y v' e1 e2 e3=>?_⟩,fun y c e=>?_,I.free,I.freeC,fun p hp=>?_,tracked ⟨oL,hoL,I.free⟩ hs,by simpa using I.len⟩ ⟨_,hs,.inl rfl⟩
  ·exact(hs.2 b (iL (iJ (ip e) I.ok.above))).trans (I.base.keep b o e n hb hx)
  ·obtain⟨sl,e1⟩:=I.base.slot b o e n hb hx
   exact⟨sl,(hs.2 b (iL (iJ (ip e) I.ok.above))).trans e1⟩
  ·obtain⟨o',e1⟩:=I.base.there b o e hx
   exact⟨o',(hs.2 b (iL (iJ (ip e) I.ok.above))).trans e1⟩
  ·by_cases hj:j=i
   ·subst hj
    rw[hi] at e1;cases e1
    rw[jb hiσ] at e2
    cases e2
    exact⟨u,r,.inl ⟨hk,by simp⟩⟩
   ·rw[i6 (Ne.symm hj)] at e2
    obtain⟨u',r',q⟩:=hl j y v' e1 e2 e3
    refine⟨u',r',?_⟩
    rcases q with⟨k,e⟩| ⟨k,c,e,z⟩
    ·refine .inl ⟨k,?_⟩
     have:y≠x:=fun e=>hj (Kl hN e1 (e▸hi))
     simp[this,e]
    ·exact .inr ⟨k,c,e,z.sameBut hs (cne y c e)⟩
  ·obtain⟨w',z⟩:=I.cell y c e
   exact⟨w',z.sameBut hs (cne y c e)⟩
  ·obtain⟨e,n,ne,nf,d⟩:=I.pin p hp
   exact⟨(hs.2 p.1 ne).trans e,n,ne,nf,d⟩
 ·have hfn:X.fn x=true:=by
   rcases hf with z|z
   ·exact z
   ·rw[z] at hk;cases hk
  obtain⟨c,hc⟩:=I.ok.has x (.inl hk)
  obtain⟨w',z⟩:=I.cell x c hc
  refine wpAny_storeName_cell I.ok.kind hk hc z (fun h' hc' hs=>?_)
  obtain⟨oc,hoc,hocd⟩:=id z
  refine h {s with heap:=h'} ⟨I.ok,I.os,I.bare,⟨fun b o e n hb hx=>?_,fun b o e n hb hx=>?_,I.base.free,fun b o e hx=>?_,I.base.tups,I.base.frzs,I.base.tbls⟩,⟨m,hn.sameBut hs (Ne.symm (cne x c hc)),fun j y v' e1 e2 e3=>?_⟩,fun y c' e=>?_,I.free,I.freeC,fun p hp=>?_,tracked ⟨oc,hoc,I.freeC x c hc⟩ hs,by simpa using I.len⟩ ⟨c,hs,.inr hc⟩
  ·exact(hs.2 b (iL (iJ (ip e) (I.ok.cab x c hfn hc)))).trans (I.base.keep b o e n hb hx)
  ·obtain⟨sl,e1⟩:=I.base.slot b o e n hb hx
   exact⟨sl,(hs.2 b (iL (iJ (ip e) (I.ok.cab x c hfn hc)))).trans e1⟩
  ·obtain⟨o',e1⟩:=I.base.there b o e hx
   exact⟨o',(hs.2 b (iL (iJ (ip e) (I.ok.cab x c hfn hc)))).trans e1⟩
  ·by_cases hj:j=i
   ·subst hj
    rw[hi] at e1;cases e1
    rw[jb hiσ] at e2
    cases e2
    exact⟨u,r,.inr ⟨.inl hk,c,hc,hc'⟩⟩
   ·rw[i6 (Ne.symm hj)] at e2
    obtain⟨u',r',q⟩:=hl j y v' e1 e2 e3
    refine⟨u',r',?_⟩
    rcases q with q| ⟨k,c',e,z'⟩
    ·exact .inl q
    ·refine .inr ⟨k,c',e,z'.sameBut hs ?_⟩
     rintro rfl
     exact hj (Kl hN e1 (I.ok.inj _ _ _ e hc▸hi))
  ·by_cases hcc:c'=c
   ·subst hcc;exact⟨_,hc'⟩
   ·obtain⟨w2,z2⟩:=I.cell y c' e
    exact⟨w2,z2.sameBut hs hcc⟩
  ·obtain⟨e,n,ne,nf,d⟩:=I.pin p hp
   refine⟨(hs.2 p.1 ?_).trans e,n,ne,nf,d⟩
   intro q
   rw[q,hoc] at e
   have q':oc=p.2:=i8.inj e
   exact d w' (by rw[←q'];exact hocd)
theorem DU{M:Model}{A:iC}{E:Value→a9→Prop}{i:Nat}{x:Str}{v:V}{u:Value}{Q:Unit→a9→Prop}(I:Inv X pins σ H s)(hN:X.N.Nodup)(hi:X.N[i]?=some x)(hx:QP X.env.scope x)(r:RelV v u)
  (h:∀s',Inv X pins (σ.set i (some v)) H s'→Q () s') (hf:X.fn x=true∨X.env.scope.names.lookup x=some .local:=by first|exact .inl rfl|exact .inr rfl|assumption):wpAny M A (storeName X.env x u) Q E s:=
 Ia I hN hi hx r (fun s' I' _=>h s' I') hf
theorem Inv.call'{s':a9}{ch:List Addr}(I:Inv X pins σ H s)(ho:s'.os=s.os)(u:Un (IL X.stack) ch H H' s.heap s'.heap)(hok:HOk X.prog X.w H' s'.heap)(hg:oD s'.gens)
  (hch:∀b∈ch,(b∈X.ex∨X.s₀.heap.objs.size≤b)∧b≠X.env.locals∧(∀x c,X.env.cells.lookup x=some c→c≠b)∧∀p∈X.pn++pins,p.1≠b):Inv X pins σ H' s':=by
 obtain⟨h',g',d',t',o'⟩:=s'
 have e:o'=s.os:=ho
 subst e
 exact I.call (g':=g') (t':=t') (d':=d') u hok hg hch
end
abbrev XK:=Value→Option Addr→Hp→Prop
abbrev St:=List (Option V)
abbrev VK:=V→Hp→Prop
abbrev TE:=St→Hp→VK→Prop
abbrev TT:=St→Hp→(Bool→Hp→Prop)→Prop
abbrev TA:=St→Hp→(List V→Hp→Prop)→Prop
structure Ends where
 nx:St→Hp→Prop
 rt:VK
 bk:St→Hp→Prop:=fun _ _=>False
 ct:St→Hp→Prop:=fun _ _=>False
abbrev TS:=Ends→St→Hp→Prop
def EP(X:Cx)(pins:List (Addr×Obj))(σ:St)(Q:VK)(u:Value)(s':a9):Prop:=∃v H',Inv X pins σ H' s'∧RelV v u∧Q v H'
def TP(X:Cx)(pins:List (Addr×Obj))(σ:St)(Q:Bool→Hp→Prop)(b:Bool)(s':a9):Prop:=∃H',Inv X pins σ H' s'∧Q b H'
def AP(X:Cx)(pins:List (Addr×Obj))(σ:St)(Q:List V→Hp→Prop)(us:List Value)(s':a9):Prop:=∃vs H',Inv X pins σ H' s'∧Vals vs us∧Q vs H'
def SP(X:Cx)(pins:List (Addr×Obj))(D:Ends)(f:Flow)(s':a9):Prop:=
 match f with
 | .next=>∃σ' H',Inv X pins σ' H' s'∧D.nx σ' H'
 | .brk=>∃σ' H',Inv X pins σ' H' s'∧D.bk σ' H'
 | .cont=>∃σ' H',Inv X pins σ' H' s'∧D.ct σ' H'
 | .ret u=>∃v σ' H',Inv X pins σ' H' s'∧RelV v u∧D.rt v H'
def PE(X:Cx)(e:Expr)(t:TE):Prop:=
 ∀(pins:List (Addr×Obj)) (s:a9) (σ:St) (H:Hp) (Q:VK),Inv X pins σ H s→t σ H Q→wpAny (model X.prog X.w) X.A (eval e X.env) (EP X pins σ Q) X.xe s
def PT(X:Cx)(e:Expr)(t:TT):Prop:=
 ∀(pins:List (Addr×Obj)) (s:a9) (σ:St) (H:Hp) (Q:Bool→Hp→Prop),Inv X pins σ H s→t σ H Q→wpAny (model X.prog X.w) X.A (isTrue e X.env (eval e X.env)) (TP X pins σ Q) X.xe s
def PW(X:Cx)(e:Expr)(t:TT):Prop:=
 ∀(whole:Sem Value) (pins:List (Addr×Obj)) (s:a9) (σ:St) (H:Hp) (Q:Bool→Hp→Prop),Inv X pins σ H s→t σ H Q→wpAny (model X.prog X.w) X.A (isTrue e X.env whole) (TP X pins σ Q) X.xe s
theorem PW.pt{X:Cx}{e:Expr}{t:TT}(h:PW X e t):PT X e t:=h _
def PA(X:Cx)(es:List Expr)(t:TA):Prop:=
 ∀(pos:Pos) (pins:List (Addr×Obj)) (s:a9) (σ:St) (H:Hp) (Q:List V→Hp→Prop),Inv X pins σ H s→t σ H Q→wpAny (model X.prog X.w) X.A (spliced (lz pos (e8 es X.env))) (AP X pins σ Q) X.xe s
def PS(X:Cx)(st:Stmt)(t:TS):Prop:=
 ∀(pins:List (Addr×Obj)) (s:a9) (σ:St) (H:Hp) (D:Ends),Inv X pins σ H s→t D σ H→wpAny (model X.prog X.w) X.A (exec st X.env) (SP X pins D) X.xe s
def PSs(X:Cx)(st:List Stmt)(t:TS):Prop:=
 ∀(pins:List (Addr×Obj)) (s:a9) (σ:St) (H:Hp) (D:Ends),Inv X pins σ H s→t D σ H→wpAny (model X.prog X.w) X.A (execs st X.env) (SP X pins D) X.xe s
theorem Aw{α:Type}{t:Sem α}{Q Q':α→a9→Prop}{M:Model}{A:iC}{E:Value→a9→Prop}{s:a9}(h:wpAny M A t Q E s)(hQ:∀a s,Q a s→Q' a s):wpAny M A t Q' E s:=mn h hQ fun _ _ x=>x
section
variable{X:Cx}
def Zs(i:Nat):TE:=fun σ H Q=>∃v,σ[i]?=some (some v)∧Q v H
def tC(v:V):TE:=fun _ H Q=>Q v H
theorem QT{i:Nat}{x:Str}{pos:Pos}(hN:X.N[i]?=some x)(hv:Zo X.env.scope x)(hd:(x==("__debug__" :Str))=false:=by decide)(hcd:(x==("__classdict__" :Str))=false:=by decide):PE X (.Name x pos) (Zs i):=by
 intro pins s σ H Q I h
 obtain⟨v,e,h⟩:=h
 obtain⟨m,hn,hl⟩:=I.loc
 obtain⟨u,r,l⟩:=hl i x v hN e hv
 have fin:EP X pins σ Q u s:=⟨v,H,I,r,h⟩
 rcases l with⟨hk,hm⟩| ⟨hk,c,hc,hcell⟩
 ·exact wpAny_Name (wpAny_loadName_local I.ok.kind hk hn hm fin) hd
 ·rcases hk with hk|hk
  ·exact wpAny_Name (wpAny_loadName_cell I.ok.kind hk hc hcell fin) hd
  ·exact wpAny_Name (wpAny_loadName_free I.ok.kind hk hc hcell fin hcd) hd
theorem JV{i j pos}:PE X (.Constant (.int i) j pos) (tC (.int i)):=fun _ _ _ H _ I h=>wpAny_Constant_int ⟨.int i,H,I.tok _,⟨_,rfl⟩,h⟩
theorem Zt{b j pos}:PE X (.Constant (.bool b) j pos) (tC (.bl b)):=fun _ _ _ H _ I h=>Constant_bool ⟨.bl b,H,I,rfl,h⟩
theorem XA{j pos}:PE X (.Constant .none j pos) (tC .non):=fun _ _ _ H _ I h=>Constant_none ⟨.non,H,I,rfl,h⟩
def Gl(X:Cx)(x:Str):Prop:=X.env.kindOf x=some .globalImplicit
theorem Nf{E:Value→a9→Prop}{pins:List (Addr×Obj)}{s:a9}{σ:St}{H:Hp}{x:Str}{u:Value}{pos:Pos}{Q:Value→a9→Prop}(I:Inv X pins σ H s)(hg:Gl X x)(hm:X.mg x=some u)(h:Q u s)
  (hd:(x==("__debug__" :Str))=false:=by decide):wpAny (model X.prog X.w) X.A (eval (.Name x pos) X.env) Q E s:=
 Calls.Name_function_global I.ok.kind hg (Calls.loadGlobal_global (by rw[I.ok.glob];exact I.mod.glob.keeps I.bk) hm h) hd
theorem DV{E:Value→a9→Prop}{pins:List (Addr×Obj)}{s:a9}{σ:St}{H:Hp}{x:Str}{u:Value}{pos:Pos}{Q:Value→a9→Prop}(I:Inv X pins σ H s)(hg:Gl X x)(hm:X.mg x=none)(hv:i5 x=some u)(h:Q u s)
  (hn:x≠"__name__":=by decide) (hd:(x==("__debug__" :Str))=false:=by decide):wpAny (model X.prog X.w) X.A (eval (.Name x pos) X.env) Q E s:=by
 obtain⟨mb,h1,h2⟩:=I.mod.blt
 exact Calls.Name_function_global I.ok.kind hg (Calls.loadGlobal_builtin (by rw[I.ok.glob];exact I.mod.glob.keeps I.bk) hm (by rw[I.ok.blt];exact h1.keeps I.bk) ((h2 x hn).trans hv) h) hd
theorem UF{x:Str}{v:V}{u:Value}{pos:Pos}(hg:Gl X x)(hm:X.mg x=some u)(r:RelV v u)(hd:(x==("__debug__" :Str))=false:=by decide):PE X (.Name x pos) (tC v):=
 fun _ _ _ H _ I h=>Nf I hg hm ⟨v,H,I,r,h⟩ hd
theorem UG{x:Str}{v:V}{u:Value}{pos:Pos}(hg:Gl X x)(hm:X.mg x=none)(hv:i5 x=some u)(r:RelV v u)(hn:x≠"__name__":=by decide)(hd:(x==("__debug__" :Str))=false:=by decide):PE X (.Name x pos) (tC v):=
 fun _ _ _ H _ I h=>DV I hg hm hv ⟨v,H,I,r,h⟩ hn hd
variable{a b:Expr}{ta tb:TE}{pos:Pos}
variable{tA tB':TT}{rest:List Expr}
def dU(t u:TT):TT:=fun σ H Q=>t σ H fun c H1=>if c=true then u σ H1 Q else Q false H1
def fj(t u:TT):TT:=fun σ H Q=>t σ H fun c H1=>if c=true then Q true H1 else u σ H1 Q
def dW(t:TT):TT:=fun σ H Q=>t σ H fun c H1=>Q (!c) H1
theorem UH(ha:PT X a tA):PW X (.BoolOp .And [a] pos) tA:=by
 intro wh pins s σ H Q I h
 refine isTrue_and (Aw (ha pins s σ H Q I h) fun c s1 e=>?_)
 cases c with
 |true=>exact isTrue_and_nil e
 |false=>exact e
theorem XB(ha:PT X a tA):PW X (.BoolOp .Or [a] pos) tA:=by
 intro wh pins s σ H Q I h
 refine isTrue_or (Aw (ha pins s σ H Q I h) fun c s1 e=>?_)
 cases c with
 |false=>exact isTrue_or_nil e
 |true=>exact e
theorem XC(ha:PT X a tA)(hb:PW X (.BoolOp .And (b::rest) pos) tB'):PW X (.BoolOp .And (a::b::rest) pos) (dU tA tB'):=by
 intro wh pins s σ H Q I h
 refine isTrue_and (Aw (ha pins s σ H _ I h) fun c s1 ⟨H1,I1,q1⟩=>?_)
 cases c with
 |true=>exact hb wh pins s1 σ H1 Q I1 q1
 |false=>exact⟨H1,I1,q1⟩
theorem Zu(ha:PT X a tA)(hb:PW X (.BoolOp .Or (b::rest) pos) tB'):PW X (.BoolOp .Or (a::b::rest) pos) (fj tA tB'):=by
 intro wh pins s σ H Q I h
 refine isTrue_or (Aw (ha pins s σ H _ I h) fun c s1 ⟨H1,I1,q1⟩=>?_)
 cases c with
 |true=>exact⟨H1,I1,q1⟩
 |false=>exact hb wh pins s1 σ H1 Q I1 q1
theorem XD(ha:PT X a tA):PT X (.UnaryOp .Not a pos) (dW tA):=by
 intro pins s σ H Q I h
 exact isTrue_not (ha pins s σ H (fun c H1=>Q (!c) H1) I h)
def Zv(ta tb:TE):TE:=fun σ H Q=>ta σ H fun x H1=>∃c,x=.bl c∧if c=true then tb σ H1 Q else Q (.bl false) H1
theorem XE{op}{t:TE}(h:PE X a t):PE X (.BoolOp op [a] pos) t:=fun pins s σ H Q I hw=>BoolOp_one (h pins s σ H Q I hw)
theorem XF(ha:PE X a ta)(hb:PE X (.BoolOp .And (b::rest) pos) tb):PE X (.BoolOp .And (a::b::rest) pos) (Zv ta tb):=by
 intro pins s σ H Q I h
 refine BoolOp_and (Aw (ha pins s σ H _ I h) fun v s1 ⟨x,H1,I1,r1,q1⟩=>?_)
 obtain⟨c,rfl,q1⟩:=q1
 cases r1
 refine lj ?_
 cases c with
 |true=>exact hb pins s1 σ H1 Q I1 q1
 |false=>exact⟨.bl false,H1,I1,rfl,q1⟩
def fk(t:TT)(ta tb:TE):TE:=fun σ H Q=>t σ H fun c H1=>if c=true then ta σ H1 Q else tb σ H1 Q
theorem QU{c:Expr}(hc:PT X c tA)(ha:PE X a ta)(hb:PE X b tb):PE X (.IfExp c a b pos) (fk tA ta tb):=by
 intro pins s σ H Q I h
 refine wpAny_IfExp (Aw (hc pins s σ H _ I h) fun d s1 ⟨H1,I1,q1⟩=>?_)
 cases d with
 |true=>exact ha pins s1 σ H1 Q I1 q1
 |false=>exact hb pins s1 σ H1 Q I1 q1
end
def Cz(K:a8)(H:Hp)(a:Addr)(xs:List V):Prop:=
 Rd H a (.lst xs)∨
  ∃(o:Obj) (its:Array Value) (n:Nat),K.lookup a=some o∧o.cls=.type "list"∧o.dict=none∧o.data=.seq its n∧its.size≤sizeLine∧Vals xs its.toList
def DT(K:a8)(H:Hp)(a:Addr)(xs:List V):Prop:=
 Rd H a (.tup xs)∨
  ∃(o:Obj) (its:Array Value) (n:Nat),K.lookup a=some o∧o.cls=.type "tuple"∧o.data=.seq its n∧its.size≤sizeLine∧Vals xs its.toList
def dX:Value→Option V
 | .none=>some .non
 | .bool b=>some (.bl b)
 | .int i _=>some (.int i)
 | .str x _=>some (.str x)
 | .bytes b _=>some (.byt b)
 | .float b _=>some (.flt b)
 | .ref a=>some (.ref a)
 | .type n=>some (.ty n)
 |_=>none
theorem RelV.abs{x:V}{u:Value}(r:RelV x u):dX u=some x:=by
 cases x with
 |non=>cases r;rfl
 |bl _=>cases r;rfl
 |int _=>obtain⟨t,rfl⟩:=r;rfl
 |str _=>obtain⟨t,rfl⟩:=r;rfl
 |byt _=>obtain⟨t,rfl⟩:=r;rfl
 |flt _=>obtain⟨t,rfl⟩:=r;rfl
 |ref _=>cases r;rfl
 |ty _=>cases r;rfl
theorem RelV.inj{x y:V}{u:Value}(r:RelV x u)(q:RelV y u):x=y:=i8.inj (r.abs.symm.trans q.abs)
theorem Vals.inj:∀{xs ys:List V} {us:List Value},Vals xs us→Vals ys us→xs=ys
 |_,_,_,.nil,.nil=>rfl
 |_,_,_,.cons r t,.cons r' t'=>by rw[r.inj r',Vals.inj t t']
section
variable{X:Cx}{pins:List (Addr×Obj)}{σ:St}{H:Hp}{s:a9}{a:Addr}{xs ys:List V}
theorem Inv.list(I:Inv X pins σ H s)(h:Cz X.K H a xs):∃its:List Value,Vals xs its∧PlainL s.heap a its.toArray∧xs.length≤sizeLine:=by
 rcases h with h| ⟨o,its,n,hk,hc,hd,hs,hz,r⟩
 ·obtain⟨z,its,n,r,e⟩:=h.ok I.hok
  exact⟨its,r,⟨_,n,e,rfl,rfl,rfl⟩,z⟩
 ·refine⟨its.toList,r,⟨o,n,I.kIn a o hk,hc,hd,by simpa using hs⟩,?_⟩
  have e:=r.length
  simp only[iq] at e
  omega
theorem Inv.tuple(I:Inv X pins σ H s)(h:DT X.K H a xs):∃its:List Value,Vals xs its∧IsTup s.heap a its.toArray∧xs.length≤sizeLine:=by
 rcases h with h| ⟨o,its,n,hk,hc,hs,hz,r⟩
 ·obtain⟨z,its,r,p⟩:=h.ok I.hok
  exact⟨its,r,p,z⟩
 ·refine⟨its.toList,r,⟨o,I.kIn a o hk,hc,n,by simpa using hs⟩,?_⟩
  have e:=r.length
  simp only[iq] at e
  omega
theorem Inv.list_inj(I:Inv X pins σ H s)(h:Cz X.K H a xs)(h':Cz X.K H a ys):xs=ys:=by
 obtain⟨its,r,⟨o,n,e,_,_,d⟩,_⟩:=I.list h
 obtain⟨its',r',⟨o',n',e',_,_,d'⟩,_⟩:=I.list h'
 rw[e] at e';cases e'
 rw[d] at d'
 injection d' with d1 _
 have:its=its':=by simpa using congrArg Array.toList d1
 subst this
 exact r.inj r'
theorem Inv.tuple_inj(I:Inv X pins σ H s)(h:DT X.K H a xs)(h':DT X.K H a ys):xs=ys:=by
 obtain⟨its,r,⟨o,e,_,n,d⟩,_⟩:=I.tuple h
 obtain⟨its',r',⟨o',e',_,n',d'⟩,_⟩:=I.tuple h'
 rw[e] at e';cases e'
 rw[d] at d'
 injection d' with d1 _
 have:its=its':=by simpa using congrArg Array.toList d1
 subst this
 exact r.inj r'
end
section
variable{X:Cx}{pins:List (Addr×Obj)}{σ:St}{H:Hp}{s:a9}{E:Value→a9→Prop}
end
section
variable{X:Cx}{st:Stmt}{rest:List Stmt}{t u:TS}{e:Expr}{te:TE}{pos:Pos}
def Zw:TS:=fun D σ H=>D.nx σ H
def dY(t u:TS):TS:=fun D σ H=>t {D with nx:=u D} σ H
theorem Ng:PSs X [] Zw:=fun _ _ σ H _ I h=>oi ⟨σ,H,I,h⟩
theorem Km(h1:PS X st t)(h2:PSs X rest u):PSs X (st::rest) (dY t u):=by
 intro pins s σ H D I h
 refine wpAny_execs_cons (Aw (h1 pins s σ H {D with nx:=u D} I h) fun f s1 q=>?_)
 cases f with
 |next=>
  obtain⟨σ',H',I',q⟩:=q
  exact h2 pins s1 σ' H' D I' q
 |ret v=>exact q
 |brk=>exact q
 |cont=>exact q
theorem JW(h1:PS X st t):PSs X [st] t:=by
 intro pins s σ H D I h
 refine wpAny_execs_cons (Aw (h1 pins s σ H D I h) fun f s1 q=>?_)
 cases f with
 |next=>exact oi q
 |ret v=>exact q
 |brk=>exact q
 |cont=>exact q
theorem Inv.quiet{pins:List (Addr×Obj)}{σ:St}{H:Hp}{s:a9}(I:Inv X pins σ H s):interactive X.env=false:=by simp[interactive,I.ok.kind]
def Zy(te:TE):TS:=fun D σ H=>te σ H fun _ H1=>D.nx σ H1
theorem UI(he:PE X e te)(hs:nO e none pos.line X.env=pure false:=by rfl):PS X (.Expr e pos) (Zy te):=by
 intro pins s σ H D I h
 exact wpAny_Expr_any (Aw (he pins s σ H _ I h) fun v s1 ⟨x,H1,I1,r1,q1⟩=> ⟨σ,H1,I1,q1⟩) I.quiet hs
def dZ(te:TE):TS:=fun D σ H=>te σ H D.rt
theorem JX(he:PE X e te):PS X (.Return (some e) pos) (dZ te):=by
 intro pins s σ H D I h
 exact wpAny_Return_some (Aw (he pins s σ H _ I h) fun v s1 ⟨x,H1,I1,r1,q1⟩=> ⟨x,σ,H1,I1,r1,q1⟩)
def da(c:TT)(t u:TS):TS:=fun D σ H=>c σ H fun b H1=>if b=true then t D σ H1 else u D σ H1
theorem WL{c:Expr}{a b:List Stmt}{tc:TT}(hc:PT X c tc)(ha:PSs X a t)(hb:PSs X b u):PS X (.If c a b pos) (da tc t u):=by
 intro pins s σ H D I h
 refine wpAny_If (Aw (hc pins s σ H _ I h) fun d s1 ⟨H1,I1,q1⟩=>?_)
 cases d with
 |true=>exact ha pins s1 σ H1 D I1 q1
 |false=>exact hb pins s1 σ H1 D I1 q1
end
abbrev TG:=V→St→Hp→(St→Hp→Prop)→Prop
abbrev XG:=List V→St→Hp→(St→Hp→Prop)→Prop
def PG(X:Cx)(target:Expr)(t:TG):Prop:=
 ∀(pins:List (Addr×Obj)) (s:a9) (σ:St) (H:Hp) (v:V) (u:Value) (Q:St→Hp→Prop),Inv X pins σ H s→RelV v u→t v σ H Q→
  wpAny (model X.prog X.w) X.A (assign target X.env u) (fun _ s'=>∃σ' H',Inv X pins σ' H' s'∧Q σ' H') X.xe s
def dG(X:Cx)(ts:List Expr)(t:XG):Prop:=
 ∀(pins:List (Addr×Obj)) (s:a9) (σ:St) (H:Hp) (vs:List V) (us:List Value) (Q:St→Hp→Prop),Inv X pins σ H s→Vals vs us→t vs σ H Q→
  wpAny (model X.prog X.w) X.A (assignInOrder ((kY ts X.env).map (·.2)) us) (fun _ s'=>∃σ' H',Inv X pins σ' H' s'∧Q σ' H') X.xe s
abbrev XH:=V→V→V→Hp→(Hp→Prop)→Prop
def Zz(X:Cx)(t:XH):Prop:=
 ∀(pins:List (Addr×Obj)) (s:a9) (σ:St) (H:Hp) (o i v:V) (ov iv u:Value) (Q:Hp→Prop),Inv X pins σ H s→RelV o ov→RelV i iv→RelV v u→t o i v H Q→
  wpAny (model X.prog X.w) X.A (setItem ov iv u) (fun _ s'=>∃H',Inv X pins σ H' s'∧Q H') X.xe s
abbrev aA:=V→V→Hp→VK→Prop
def dc(X:Cx)(op:qz)(t:aA):Prop:=
 ∀(pins:List (Addr×Obj)) (s:a9) (σ:St) (H:Hp) (x y:V) (v u:Value) (Q:VK),Inv X pins σ H s→RelV x v→RelV y u→t x y H Q→
  wpAny (model X.prog X.w) X.A (inplaceOp op v u) (EP X pins σ Q) X.xe s
section
variable{X:Cx}{pos:Pos}
def WM(i:Nat):TG:=fun v σ H Q=>Q (σ.set i (some v)) H
theorem JY{i:Nat}{x:Str}(hN:X.N.Nodup)(hi:X.N[i]?=some x)(hx:QP X.env.scope x)(hf:X.fn x=true∨X.env.scope.names.lookup x=some .local:=by first|exact .inl rfl|exact .inr rfl|assumption):PG X (.Name x pos) (WM i):=by
 intro pins s σ H v u Q I r h
 exact wpAny_assign_Name (DU I hN hi hx r (fun s' I'=> ⟨_,H,I',h⟩) hf)
def de:XG:=fun vs σ H Q=>vs=[]∧Q σ H
def aB(t:TG)(u:XG):XG:=fun vs σ H Q=>∃v r,vs=v::r∧t v σ H fun σ' H'=>u r σ' H' Q
theorem UJ:dG X [] de:=by
 intro pins s σ H vs us Q I r h
 obtain⟨e,h⟩:=h
 subst e
 cases r
 exact assignInOrder_nil ⟨σ,H,I,h⟩
theorem Kn{e:Expr}{es:List Expr}{t:TG}{u:XG}(h1:PG X e t)(h2:dG X es u)
  (hs:(kY (e::es) X.env).map (·.2)=assign e X.env::(kY es X.env).map (·.2):=by rfl):dG X (e::es) (aB t u):=by
 intro pins s σ H vs us Q I r h
 obtain⟨v,vr,e1,h⟩:=h
 subst e1
 cases r with
 |cons r rr=>
  rw[hs]
  refine oM (Aw (h1 pins s σ H _ _ _ I r h) fun _ s1 ⟨σ1,H1,I1,q1⟩=>?_)
  exact h2 pins s1 σ1 H1 _ _ Q I1 rr q1
def df(K:a8)(n:Nat)(t:XG):TG:=fun v σ H Q=>∃a xs,v=.ref a∧DT K H a xs∧xs.length=n∧t xs σ H Q
theorem XI{es:List Expr}{k:Nat}{t:XG}{n:Nat}(hc:X.calm=true)(h:dG X es t)
  (hn:(kY es X.env).length=n:=by rfl) (hst:(kY es X.env).findIdx? (·.1)=none:=by rfl):PG X (.Tuple es k pos) (df X.K n t):=by
 intro pins s σ H v u Q I r hw
 obtain⟨a,xs,e1,hq,hl,hw⟩:=hw
 subst e1
 cases r
 obtain⟨its,rv,ht,hz⟩:=I.tuple hq
 refine assign_Tuple_tuple (I.ok.hd hc) ht (by simp[hn,←hl,rv.length]) hst fun h' hx=>?_
 have I1:Inv X pins σ H {s with heap:=h'}:=I.kept (t':=s.toks) fun b o e=>hx b o (iL (ip e)) e
 exact h pins _ σ H xs _ Q I1 (by simpa using rv) hw
def dg(to ti:TE)(t:XH):TG:=fun v σ H Q=>to σ H fun o H1=>ti σ H1 fun i H2=>t o i v H2 fun H3=>Q σ H3
theorem XJ{o i:Expr}{to ti:TE}{t:XH}(ho:PE X o to)(hi:PE X i ti)(hs:Zz X t)
  (ha:∀v,assign (.Subscript o i pos) X.env v=(do
   let ov←holding [v] (eval o X.env)
   let iv←holding [v,ov] (eval i X.env)
   standAt pos
   holding [v,ov,iv] (setItem ov iv v)
   release [v,ov,iv] []):=by intro _;rfl):PG X (.Subscript o i pos) (dg to ti t):=by
 intro pins s σ H v u Q I r h
 rw[ha]
 refine a7 (je (Aw (ho pins s σ H _ I h) fun ov s1 ⟨x,H1,I1,r1,q1⟩=>?_))
 refine a7 (je (Aw (hi pins s1 σ H1 _ I1 q1) fun iv s2 ⟨y,H2,I2,r2,q2⟩=>?_))
 refine a7 (m6 (a7 (je (Aw (hs pins s2 σ H2 x y v ov iv u _ I2 r1 r2 r q2) fun _ s3 ⟨H3,I3,q3⟩=>?_))))
 exact wpAny_release ⟨σ,H3,I3,q3⟩
def aC(te:TE)(g:TG):TS:=fun D σ H=>te σ H fun x H1=>g x σ H1 D.nx
theorem QV{tg e:Expr}{te:TE}{g:TG}(he:PE X e te)(hg:PG X tg g)(hs:nV [tg] e pos.line X.env=pure false:=by rfl)(hw:nW [tg] e X.env=pure none:=by rfl)
  (h1:(kY [tg] X.env).map (·.2)=[assign tg X.env]:=by rfl):PS X (.Assign [tg] e pos) (aC te g):=by
 intro pins s σ H D I h
 refine wpAny_Assign_stores (Aw (he pins s σ H _ I h) fun v s1 ⟨x,H1,I1,r1,q1⟩=>?_) hs hw
 rw[h1]
 exact Aw (hg pins s1 σ H1 x v _ I1 r1 q1) fun _ s2 q=>q
theorem XM{i:Nat}{x:Str}{e:Expr}{te:TE}{pos':Pos}(hN:X.N.Nodup)(hi:X.N[i]?=some x)(hx:QP X.env.scope x)(he:PE X e te)(hs:nO e (some (.Name x pos')) pos.line X.env=pure false:=by rfl)(hf:X.fn x=true∨X.env.scope.names.lookup x=some .local:=by first|exact .inl rfl|exact .inr rfl|assumption):
  PS X (.Assign [.Name x pos'] e pos) (aC te (WM i)):=by
 intro pins s σ H D I h
 refine wpAny_Assign_Name (Aw (he pins s σ H _ I h) fun v s1 ⟨y,H1,I1,r1,q1⟩=>?_) hs
 exact DU I1 hN hi hx r1 (fun s2 I2=> ⟨_,H1,I2,q1⟩) hf
def dh(i j:Nat)(ta:TA):TS:=fun D σ H=>ta σ H fun vs H1=>∃v w,vs=[v,w]∧D.nx ((σ.set i (some v)).set j (some w)) H1
theorem XN{i j:Nat}{x y:Str}{a b:Expr}{ta:TA}{px py pt:Pos}{kt k2 pt2}(hc:X.calm=true)(hN:X.N.Nodup)(hi:X.N[i]?=some x)(hj:X.N[j]?=some y)(hij:i≠j)
  (hx:X.env.scope.names.lookup x=some .local) (hy:X.env.scope.names.lookup y=some .local) (ha:PA X [a,b] ta)
  (hw:nW [.Tuple [.Name x px,.Name y py] kt pt] (.Tuple [a,b] k2 pt2) X.env=pure (some [x,y]))
  (hs:nV [.Tuple [.Name x px,.Name y py] kt pt] (.Tuple [a,b] k2 pt2) pos.line X.env=pure false:=by rfl):
  PS X (.Assign [.Tuple [.Name x px,.Name y py] kt pt] (.Tuple [a,b] k2 pt2) pos) (dh i j ta):=by
 intro pins s σ H D I h
 rw[exec_Assign_arm]
 refine a7 (m6 ?_)
 rw[hs]
 refine a7 (b9 ?_)
 rw[if_neg (by decide)]
 refine a7 (Tuple_ (Aw (ha _ pins s σ H _ I h) fun us s1 ⟨vs,H1,I1,r1,q1⟩=>?_))
 obtain⟨v,w,e1,q1⟩:=q1
 subst e1
 obtain⟨u1,u2,rfl,rv,rw'⟩:∃u1 u2,us=[u1,u2]∧RelV v u1∧RelV w u2:=by
  cases r1 with
  |cons p q=>
   cases q with
   |cons p' q'=>
    cases q'
    exact⟨_,_,rfl,p,p'⟩
 refine js ?_ (by show 2≤sizeLine;decide)
 have I2:Inv X pins σ H1 {s1 with heap:=s1.heap.push {cls:=.type "tuple",data:=.seq [u1,u2].toArray}}:=I1.kept (t':=s1.toks) fun b o e=>e6 _ e
 rw[hw]
 refine a7 (b9 ?_)
 show wpAny (model X.prog X.w) X.A (do rule "assign.swapped-stores";let items←unpackItems (.ref s1.heap.objs.size) 2 none;assignInOrder [fun v=>bindName X.env y v,fun v=>bindName X.env x v] items.reverse;pure Flow.next) _ _ _
 refine a7 (lx (a7 (unpackItems_tuple (items:=#[u1,u2]) (I.ok.hd hc) (IsTup.new s1.heap _) fun h' hx'=>?_)))
 have I3:=I2.kept (h':=h') (t':=s1.toks) fun b o e=>hx' b o (iL (ip e)) e
 show wpAny _ _ (assignInOrder [fun v=>bindName X.env y v,fun v=>bindName X.env x v] [u2,u1]>>=fun _=>pure Flow.next) _ _ _
 refine a7 (oM (wpAny_bindName (DU I3 hN hj (.inl hy) rw' (fun s2 I4=>?_) (.inr hy))))
 refine oM (wpAny_bindName (DU I4 hN hi (.inl hx) rv (fun s3 I5=>assignInOrder_nil (b9 ?_)) (.inr hx)))
 rw[List.set_comm _ _ (Ne.symm hij)] at I5
 exact⟨_,H1,I5,q1⟩
def di(i:Nat)(te:TE)(ti:aA):TS:=fun D σ H=>∃x,σ[i]?=some (some x)∧te σ H fun y H1=>ti x y H1 fun z H2=>D.nx (σ.set i (some z)) H2
theorem XO{i:Nat}{x:Str}{e:Expr}{te:TE}{op:qz}{ti:aA}{pos':Pos}(hN:X.N.Nodup)(hi:X.N[i]?=some x)(hx:QP X.env.scope x)(he:PE X e te)(ho:dc X op ti)(hf:X.fn x=true∨X.env.scope.names.lookup x=some .local:=by first|exact .inl rfl|exact .inr rfl|assumption):
  PS X (.AugAssign (.Name x pos') op e pos) (di i te ti):=by
 intro pins s σ H D I h
 obtain⟨v,e1,h⟩:=h
 obtain⟨m,hn,hl⟩:=I.loc
 have vis:Zo X.env.scope x:=by rcases hx with k|k;exact .inl k;exact .inr (.inl k)
 obtain⟨u,r,l⟩:=hl i x v hi e1 vis
 refine wpAny_AugAssign_Name ?_
 have go:wpAny (model X.prog X.w) X.A (eval e X.env) (fun w s₂=>wpAny (model X.prog X.w) X.A (inplaceOp op u w) (fun r s₃=>wpAny (model X.prog X.w) X.A (storeName X.env x r) (fun _=>SP X pins D .next) X.xe s₃) X.xe s₂) X.xe s:=by
  refine Aw (he pins s σ H _ I h) fun w s1 ⟨y,H1,I1,r1,q1⟩=>?_
  refine Aw (ho pins s1 σ H1 v y u w _ I1 r r1 q1) fun z s2 ⟨zv,H2,I2,r2,q2⟩=>?_
  exact DU I2 hN hi hx r2 (fun s3 I3=> ⟨_,H2,I3,q2⟩) hf
 rcases l with⟨hk,hm⟩| ⟨hk,c,hc,hcell⟩
 ·exact wpAny_loadName_local I.ok.kind hk hn hm go
 ·rcases hk with hk|hk
  ·exact wpAny_loadName_cell I.ok.kind hk hc hcell go
  ·rcases hx with k|k
   ·have:X.env.scope.names.lookup x=some .free:=hk
    rw[k] at this;cases this
   ·have:X.env.scope.names.lookup x=some .free:=hk
    rw[k] at this;cases this
def fm(f:Int→Int→Int):aA:=fun x y H Q=>∃i j,x=.int i∧y=.int j∧Q (.int (f i j)) H
theorem XQ:dc X .Add (fm fun i j=>i+j):=by
 intro pins s σ H x y v u Q I r1 r2 h
 obtain⟨i,j,e1,e2,q⟩:=h
 subst e1;subst e2
 obtain⟨t,rfl⟩:=r1
 obtain⟨t',rfl⟩:=r2
 exact iadd_int ⟨.int _,H,I.tok _,⟨_,rfl⟩,q⟩
end
section
variable{X:Cx}{pos:Pos}
def XR(c:TT)(tb:TS):TS:=fun D σ H=>∃W:Nat→St→Hp→Prop,(∃m,W m σ H)∧∀m σ H,W m σ H→
 c σ H fun b H1=>if b=true then∃N:St→Hp→Prop,(∀σ' H',N σ' H'→∃m',m'<m∧W m' σ' H')∧tb {D with nx:=N,ct:=N,bk:=D.nx} σ H1 else D.nx σ H1
theorem QW{c:Expr}{body:List Stmt}{tc:TT}{tb:TS}(hp:oG (model X.prog X.w) X.A X.env X.xe)(hc:PT X c tc)(hb:PSs X body tb):PS X (.While c body [] pos) (XR tc tb):=by
 intro pins s σ H D I h
 obtain⟨W,⟨m0,w0⟩,turn⟩:=h
 refine wpAny_While (codeAny_whileLoop (fun n s'=>∃σ' H',Inv X pins σ' H' s'∧W n σ' H') ?_ m0 ⟨σ,H,I,w0⟩)
 rintro n s1 ⟨σ1,H1,I1,w1⟩
 refine lK hp (Aw (hc pins s1 σ1 H1 _ I1 (turn n σ1 H1 w1)) fun b s2 ⟨H2,I2,q2⟩=>?_)
 cases b with
 |true=>
  obtain⟨N,hN,q2⟩:=q2
  rw[if_pos rfl]
  refine lK hp (Aw (hb pins s2 σ1 H2 _ I2 q2) fun f s3 q3=>?_)
  cases f with
  |next=>
   obtain⟨σ3,H3,I3,n3⟩:=q3
   obtain⟨m',hm,w3⟩:=hN σ3 H3 n3
   exact⟨m',hm,σ3,H3,I3,w3⟩
  |cont=>
   obtain⟨σ3,H3,I3,n3⟩:=q3
   obtain⟨m',hm,w3⟩:=hN σ3 H3 n3
   exact⟨m',hm,σ3,H3,I3,w3⟩
  |brk=>exact q3
  |ret v=>exact q3
 |false=>
  rw[if_neg gx]
  exact oi ⟨σ1,H2,I2,q2⟩
end
structure It where
 go:Nat→Hp→Prop
 yld:Nat→Hp→V→Hp→Prop
 stop:Nat→Hp→Prop
def Gq(X:Cx)(pins:List (Addr×Obj))(H:Hp)(b:Addr):Prop:=
 H b=none∧b≠X.env.locals∧b∉X.fs∧(b∈X.ex∨X.s₀.heap.objs.size≤b)∧(∀x c,X.env.cells.lookup x=some c→c≠b)∧∀p∈X.pn++pins,p.1≠b
theorem Inv.fpOk{X:Cx}{pins:List (Addr×Obj)}{σ:St}{H H':Hp}{s:a9}{b:Addr}(I:Inv X pins σ H s)(hb:s.heap.objs.size≤b)(hn:H' b=none):Gq X pins H' b:=by
 refine⟨hn,mw (iJ I.lt hb),I.nofs hb,.inr (jv I.sz hb),fun x c e z=>?_,fun p hp z=>?_⟩
 ·obtain⟨v,q⟩:=I.cell x c e
  exact absurd (iJ q.lt (by rw[z];exact hb)) (jD _)
 ·exact absurd (iJ (ip (I.pin p hp).1) (by rw[z];exact hb)) (jD _)
structure Turn(P:Program)(w:World)(K:a8)(tg:Expr)(J:It)(fp:List Addr)(it:Addr)(tn:Nat→Heap→Prop):Prop where
 mem:it∈fp
 obj:∀i h,tn i h→∀b∈fp,∃o,h.get? b=some o∧∀v,o.data≠.cell v
 keep:∀i h h',tn i h→(∀b∈fp,∀o,h.get? b=some o→h'.get? b=some o)→tn i h'
 item:∀(X:Cx),X.prog=P→X.w=w→X.K=K→X.calm=true→∀(i:Nat) (pins:List (Addr×Obj)) (s:a9) (σ:St) (H:Hp) (E:Value→a9→Prop),Inv X pins σ H s→(∀b∈fp,Gq X pins H b)→tn i s.heap→J.go i H→
  wpAny (model P w) X.A (nh (.ref it)) (fun r s1=>∃u,r=some u∧
   wpAny (model P w) X.A (oj tg (.ref it) u) (fun _ s2=>∃x H',Inv X pins σ H' s2∧RelV x u∧J.yld i H x H'∧tn (i+1) s2.heap∧∀b∈fp,H' b=none) E s1) E s
 done:∀(X:Cx),X.prog=P→X.w=w→X.K=K→X.calm=true→∀(i:Nat) (pins:List (Addr×Obj)) (s:a9) (σ:St) (H:Hp) (E:Value→a9→Prop),Inv X pins σ H s→(∀b∈fp,Gq X pins H b)→tn i s.heap→J.stop i H→
  wpAny (model P w) X.A (nh (.ref it)) (fun r s1=>r=none∧Inv X pins σ H s1) E s
 self:∀(A:iC) (i:Nat) (s:a9) (Q:Value→a9→Prop) (E:Value→a9→Prop),tn i s.heap→Q (.ref it) s→wpAny (model P w) A (qt (.ref it)) Q E s
abbrev TI:=St→Hp→(It→Hp→Prop)→Prop
def fP(X:Cx)(pins:List (Addr×Obj))(σ:St)(tg:Expr)(R:It→Hp→Prop)(itv:Value)(s2:a9):Prop:=
 ∃(it:Addr) (fp:List Addr) (tn:Nat→Heap→Prop) (J:It) (H':Hp),itv=.ref it∧Inv X pins σ H' s2∧Turn X.prog X.w X.K tg J fp it tn∧tn 0 s2.heap∧(∀b∈fp,Gq X pins H' b)∧R J H'
def PI(X:Cx)(tg iter:Expr)(wi:TI):Prop:=
 ∀(pins:List (Addr×Obj)) (s:a9) (σ:St) (H:Hp) (R:It→Hp→Prop),Inv X pins σ H s→wi σ H R→
  wpAny (model X.prog X.w) X.A (eval iter X.env) (fun v s1=>wpAny (model X.prog X.w) X.A (qt v) (fP X pins σ tg R) X.xe s1) X.xe s
theorem QX{M:Model}{A:iC}{E:Value→a9→Prop}{s:a9}{tg:Expr}{it:Addr}{u:Value}{o:Obj}{n:String}{vs:Array Value}{Q:Unit→a9→Prop}(ho:s.heap.get? it=some o)(hc:o.cls=.type n)(hd:o.data=.fields vs)
    (hn:["enumerate","zip","dict_itemiterator","dict_reverseitemiterator","odict_iterator","itertools.zip_longest","itertools.pairwise"].contains n=false) (hQ:Q () s):wpAny M A (oj tg (.ref it) u) Q E s:=by
  unfold oj
  cases tg<;>first
    |exact b9 hQ
    | (cases u<;>first
        |exact b9 hQ
        | (refine a7 (wpAny_load ho ?_)
           rw[hc,hd]
           show wpAny M A (if(["enumerate","zip","dict_itemiterator","dict_reverseitemiterator","odict_iterator","itertools.zip_longest","itertools.pairwise"].contains n&&vs[0]?==some (nB _))=true then _ else _) Q E s
           rw[if_neg (by intro h;rw[hn,Bool.false_and] at h;cases h)]
           exact b9 hQ))
def dj(K:a8)(a:Addr):It:=
 ⟨fun i H=>∃xs x,Cz K H a xs∧xs[i]?=some x,fun i H x H'=>H'=H∧∀xs,Cz K H a xs→xs[i]?=some x,fun i H=>∃xs,Cz K H a xs∧xs.length≤i⟩
def dm(K:a8)(a:Addr):It:=
 ⟨fun i H=>∃xs x,DT K H a xs∧xs[i]?=some x,fun i H x H'=>H'=H∧∀xs,DT K H a xs→xs[i]?=some x,fun i H=>∃xs,DT K H a xs∧xs.length≤i⟩
def aD(lo:Int)(n:Nat):It:=⟨fun i _=>i<n,fun i H x H'=>H'=H∧x=.int (lo+i),fun i _=>n≤i⟩
theorem PF{P:Program}{w:World}{K:a8}{tg:Expr}(a it:Addr):Turn P w K tg (dj K a) [it] it (fun i h=>h.IsListIter it a i) where
 mem:=by simp
 obj:=fun i h st b hb=>by
  have e:b=it:=by simpa using hb
  subst e
  obtain⟨o,e,c,d⟩:=st
  exact⟨o,e,fun v z=>by rw[d] at z;cases z⟩
 keep:=fun i h h' st k=>st.at fun o e=>k it (by simp) o e
 item:=by
  intro X hP hw hK hc i pins s σ H E I hf st hg
  subst hP hw hK
  obtain⟨xs,x,hq,hx⟩:=hg
  obtain⟨its,rv,p,hz⟩:=I.list hq
  obtain⟨u,hu,ru⟩:=rv.get hx
  obtain⟨f0,f1,f2,f3,f4,f5⟩:=hf it (by simp)
  refine wpAny_pyNext_list_item st p.isList (x:=u) (by simpa using hu) fun h' st' sb=>?_
  have I1:Inv X pins σ H {s with heap:=h'}:=I.turned (t':=s.toks) (fun b o hb e=> (sb.2 b hb).trans e) f0 f1 f3 f4 f5
  obtain⟨o,e,c,d⟩:=id st'
  exact⟨u,rfl,QX (s:={s with heap:=h'}) e c d (by decide) ⟨x,H,I1,ru,⟨rfl,fun ys hy=>by rw[I.list_inj hy hq];exact hx⟩,st',fun b hb=> (hf b hb).1⟩⟩
 done:=by
  intro X hP hw hK hc i pins s σ H E I hf st hg
  subst hP hw hK
  obtain⟨xs,hq,hx⟩:=hg
  obtain⟨its,rv,p,hz⟩:=I.list hq
  obtain⟨f0,f1,f2,f3,f4,f5⟩:=hf it (by simp)
  have hl:=rv.length
  exact wpAny_pyNext_list_end (I.ok.hd hc) st p.isList (by simp;omega) fun h' eb=> ⟨rfl,I.turned (t':=s.toks) (fun b o hb e=>eb b o hb e) f0 f1 f3 f4 f5⟩
 self:=fun _ _ _ _ _ st h=>wpAny_pyIter_listiter st h
theorem MO{P:Program}{w:World}{K:a8}{tg:Expr}(a it:Addr):Turn P w K tg (dm K a) [it] it (fun i h=>h.IsTupleIter it a i) where
 mem:=by simp
 obj:=fun i h st b hb=>by
  have e:b=it:=by simpa using hb
  subst e
  obtain⟨o,e,c,d⟩:=st
  exact⟨o,e,fun v z=>by rw[d] at z;cases z⟩
 keep:=fun i h h' st k=>st.at fun o e=>k it (by simp) o e
 item:=by
  intro X hP hw hK hc i pins s σ H E I hf st hg
  subst hP hw hK
  obtain⟨xs,x,hq,hx⟩:=hg
  obtain⟨its,rv,p,hz⟩:=I.tuple hq
  obtain⟨u,hu,ru⟩:=rv.get hx
  obtain⟨f0,f1,f2,f3,f4,f5⟩:=hf it (by simp)
  refine wpAny_pyNext_tuple_item st (show s.heap.IsTuple a its.toArray from p) (x:=u) (by simpa using hu) fun h' st' sb=>?_
  have I1:Inv X pins σ H {s with heap:=h'}:=I.turned (t':=s.toks) (fun b o hb e=> (sb.2 b hb).trans e) f0 f1 f3 f4 f5
  obtain⟨o,e,c,d⟩:=id st'
  exact⟨u,rfl,QX (s:={s with heap:=h'}) e c d (by decide) ⟨x,H,I1,ru,⟨rfl,fun ys hy=>by rw[I.tuple_inj hy hq];exact hx⟩,st',fun b hb=> (hf b hb).1⟩⟩
 done:=by
  intro X hP hw hK hc i pins s σ H E I hf st hg
  subst hP hw hK
  obtain⟨xs,hq,hx⟩:=hg
  obtain⟨its,rv,p,hz⟩:=I.tuple hq
  obtain⟨f0,f1,f2,f3,f4,f5⟩:=hf it (by simp)
  have hl:=rv.length
  exact wpAny_pyNext_tuple_end (I.ok.hd hc) st (show s.heap.IsTuple a its.toArray from p) (by simp;omega) fun h' eb=> ⟨rfl,I.turned (t':=s.toks) (fun b o hb e=>eb b o hb e) f0 f1 f3 f4 f5⟩
 self:=fun _ _ _ _ _ st h=>wpAny_pyIter_tupleiter st h
theorem MP{P:Program}{w:World}{K:a8}{tg:Expr}(it:Addr)(lo:Int)(n:Nat):Turn P w K tg (aD lo n) [it] it (fun i h=>IsRangeIter h it (lo+(i:Nat)*1) ((n:Int)- (i:Nat)) 1) where
 mem:=by simp
 obj:=fun i h st b hb=>by
  have e:b=it:=by simpa using hb
  subst e
  exact⟨_,st,fun v z=>by
   have z':sf _=qO v:=z
   cases z'⟩
 keep:=fun i h h' st k=>k it (by simp) _ st
 item:=by
  intro X hP hw hK hc i pins s σ H E I hf st hg
  subst hP hw hK
  obtain⟨f0,f1,f2,f3,f4,f5⟩:=hf it (by simp)
  have W:=Walks.range (prog:=X.prog) (w:=X.w) (I.ok.hd hc) it lo 1 n
  refine W.item i s _ _ hg st fun v h' tk hv st' kk=>?_
  obtain⟨t,rfl⟩:=hv
  have I1:Inv X pins σ H {s with heap:=h',toks:=tk}:=I.turned (fun b o hb e=>kk b o (by simpa using hb) e) f0 f1 f3 f4 f5
  refine⟨_,rfl,QX (s:={s with heap:=h',toks:=tk}) (n:="range_iterator") st' rfl rfl (by decide) ⟨.int (lo+i),H,I1,⟨t,?_⟩,⟨rfl,rfl⟩,st',fun b hb=> (hf b hb).1⟩⟩
  rw[Int.mul_one]
 done:=by
  intro X hP hw hK hc i pins s σ H E I hf st hg
  subst hP hw hK
  obtain⟨f0,f1,f2,f3,f4,f5⟩:=hf it (by simp)
  exact wpAny_pyNext_range_end (I.ok.hd hc) st (by have:n≤i:=hg;omega) fun h' eb=> ⟨rfl,I.turned (t':=s.toks) (fun b o hb e=>eb b o hb e) f0 f1 f3 f4 f5⟩
 self:=fun _ _ _ _ _ st h=>wpAny_pyIter_rangeiter st h
section
variable{X:Cx}{tg:Expr}
def aE(K:a8)(tl:TE):TI:=fun σ H R=>tl σ H fun x H1=>∃a,x=.ref a∧(∃xs,Cz K H1 a xs)∧R (dj K a) H1
def dr(K:a8)(tl:TE):TI:=fun σ H R=>tl σ H fun x H1=>∃a,x=.ref a∧(∃xs,DT K H1 a xs)∧R (dm K a) H1
theorem Nh{l:Expr}{tl:TE}(hl:PE X l tl):PI X tg l (aE X.K tl):=by
 intro pins s σ H R I h
 refine Aw (hl pins s σ H _ I h) fun v s1 ⟨x,H1,I1,r1,q1⟩=>?_
 obtain⟨a,e,⟨xs,hq⟩,q⟩:=q1
 subst e
 cases r1
 obtain⟨its,rv,p,hz⟩:=I1.list hq
 refine oY p.isList ?_
 refine⟨s1.heap.objs.size,[s1.heap.objs.size],_,_,H1,rfl,I1.kept (t':=s1.toks) fun b o e=>e6 _ e,PF a _,⟨_,iz _ rfl,rfl,rfl⟩,fun b hb=>?_,q⟩
 have e:b=s1.heap.objs.size:=by simpa using hb
 subst e
 exact I1.fpOk (hC _) (I1.hok.fresh (hC _))
theorem XS{l:Expr}{tl:TE}(hl:PE X l tl):PI X tg l (dr X.K tl):=by
 intro pins s σ H R I h
 refine Aw (hl pins s σ H _ I h) fun v s1 ⟨x,H1,I1,r1,q1⟩=>?_
 obtain⟨a,e,⟨xs,hq⟩,q⟩:=q1
 subst e
 cases r1
 obtain⟨its,rv,p,hz⟩:=I1.tuple hq
 refine mj (show s1.heap.IsTuple a its.toArray from p) ?_
 refine⟨s1.heap.objs.size,[s1.heap.objs.size],_,_,H1,rfl,I1.kept (t':=s1.toks) fun b o e=>e6 _ e,MO a _,⟨_,iz _ rfl,rfl,rfl⟩,fun b hb=>?_,q⟩
 have e:b=s1.heap.objs.size:=by simpa using hb
 subst e
 exact I1.fpOk (hC _) (I1.hok.fresh (hC _))
theorem Ko{pins:List (Addr×Obj)}{σ:St}{H:Hp}{s:a9}{R:It→Hp→Prop}{E:Value→a9→Prop}{lo hi:Int}{t u v:Tok}{tk:Nat}(I:Inv X pins σ H s)(h1: -(2^62)≤lo)(h2:lo<2^62)(h3: -(2^62)≤hi)(h4:hi<2^62)
  (q:R (aD lo (hi-lo).toNat) H):wpAny (model X.prog X.w) X.A (qt (.ref s.heap.objs.size)) (fP X pins σ tg R) E {s with heap:=s.heap.push {cls:=.type "range",data:=.fields #[.int lo t,.int hi u,.int 1 v]},toks:=tk}:=by
 refine wpAny_pyIter_range (IsRange.new ..) (small_one h1 h2 h3 h4) ?_
 have I1:Inv X pins σ H {s with heap:=s.heap.push {cls:=.type "range",data:=.fields #[.int lo t,.int hi u,.int 1 v]},toks:=tk}:=I.kept fun b o e=>e6 _ e
 refine⟨(s.heap.push {cls:=.type "range",data:=.fields #[.int lo t,.int hi u,.int 1 v]}).objs.size,[(s.heap.push {cls:=.type "range",data:=.fields #[.int lo t,.int hi u,.int 1 v]}).objs.size],_,_,H,rfl,
  I1.kept (t':=tk) fun b o e=>e6 _ e,MP _ lo (hi-lo).toNat,?_,fun b hb=>?_,q⟩
 ·have e1:lo+((0:Nat):Int)*1=lo:=by simp
  have e2:(((hi-lo).toNat:Nat):Int)- ((0:Nat):Int)=Builtin.Range.rangeSize lo hi 1:=by rw[rangeSize_one];split<;>omega
  show IsRangeIter _ _ (lo+((0:Nat):Int)*1) ((((hi-lo).toNat:Nat):Int)- ((0:Nat):Int)) 1
  rw[e1,e2]
  exact iz _ rfl
 ·have e:b=(s.heap.push {cls:=.type "range",data:=.fields #[.int lo t,.int hi u,.int 1 v]}).objs.size:=by simpa using hb
  subst e
  exact I1.fpOk (hC _) (I1.hok.fresh (hC _))
def aF(ta:TA):TI:=fun σ H R=>ta σ H fun vs H1=>∃j:Int,vs=[.int j]∧-(2^62)≤j∧j<2^62∧R (aD 0 j.toNat) H1
def aG(ta:TA):TI:=fun σ H R=>ta σ H fun vs H1=>∃i j:Int,vs=[.int i,.int j]∧(-(2^62)≤i∧i<2^62∧-(2^62)≤j∧j<2^62)∧R (aD i (j-i).toNat) H1
theorem PH{a:Expr}{ta:TA}{p pos:Pos}(hg:Gl X "range")(hm:X.mg "range" =none)(ha:PA X [a] ta)(hs:e8 [a] X.env=[(false,eval a X.env)]:=by rfl):PI X tg (.Call (.Name "range" p) [a] [] pos) (aF ta):=by
 intro pins s σ H R I h
 refine Call_ (DV I hg hm boot_range (kM (Aw (ha pos pins s σ H _ I h) fun us s1 ⟨vs,H1,I1,r1,q1⟩=>?_) hs rfl))
 obtain⟨j,e,q1,q2,q⟩:=q1
 subst e
 cases r1 with
 |cons r rr=>
  cases rr
  obtain⟨t,rfl⟩:=r
  exact call_range_1 (Ko I1 (by omega) (by omega) q1 q2 (by simpa using q))
theorem PJ{a b:Expr}{ta:TA}{p pos:Pos}(hg:Gl X "range")(hm:X.mg "range" =none)(ha:PA X [a,b] ta)(hs:e8 [a,b] X.env=[(false,eval a X.env),(false,eval b X.env)]:=by rfl)(hs2:e8 [b] X.env=[(false,eval b X.env)]:=by rfl):
  PI X tg (.Call (.Name "range" p) [a,b] [] pos) (aG ta):=by
 intro pins s σ H R I h
 refine Call_ (DV I hg hm boot_range (kM (Aw (ha pos pins s σ H _ I h) fun us s1 ⟨vs,H1,I1,r1,q1⟩=>?_) (by rw[hs,hs2]) (by rw[hs2];rfl)))
 obtain⟨i,j,e,⟨q1,q2,q3,q4⟩,q⟩:=q1
 subst e
 cases r1 with
 |cons r rr=>
  cases rr with
  |cons r' rr=>
   cases rr
   obtain⟨t,rfl⟩:=r
   obtain⟨t',rfl⟩:=r'
   exact call_range_2 (Ko I1 q1 q2 q3 q4 q)
def dt(wi:TI)(g:TG)(tb:TS):TS:=fun D σ H=>wi σ H fun J H1=>∃W:Nat→Nat→St→Hp→Prop,(∃m,W 0 m σ H1)∧∀i m σ H,W i m σ H→
 (J.stop i H∧D.nx σ H)∨(J.go i H∧∃N:St→Hp→Prop,(∀σ' H',N σ' H'→∃m',m'<m∧W (i+1) m' σ' H')∧∀x H',J.yld i H x H'→g x σ H' fun σ2 H2=>tb {D with nx:=N,ct:=N,bk:=D.nx} σ2 H2)
def Gu(fp:List Addr)(h:Heap):List (Addr×Obj):=fp.filterMap fun b=> (h.get? b).map fun o=> (b,o)
theorem DA{fp:List Addr}{h:Heap}{b:Addr}{o:Obj}(hb:b∈fp)(e:h.get? b=some o):(b,o)∈Gu fp h:=k6.mpr ⟨b,hb,by rw[e];rfl⟩
theorem PK{fp:List Addr}{h:Heap}{p:Addr×Obj}(hp:p∈Gu fp h):p.1∈fp∧h.get? p.1=some p.2:=by
 obtain⟨b,hb,e⟩:=k6.mp hp
 cases q:h.get? b with
 |none=>rw[q] at e;cases e
 |some o=>
  rw[q] at e
  have e':(b,o)=p:=i8.inj e
  subst e'
  exact⟨hb,q⟩
theorem Inv.pinned{pins:List (Addr×Obj)}{σ:St}{H:Hp}{s:a9}{fp:List Addr}(I:Inv X pins σ H s)(hf:∀b∈fp,Gq X pins H b)(ho:∀b∈fp,∃o,s.heap.get? b=some o∧∀v,o.data≠.cell v):Inv X (pins++Gu fp s.heap) σ H s:=
 I.pins_of fun p hp=> (iO.mp hp).elim (fun z=>I.pin p (jr _ z)) fun z=>by
  obtain⟨hb,e⟩:=PK z
  obtain⟨f0,f1,f2,_⟩:=hf p.1 hb
  obtain⟨o,e',d⟩:=ho p.1 hb
  rw[e] at e';cases e'
  exact⟨e,f0,f1,f2,d⟩
theorem Inv.unpinned{pins pl:List (Addr×Obj)}{σ:St}{H:Hp}{s:a9}(I:Inv X (pins++pl) σ H s):Inv X pins σ H s:=I.pins_of fun p hp=>I.pin p (jr _ (kK _ hp))
theorem XT{iter:Expr}{body:List Stmt}{wi:TI}{g:TG}{tb:TS}{pos:Pos}(hp:oG (model X.prog X.w) X.A X.env X.xe)(hc:X.calm=true)(hi:PI X tg iter wi)(hg:PG X tg g)(hb:PSs X body tb)
  (hs:∀x,jX iter X.env x=pure x:=by intro _;rfl):PS X (.For tg iter body [] pos) (dt wi g tb):=by
 intro pins s σ H D I h
 refine wpAny_For (Aw (hi pins s σ H _ I h) fun v s1 h1=>Aw h1 fun itv s2 h2=>?_) hs
 obtain⟨it,fp,tn,J,H2,e,I2,T,st2,f2,W,⟨m0,w0⟩,turn⟩:=h2
 subst e
 have stat:∀{H':Hp},(∀b∈fp,H' b=none)→∀b∈fp,Gq X pins H' b:=fun hn b hb=> ⟨hn b hb,(f2 b hb).2⟩
 refine codeAny_forLoop_any (fun n s'=>∃i σ' H',Inv X pins σ' H' s'∧tn i s'.heap∧(∀b∈fp,H' b=none)∧W i n σ' H') ?_ m0 ⟨0,σ,H2,I2,st2,fun b hb=> (f2 b hb).1,w0⟩
 rintro n s3 ⟨i,σ3,H3,I3,st3,fr3,w3⟩
 rcases turn i n σ3 H3 w3 with⟨stop,qn⟩| ⟨go,N,hN,step⟩
 ·refine lK hp (Aw (T.done X rfl rfl rfl hc i pins s3 σ3 H3 X.xe I3 (stat fr3) st3 stop) fun r s4 ⟨hr,I4⟩=>?_)
  subst hr
  exact oi ⟨σ3,H3,I4,qn⟩
 ·refine lK hp (Aw (T.item X rfl rfl rfl hc i pins s3 σ3 H3 X.xe I3 (stat fr3) st3 go) fun r s4 ⟨u,hr,h4⟩=>?_)
  subst hr
  refine lK hp (Aw h4 fun _ s5 ⟨x,H5,I5,r5,y5,st5,fr5⟩=>?_)
  have I5':=I5.pinned (stat fr5) (T.obj _ _ st5)
  refine lK hp (Aw (hg _ s5 σ3 H5 x u _ I5' r5 (step x H5 y5)) fun _ s6 ⟨σ6,H6,I6,q6⟩=>?_)
  refine lK hp (Aw (hb _ s6 σ6 H6 _ I6 q6) fun f s7 q7=>?_)
  have again:∀{σ7:St} {H7:Hp},Inv X (pins++Gu fp s5.heap) σ7 H7 s7→N σ7 H7→∃m,m<n∧∃i σ' H',Inv X pins σ' H' s7∧tn i s7.heap∧(∀b∈fp,H' b=none)∧W i m σ' H':=fun{σ7 H7} I7 n7=>by
   obtain⟨m',hm,w7⟩:=hN σ7 H7 n7
   refine⟨m',hm,i+1,σ7,H7,I7.unpinned,T.keep _ _ _ st5 fun b hb o e=> (I7.pin (b,o) (jr _ (jr _ (DA hb e)))).1,fun b hb=>?_,w7⟩
   obtain⟨o,e,d⟩:=T.obj _ _ st5 b hb
   exact(I7.pin (b,o) (jr _ (jr _ (DA hb e)))).2.1
  cases f with
  |next=>obtain⟨σ7,H7,I7,n7⟩:=q7;exact again I7 n7
  |cont=>obtain⟨σ7,H7,I7,n7⟩:=q7;exact again I7 n7
  |brk=>obtain⟨σ7,H7,I7,q7⟩:=q7;exact⟨σ7,H7,I7.unpinned,q7⟩
  |ret v=>obtain⟨x7,σ7,H7,I7,r7,q7⟩:=q7;exact⟨x7,σ7,H7,I7.unpinned,r7,q7⟩
end
abbrev R2:=V→V→Hp→VK→Prop
def CY(X:Cx)(f:Value→Value→Sem Value)(r:R2):Prop:=
 ∀(pins:List (Addr×Obj)) (s:a9) (σ:St) (H:Hp) (x y:V) (v u:Value) (Q:VK),Inv X pins σ H s→RelV x v→RelV y u→r x y H Q→
  wpAny (model X.prog X.w) X.A (f v u) (EP X pins σ Q) X.xe s
def dH(X:Cx)(f:Value→Sem Value)(r:V→Hp→VK→Prop):Prop:=
 ∀(pins:List (Addr×Obj)) (s:a9) (σ:St) (H:Hp) (x:V) (v:Value) (Q:VK),Inv X pins σ H s→RelV x v→r x H Q→
  wpAny (model X.prog X.w) X.A (f v) (EP X pins σ Q) X.xe s
def BB(X:Cx)(f:Value)(r:List V→Hp→VK→Prop):Prop:=
 ∀(pins:List (Addr×Obj)) (s:a9) (σ:St) (H:Hp) (xs:List V) (us:List Value) (Q:VK),Inv X pins σ H s→Vals xs us→r xs H Q→
  wpAny (model X.prog X.w) X.A (call f us) (EP X pins σ Q) X.xe s
def du(X:Cx)(r:V→Hp→(Bool→Hp→Prop)→Prop):Prop:=
 ∀(pins:List (Addr×Obj)) (s:a9) (σ:St) (H:Hp) (x:V) (v:Value) (Q:Bool→Hp→Prop),Inv X pins σ H s→RelV x v→r x H Q→
  wpAny (model X.prog X.w) X.A (truthy v) (TP X pins σ Q) X.xe s
def aH(r:R2)(ta tb:TE):TE:=fun σ H Q=>ta σ H fun x H1=>tb σ H1 fun y H2=>r x y H2 Q
def fo(r:V→Hp→VK→Prop)(ta:TE):TE:=fun σ H Q=>ta σ H fun x H1=>r x H1 Q
def rI(C:Int→Int→Prop)(g:Int→Int→V):R2:=fun x y H Q=>∃i j,x=.int i∧y=.int j∧C i j∧Q (g i j) H
def UA(g:Int→Int→V):R2:=fun x y H Q=>∃i j,x=.int i∧y=.int j∧Q (g i j) H
def rU(g:Int→V):V→Hp→VK→Prop:=fun x H Q=>∃i,x=.int i∧Q (g i) H
section
variable{X:Cx}{a b c:Expr}{ta tb tc:TE}{pos:Pos}
theorem XU(ha:PE X a ta)(hb:PE X b tb){pins:List (Addr×Obj)}{s:a9}{σ:St}{H:Hp}{R:V→V→Hp→Prop}(I:Inv X pins σ H s)
  (h:ta σ H fun x H1=>tb σ H1 fun y H2=>R x y H2) {Q:Value→a9→Prop} {f:Value→Value→Sem Value}
  (hf:∀v u s2 x y H2,Inv X pins σ H2 s2→RelV x v→RelV y u→R x y H2→wpAny (model X.prog X.w) X.A (f v u) Q X.xe s2):
  wpAny (model X.prog X.w) X.A (eval a X.env) (fun v s₁=>wpAny (model X.prog X.w) X.A (eval b X.env) (fun u s₂=>wpAny (model X.prog X.w) X.A (f v u) Q X.xe s₂) X.xe s₁) X.xe s:=by
 refine Aw (ha pins s σ H _ I h) fun v s1 ⟨x,H1,I1,r1,q1⟩=>?_
 refine Aw (hb pins s1 σ H1 _ I1 q1) fun u s2 ⟨y,H2,I2,r2,q2⟩=>?_
 exact hf v u s2 x y H2 I2 r1 r2 q2
theorem aI{op:qz}{r:R2}(ho:CY X (lP op) r)(ha:PE X a ta)(hb:PE X b tb):PE X (.BinOp a op b pos) (aH r ta tb):=by
 intro pins s σ H Q I h
 exact wpAny_BinOp (XU ha hb I h fun v u s2 x y H2 I2 rx ry q=>ho pins s2 σ H2 x y v u Q I2 rx ry q)
theorem QY{op:UnaryOp}{r:V→Hp→VK→Prop}(ho:dH X (unaryOp op) r)(ha:PE X a ta):PE X (.UnaryOp op a pos) (fo r ta):=by
 intro pins s σ H Q I h
 exact UnaryOp_ (Aw (ha pins s σ H _ I h) fun v s1 ⟨x,H1,I1,r1,q1⟩=>ho pins s1 σ H1 x v Q I1 r1 q1)
theorem dI{f:Value→Value→Sem Value}{C:Int→Int→Prop}{g:Int→Int→Int}
  (rule:∀(i j:Int) (t u:Tok) (s:a9) (Q:Value→a9→Prop) (E:Value→a9→Prop),C i j→Q (.int (g i j) s.toks) {s with toks:=s.toks+1}→wpAny (model X.prog X.w) X.A (f (.int i t) (.int j u)) Q E s):
  CY X f (rI C fun i j=> .int (g i j)):=by
 intro pins s σ H x y v u Q I rx ry h
 obtain⟨i,j,rfl,rfl,hc,q⟩:=h
 obtain⟨t,rfl⟩:=rx
 obtain⟨t',rfl⟩:=ry
 exact rule i j t t' s _ _ hc ⟨.int (g i j),H,I.tok _,⟨_,rfl⟩,q⟩
theorem aJ{f:Value→Value→Sem Value}{g:Int→Int→Int}
  (rule:∀(i j:Int) (t u:Tok) (s:a9) (Q:Value→a9→Prop) (E:Value→a9→Prop),Q (.int (g i j) s.toks) {s with toks:=s.toks+1}→wpAny (model X.prog X.w) X.A (f (.int i t) (.int j u)) Q E s):
  CY X f (UA fun i j=> .int (g i j)):=by
 intro pins s σ H x y v u Q I rx ry h
 obtain⟨i,j,rfl,rfl,q⟩:=h
 obtain⟨t,rfl⟩:=rx
 obtain⟨t',rfl⟩:=ry
 exact rule i j t t' s _ _ ⟨.int (g i j),H,I.tok _,⟨_,rfl⟩,q⟩
theorem UK{f:Value→Value→Sem Value}{g:Int→Int→Bool}
  (rule:∀(i j:Int) (t u:Tok) (s:a9) (Q:Value→a9→Prop) (E:Value→a9→Prop),Q (.bool (g i j)) s→wpAny (model X.prog X.w) X.A (f (.int i t) (.int j u)) Q E s):
  CY X f (UA fun i j=> .bl (g i j)):=by
 intro pins s σ H x y v u Q I rx ry h
 obtain⟨i,j,rfl,rfl,q⟩:=h
 obtain⟨t,rfl⟩:=rx
 obtain⟨t',rfl⟩:=ry
 exact rule i j t t' s _ _ ⟨.bl (g i j),H,I,rfl,q⟩
def aK(i j:Int):Prop:=0<j∧j<1073741824
def aL(i j:Int):Prop:=0≤j∧j≤1000000∧i.natAbs<2^64
def CMul(i j:Int):Prop:=(-(2^64)<i∧i<2^64)∨(-(2^64)<j∧j<2^64)
theorem CMul.ok{i j:Int}(h:CMul i j):IntMulOk i j:=by
 rcases h with⟨h1,h2⟩| ⟨h1,h2⟩
 ·exact .of_left (intBits_le_64 h1 h2)
 ·exact .of_right (intBits_le_64 h1 h2)
theorem Gv:CY X (lP .Add) (UA fun i j=> .int (i+j)):=aJ fun _ _ _ _ _ _ _ q=>add_int q
theorem XW:CY X (lP .Sub) (UA fun i j=> .int (i-j)):=aJ fun _ _ _ _ _ _ _ q=>sub_int q
theorem XX:CY X (lP .Mult) (rI CMul fun i j=> .int (i*j)):=dI fun _ _ _ _ _ _ _ hc q=>mul_int q hc.ok
theorem UL:CY X (lP .FloorDiv) (rI aK fun i j=> .int (i/j)):=dI fun i j _ _ _ _ _ hc q=>by
 have h1:(0:Int)<j:=hc.1
 have h2:j<1073741824:=hc.2
 exact floordiv_int (by omega) (by rw[Int.fdiv_eq_ediv_of_nonneg i (by omega)];exact q) (.inl (PyProof.noPylong_small (by omega)))
theorem QZ:CY X (lP .Mod) (rI (fun _ j=>0<j) fun i j=> .int (i%j)):=dI fun i j _ _ _ _ _ hc q=>by
 have h1:(0:Int)<j:=hc
 exact mod_int' (by omega) (by rw[Int.fmod_eq_emod_of_nonneg i (by omega)];exact q)
theorem XY:CY X (lP .Pow) (rI aL fun i j=> .int (i^j.toNat)):=dI fun _ _ _ _ _ _ _ hc q=>pow_int_small hc.1 hc.2.1 hc.2.2 q
theorem fq{f:Value→Sem Value}{g:Int→Int}
  (rule:∀(i:Int) (t:Tok) (s:a9) (Q:Value→a9→Prop) (E:Value→a9→Prop),Q (.int (g i) s.toks) {s with toks:=s.toks+1}→wpAny (model X.prog X.w) X.A (f (.int i t)) Q E s):
  dH X f (rU fun i=> .int (g i)):=by
 intro pins s σ H x v Q I rx h
 obtain⟨i,rfl,q⟩:=h
 obtain⟨t,rfl⟩:=rx
 exact rule i t s _ _ ⟨.int (g i),H,I.tok _,⟨_,rfl⟩,q⟩
theorem MQ:dH X (unaryOp .USub) (rU fun i=> .int (-i)):=fq fun _ _ _ _ _ q=>neg_int q
end
def aM:V→V→Bool
 | .non,.non=>true| .non,.int _=>true| .int _,.non=>true| .non,.bl _=>true| .bl _,.non=>true| .non,.str _=>true| .str _,.non=>true
 | .int _,.int _=>true| .bl _,.bl _=>true| .str _,.str _=>true| .byt _,.byt _=>true
 | .int _,.str _=>true| .str _,.int _=>true| .bl _,.str _=>true| .str _,.bl _=>true
 |_,_=>false
def dv:R2:=fun x y H Q=>aM x y=true∧Q (.bl (decide (x=y))) H
def dw:R2:=fun x y H Q=>aM x y=true∧Q (.bl (!decide (x=y))) H
theorem Ni{i j:Int}:decide (V.int i=V.int j)=(i==j):=by
 rw[jW]
 simp
theorem JZ{i j:Bool}:decide (V.bl i=V.bl j)=(i==j):=by
 rw[jW]
 simp
theorem Nj{i j:Str}:decide (V.str i=V.str j)=(i==j):=by
 rw[jW]
 simp
theorem Nk{i j:Array UInt8}:decide (V.byt i=V.byt j)=(i.toList==j.toList):=by
 rw[jW]
 cases i
 cases j
 simp
section
variable{X:Cx}{a b c:Expr}{ta tb tc:TE}{pos:Pos}
theorem Aa{pins:List (Addr×Obj)}{σ:St}{H:Hp}{s:a9}{Q:VK}{k k':Bool}(I:Inv X pins σ H s)(q:Q (.bl k) H)(e:k=k'):EP X pins σ Q (.bool k') s:=by
 subst e
 exact⟨.bl k,H,I,rfl,q⟩
theorem Kq:CY X (jB .Eq) dv:=by
 intro pins s σ H x y v u Q I rx ry h
 obtain⟨hs,q⟩:=h
 cases x with
 |non=>
  cases rx
  cases y with
  |non=>cases ry;exact PySem.EqNone.eq_none_none (Aa I q (by simp))
  |bl j=>cases ry;exact PySem.EqNone.eq_none_bool (Aa I q (by simp))
  |int j=>obtain⟨t',rfl⟩:=ry;exact PySem.EqNone.eq_none_int (Aa I q (by simp))
  |str j=>obtain⟨t',rfl⟩:=ry;exact PySem.EqNone.eq_none_str (Aa I q (by simp))
  |_=>exact absurd (show false=true from hs) gx
 |bl i=>
  cases rx
  cases y with
  |non=>cases ry;exact PySem.EqNone.eq_bool_none (Aa I q (by simp))
  |bl j=>cases ry;exact eq_bool (Aa I q JZ)
  |str j=>obtain⟨t',rfl⟩:=ry;exact PySem.EqMixed.eq_bool_str (Aa I q (by simp))
  |_=>exact absurd (show false=true from hs) gx
 |int i=>
  obtain⟨t,rfl⟩:=rx
  cases y with
  |non=>cases ry;exact PySem.EqNone.eq_int_none (Aa I q (by simp))
  |int j=>obtain⟨t',rfl⟩:=ry;exact eq_int (Aa I q Ni)
  |str j=>obtain⟨t',rfl⟩:=ry;exact PySem.EqMixed.eq_int_str (Aa I q (by simp))
  |_=>exact absurd (show false=true from hs) gx
 |str i=>
  obtain⟨t,rfl⟩:=rx
  cases y with
  |non=>cases ry;exact PySem.EqNone.eq_str_none (Aa I q (by simp))
  |bl j=>cases ry;exact PySem.EqMixed.eq_str_bool (Aa I q (by simp))
  |int j=>obtain⟨t',rfl⟩:=ry;exact PySem.EqMixed.eq_str_int (Aa I q (by simp))
  |str j=>obtain⟨t',rfl⟩:=ry;exact eq_str (Aa I q Nj)
  |_=>exact absurd (show false=true from hs) gx
 |byt i=>
  obtain⟨t,rfl⟩:=rx
  cases y with
  |byt j=>obtain⟨t',rfl⟩:=ry;exact PySem.W.eq_bytes (Aa I q Nk)
  |_=>exact absurd (show false=true from hs) gx
 |_=>cases y<;>exact absurd (show false=true from hs) gx
theorem Qa:CY X (jB .NotEq) dw:=by
 intro pins s σ H x y v u Q I rx ry h
 obtain⟨hs,q⟩:=h
 cases x with
 |non=>
  cases rx
  cases y with
  |non=>cases ry;exact PySem.EqNone.ne_none_none (Aa I q (by simp))
  |bl j=>cases ry;exact PySem.EqNone.ne_none_bool (Aa I q (by simp))
  |int j=>obtain⟨t',rfl⟩:=ry;exact PySem.EqNone.ne_none_int (Aa I q (by simp))
  |str j=>obtain⟨t',rfl⟩:=ry;exact PySem.EqNone.ne_none_str (Aa I q (by simp))
  |_=>exact absurd (show false=true from hs) gx
 |bl i=>
  cases rx
  cases y with
  |non=>cases ry;exact PySem.EqNone.ne_bool_none (Aa I q (by simp))
  |bl j=>cases ry;exact ne_bool (Aa I q (congrArg not JZ))
  |str j=>obtain⟨t',rfl⟩:=ry;exact PySem.EqMixed.ne_bool_str (Aa I q (by simp))
  |_=>exact absurd (show false=true from hs) gx
 |int i=>
  obtain⟨t,rfl⟩:=rx
  cases y with
  |non=>cases ry;exact PySem.EqNone.ne_int_none (Aa I q (by simp))
  |int j=>obtain⟨t',rfl⟩:=ry;exact ne_int (Aa I q (congrArg not Ni))
  |str j=>obtain⟨t',rfl⟩:=ry;exact PySem.EqMixed.ne_int_str (Aa I q (by simp))
  |_=>exact absurd (show false=true from hs) gx
 |str i=>
  obtain⟨t,rfl⟩:=rx
  cases y with
  |non=>cases ry;exact PySem.EqNone.ne_str_none (Aa I q (by simp))
  |bl j=>cases ry;exact PySem.EqMixed.ne_str_bool (Aa I q (by simp))
  |int j=>obtain⟨t',rfl⟩:=ry;exact PySem.EqMixed.ne_str_int (Aa I q (by simp))
  |str j=>obtain⟨t',rfl⟩:=ry;exact ne_str (Aa I q (congrArg not Nj))
  |_=>exact absurd (show false=true from hs) gx
 |byt i=>
  obtain⟨t,rfl⟩:=rx
  cases y with
  |byt j=>obtain⟨t',rfl⟩:=ry;exact PySem.W.ne_bytes (Aa I q (congrArg not Nk))
  |_=>exact absurd (show false=true from hs) gx
 |_=>cases y<;>exact absurd (show false=true from hs) gx
theorem Qb:CY X (jB .Lt) (UA fun i j=> .bl (decide (i<j))):=UK fun _ _ _ _ _ _ _ q=>lt_int q
theorem WN:CY X (jB .LtE) (UA fun i j=> .bl (decide (i≤j))):=UK fun _ _ _ _ _ _ _ q=>le_int q
theorem WO:CY X (jB .Gt) (UA fun i j=> .bl (decide (j<i))):=UK fun _ _ _ _ _ _ _ q=>gt_int q
theorem aN:CY X (jB .GtE) (UA fun i j=> .bl (decide (j≤i))):=UK fun _ _ _ _ _ _ _ q=>ge_int q
theorem Qc:CY X (jB .Is) (fun x y H Q=>y=.non∧Q (.bl (decide (x=.non))) H):=by
 intro pins s σ H x y v u Q I rx ry h
 obtain⟨rfl,q⟩:=h
 cases ry
 refine is_none_gen (Aa I q ?_)
 cases x<;>first
  | (cases rx;rfl)
  | (obtain⟨t,rfl⟩:=rx;rfl)
theorem Nl:CY X (jB .IsNot) (fun x y H Q=>y=.non∧Q (.bl (!decide (x=.non))) H):=by
 intro pins s σ H x y v u Q I rx ry h
 obtain⟨rfl,q⟩:=h
 cases ry
 refine isnot_none_gen (Aa I q ?_)
 cases x<;>first
  | (cases rx;rfl)
  | (obtain⟨t,rfl⟩:=rx;rfl)
theorem Ai(b:Expr){op:CmpOp}(h:op≠.In:=by decide)(h2:op≠.NotIn:=by decide):behindInMarks op b=false:=by
 have e1:(op==CmpOp.In)=false:=by cases op<;>first|rfl|exact absurd rfl h
 have e2:(op==CmpOp.NotIn)=false:=by cases op<;>first|rfl|exact absurd rfl h2
 cases b<;>simp[behindInMarks,e1,e2]
theorem UM{op:CmpOp}{r:R2}(ho:CY X (jB op) r)(ha:PE X a ta)(hb:PE X b tb)(hm:behindInMarks op b=false):PE X (.Compare a [op] [b] pos) (aH r ta tb):=by
 intro pins s σ H Q I h
 exact wpAny_Compare1 (XU ha hb I h fun v u s2 x y H2 I2 rx ry q=>ho pins s2 σ H2 x y v u Q I2 rx ry q) hm
def aO(t:TE):TT:=fun σ H Q=>t σ H fun x H'=>∃k,x=.bl k∧Q k H'
theorem Nn{op:CmpOp}{r:R2}(ho:CY X (jB op) r)(ha:PE X a ta)(hb:PE X b tb)(hm:behindInMarks op b=false):PT X (.Compare a [op] [b] pos) (aO (aH r ta tb)):=by
 intro pins s σ H Q I h
 refine wpAny_isTrue_Compare1 (Aw (ha pins s σ H _ I h) fun v s1 ⟨x,H1,I1,r1,q1⟩=>Aw (hb pins s1 σ H1 _ I1 q1) fun u s2 ⟨y,H2,I2,r2,q2⟩=>
  Aw (ho pins s2 σ H2 x y v u _ I2 r1 r2 q2) fun c s3 ⟨z,H3,I3,r3,k,e,q3⟩=>?_) hm
 subst e
 cases r3
 exact lj ⟨H3,I3,q3⟩
def XZ(r r':R2)(ta tb tc:TE):TE:=fun σ H Q=>ta σ H fun x H1=>tb σ H1 fun y H2=>r x y H2 fun z H3=>∃k,z=.bl k∧
 (if k=true then tc σ H3 fun w' H4=>r' y w' H4 Q else Q (.bl false) H3)
theorem Qd{op op':CmpOp}{r r':R2}(ho:CY X (jB op) r)(ho':CY X (jB op') r')(ha:PE X a ta)(hb:PE X b tb)(hc:PE X c tc)
  (hm:lastMarks [op,op'] [b,c]=false:=by with_unfolding_all rfl):PE X (.Compare a [op,op'] [b,c] pos) (XZ r r' ta tb tc):=by
 intro pins s σ H Q I h
 refine Compare_chain (Aw (ha pins s σ H _ I h) fun v s1 ⟨x,H1,I1,r1,q1⟩=>chain_link (Aw (hb pins s1 σ H1 _ I1 q1) fun u s2 ⟨y,H2,I2,r2,q2⟩=>
  Aw (ho pins s2 σ H2 x y v u _ I2 r1 r2 q2) fun d s3 ⟨z,H3,I3,r3,k,e,q3⟩=>?_)) hm
 subst e
 cases r3
 refine lj ?_
 cases k with
 |false=>exact ite_ff ⟨.bl false,H3,I3,rfl,q3⟩
 |true=>exact ite_tt (chain_last (Aw (hc pins s3 σ H3 _ I3 q3) fun w' s4 ⟨z',H4,I4,r4,q4⟩=>ho' pins s4 σ H4 y z' u w' Q I4 r2 r4 q4))
def Xa(K:a8)(x:V)(H:Hp)(k:Bool):Prop:=
 match x with
 | .non=>k=false
 | .bl b=>k=b
 | .int i=>k=(i !=0)
 | .str y=>y.length≤sizeLine∧k=((y.length:Int) !=0)
 | .byt y=>y.size≤sizeLine∧k=((y.size:Int) !=0)
 | .ref p=> (∃xs,Cz K H p xs∧k=!xs.isEmpty)∨(∃xs,DT K H p xs∧k=!xs.isEmpty)∨∃kvs,H p=some (.dK kvs)∧k=!kvs.isEmpty
 |_=>False
theorem MR{κ:Type}{kvs:List (κ×V)}{vs:List (κ×Value)}(r:KV kvs vs):(!vs.isEmpty)=!kvs.isEmpty:=by
 cases r<;>rfl
theorem Gx{xs:List V}{its:List Value}(r:Vals xs its):(!its.toArray.isEmpty)=!xs.isEmpty:=by
 cases r<;>simp
theorem Gy:(sizeLine:Nat)<2^63:=by rw[jC];decide
theorem Xb:du X (fun x H Q=>∃k,Xa X.K x H k∧Q k H):=by
 intro pins s σ H x v Q I rx h
 obtain⟨k,e,q⟩:=h
 have hl:=Gy
 have hs:sizeLine=16777216:=jC
 cases x with
 |non=>
  cases rx
  have e':k=false:=e
  subst e'
  exact truthy_none ⟨H,I,q⟩
 |bl b=>
  cases rx
  have e':k=b:=e
  subst e'
  exact lj ⟨H,I,q⟩
 |int i=>
  obtain⟨t,rfl⟩:=rx
  have e':k=(i !=0):=e
  subst e'
  exact PySem.P.truthy_int ⟨H,I,q⟩
 |str y=>
  obtain⟨t,rfl⟩:=rx
  obtain⟨hy,e'⟩:y.length≤sizeLine∧k=((y.length:Int) !=0):=e
  subst e'
  exact PySem.P.truthy_str (by omega) ⟨H,I.tok _,q⟩
 |byt y=>
  obtain⟨t,rfl⟩:=rx
  obtain⟨hy,e'⟩:y.size≤sizeLine∧k=((y.size:Int) !=0):=e
  subst e'
  exact PySem.W.truthy_bytes (by omega) ⟨H,I.tok _,q⟩
 |ref p=>
  cases rx
  have e':(∃xs,Cz X.K H p xs∧k=!xs.isEmpty)∨(∃xs,DT X.K H p xs∧k=!xs.isEmpty)∨∃kvs,H p=some (.dK kvs)∧k=!kvs.isEmpty:=e
  rcases e' with⟨xs,hx,e'⟩| ⟨xs,hx,e'⟩| ⟨kvs,hx,e'⟩
  ·subst e'
   obtain⟨its,r,pl,hz⟩:=I.list hx
   have hlen:=r.length
   exact wpAny_truthy_list pl.isList (by simp only[iu];omega) ⟨H,I.tok _,by rw[Gx r];exact q⟩
  ·subst e'
   obtain⟨its,r,pl,hz⟩:=I.tuple hx
   have hlen:=r.length
   exact truthy_tuple pl (by simp only[iu];omega) ⟨H,I.tok _,by rw[Gx r];exact q⟩
  ·subst e'
   obtain⟨hz,hS,vs,r,m⟩:kvs.length≤sizeLine∧(p==sysModules)=false∧∃vs,KV kvs vs∧s.heap.DictOf (JT X.prog X.w) p vs:=I.hok p _ hx
   have hlen:kvs.length=vs.length:=Paired.length r
   exact wpAny_truthy_dict hS m (by omega) ⟨H,I.tok _,by rw[MR r];exact q⟩
 |_=>exact(show False from e).elim
theorem Qe(ha:PE X a ta)(he:∀whole,isTrue a X.env whole=(do let v←whole;standAt a.pos;holding [v] (truthy v))):
  PT X a (fun σ H Q=>ta σ H fun x H'=>∃k,Xa X.K x H' k∧Q k H'):=by
 intro pins s σ H Q I h
 exact isTrue_plain (Aw (ha pins s σ H _ I h) fun v s1 ⟨x,H1,I1,r1,q1⟩=>Xb pins s1 σ H1 x v Q I1 r1 q1) (he _)
theorem Cj{x:V}{us:List Value}(r:Vals [x] us):∃u,us=[u]∧RelV x u:=by
 cases r with
 |cons r1 r2=>cases r2;exact⟨_,rfl,r1⟩
theorem Np{x y:V}{us:List Value}(r:Vals [x,y] us):∃u w',us=[u,w']∧RelV x u∧RelV y w':=by
 cases r with
 |cons r1 r2=>
  cases r2 with
  |cons r3 r4=>cases r4;exact⟨_,_,rfl,r1,r3⟩
theorem PL(hc:X.calm=true):BB X (.builtin "max") (fun xs H Q=>∃i j,xs=[.int i,.int j]∧Q (.int (if j>i then j else i)) H):=by
 intro pins s σ H xs us Q I r h
 obtain⟨i,j,rfl,q⟩:=h
 obtain⟨u,w',rfl,⟨t,rfl⟩,⟨t',rfl⟩⟩:=Np r
 refine max_two_ints (I.ok.hd hc) fun h' tk k=> ⟨_,H,I.kept k,?_,q⟩
 by_cases hj:j>i
 ·rw[if_pos hj,if_pos hj];exact⟨_,rfl⟩
 ·rw[if_neg hj,if_neg hj];exact⟨_,rfl⟩
theorem PM(hc:X.calm=true):BB X (.builtin "min") (fun xs H Q=>∃i j,xs=[.int i,.int j]∧Q (.int (if j<i then j else i)) H):=by
 intro pins s σ H xs us Q I r h
 obtain⟨i,j,rfl,q⟩:=h
 obtain⟨u,w',rfl,⟨t,rfl⟩,⟨t',rfl⟩⟩:=Np r
 refine min_two_ints (I.ok.hd hc) fun h' tk k=> ⟨_,H,I.kept k,?_,q⟩
 by_cases hj:j<i
 ·rw[if_pos hj,if_pos hj];exact⟨_,rfl⟩
 ·rw[if_neg hj,if_neg hj];exact⟨_,rfl⟩
theorem PN:BB X (.type "int") (fun xs H Q=> (∃i,xs=[.int i]∧Q (.int i) H)∨∃k,xs=[.bl k]∧Q (.int (if k then 1 else 0)) H):=by
 intro pins s σ H xs us Q I r h
 rcases h with⟨i,rfl,q⟩| ⟨k,rfl,q⟩
 ·obtain⟨u,rfl,t,rfl⟩:=Cj r
  exact call_int_int ⟨.int i,H,I,⟨_,rfl⟩,q⟩
 ·obtain⟨u,rfl,r1⟩:=Cj r
  cases r1
  exact call_int_bool ⟨.int (if k then 1 else 0),H,I.tok _,⟨_,rfl⟩,q⟩
end
structure ObjM(h:Heap)(x dx C:Addr)(mA:Str→Option Value):Prop where
 obj:h.get? x=some (qf C dx)
 ns:h.Ns1 dx mA
 ne:dx≠x
theorem PP{h:Heap}{dx:Addr}{mA:Str→Option Value}(n:h.Ns1 dx mA):∃od,h.get? dx=some od∧∀name,qx name od=some (mA name):=by
 obtain⟨o,es,ep,ho,hd,hk,_,hm⟩:=n
 refine⟨o,ho,fun name=>?_⟩
 have e:=hm name
 unfold nsFind findBy at e
 rw[←Array.find?_toList] at e
 unfold qx
 rw[hd]
 dsimp only
 split
 ·rename_i y q
  rw[q] at e
  exact congrArg some e
 ·rename_i q
  rw[q] at e
  have a:es.toList.any (·.refKey)=false:=by
   rw[List.any_eq_false]
   intro y hy
   obtain⟨z,t,hkey⟩:=hk y (Array.mem_toList_iff.mp hy)
   simp[DictEntry.refKey,hkey]
  have a':¬es.toList.any (·.refKey)=true:=by rw[a];exact gx
  rw[if_neg a']
  exact congrArg some e
theorem ObjM.look{h:Heap}{x dx C:Addr}{mA:Str→Option Value}(I:ObjM h x dx C mA):∃od,PySem.W.InstAt h x (qf C dx) C (some od)∧∀name,qx name od=some (mA name):=
 let⟨od,ho,hl⟩:=PP I.ns
 ⟨od,⟨I.obj,rfl,rfl,ho⟩,hl⟩
section
variable{prog:Program}{w:World}{A:iC}{E:Value→a9→Prop}{s:a9}{K:a8}{x dx C f:Addr}{mA:Str→Option Value}{name:Str}{v:Value}
end
section
variable{P:Program}{w:World}{H H':Hp}{h h':Heap}{a C dx:Addr}{fs fs':List (Str×V)}
theorem UN(hok:HOk P w H h)(e:H a=some (.ins C dx fs)):∃mA,ObjM h a dx C mA∧(∀f,UD (fs.lookup f) (mA f))∧rK mA (fs.map (·.1))∧fs.length≤1000∧H dx=some (.own a):=by
 obtain⟨d,z,ne,ob,mA,n,r,q⟩:=(show ObjOk P w H h a (.ins C dx fs) from hok a _ e)
 exact⟨mA,⟨ob,n,ne⟩,r,q,z,d⟩
end
structure Cls(K:a8)(C:Addr):Prop where
 pg:PySem.W.plainGet K C Str.empty=true
 hd:PySem.W.hasDictIn K C=true
 po:PySem.W.plainOver K C=true
 sa:nD K (.ref C) "__setattr__" =some (some (.builtin "object.__setattr__"))
theorem Cls.get{K:a8}{C:Addr}(c:Cls K C)(f:Str):PySem.W.plainGet K C f=true:=c.pg
section
variable{X:Cx}{pins:List (Addr×Obj)}{σ:St}{H:Hp}{s:a9}{a C dx:Addr}{fs:List (Str×V)}{f:Str}{v:V}{A:iC}{E:Value→a9→Prop}
end
section
variable{X:Cx}{o e value:Expr}{f:Str}{pos pos' tpos:Pos}{ta tv:TE}
end
section
variable{X:Cx}{pins:List (Addr×Obj)}{σ:St}{H:Hp}{s:a9}{A:iC}{E:Value→a9→Prop}{Q:Value→a9→Prop}{c:Value}{b:Bool}
inductive TyOf(K:a8)(H:Hp):V→Value→Prop where
 |non:TyOf K H .non (.type "NoneType")
 |bl (x:Bool):TyOf K H (.bl x) (.type "bool")
 |int (i:Int):TyOf K H (.int i) (.type "int")
 |str (x:Str):TyOf K H (.str x) (.type "str")
 |flt (x:UInt64):TyOf K H (.flt x) (.type "float")
 |lst {a:Addr} {xs:List V} (e:H a=some (.lst xs)):TyOf K H (.ref a) (.type "list")
 |frz {a:Addr} {o:Obj} {xs:List V} (e:H a=some (.frz o (.lst xs))):TyOf K H (.ref a) (.type "list")
 |tup {a:Addr} {xs:List V} (e:H a=some (.tup xs)):TyOf K H (.ref a) (.type "tuple")
 |dK {a:Addr} {kvs:List (Ki×V)} (e:H a=some (.dK kvs)):TyOf K H (.ref a) (.type "dict")
 |dT {a:Addr} {kvs:List (List Ki×V)} (e:H a=some (.dT kvs)):TyOf K H (.ref a) (.type "dict")
 |ins {a C dx:Addr} {fs:List (Str×V)} (e:H a=some (.ins C dx fs)) (cl:Cls K C) (ha:nD K (.ref C) "__class__" =some (some (.builtin "object.__class__")))
   (hn:PySem.W.specialIn K (.builtin "object.__class__") "__get__" =some (some (.builtin "getset_descriptor.__get__"))) (htk:PySem.W.takesIn K (.builtin "object.__class__")=some true)
   (hm:pF K C (.type "object")=some true):TyOf K H (.ref a) (.ref C)
theorem PQ{x:V}{u t:Value}(I:Inv X pins σ H s)(rx:RelV x u)(ty:TyOf X.K H x t)(e:iP X.K t c=some b)(h:∀tk,Q (.bool b) {s with toks:=tk}):
  wpAny (model X.prog X.w) A (call (.builtin "isinstance") [u,c]) Q E s:=by
 cases ty with
 |non=>cases(show u=kZ from rx);exact j9 PySem.W.kitx_none I.kIn pY e (fun z=>nomatch z) h
 |bl y=>cases(show u=nP y from rx);exact j9 PySem.W.kitx_bool I.kIn pY e (fun z=>nomatch z) h
 |int i=>obtain⟨t,q⟩:=(show∃t,u=pO i t from rx);cases q;exact j9 PySem.W.kitx_int I.kIn pY e (fun z=>nomatch z) h
 |str y=>obtain⟨t,q⟩:=(show∃t,u=rW y t from rx);cases q;exact j9 PySem.W.kitx_str I.kIn pY e (fun z=>nomatch z) h
 |flt y=>obtain⟨t,q⟩:=(show∃t,u=Value.float y t from rx);cases q;exact j9 PySem.W.kitx_float I.kIn pY e (fun z=>nomatch z) h
 | @lst a xs ea=>
  cases(show u=Value.ref a from rx)
  obtain⟨_,_,n,_,h1⟩:=(show ObjOk X.prog X.w H s.heap a (.lst xs) from I.hok a _ ea)
  exact j9 PySem.W.kitx_list I.kIn ⟨_,h1,rfl⟩ e (fun z=>nomatch z) h
 | @frz a ob xs ea=>
  cases(show u=Value.ref a from rx)
  obtain⟨_,_,_,n,_,h1⟩:=(show ObjOk X.prog X.w H s.heap a (.frz ob (.lst xs)) from I.hok a _ ea)
  exact j9 PySem.W.kitx_list I.kIn ⟨_,h1,rfl⟩ e (fun z=>nomatch z) h
 | @tup a xs ea=>
  cases(show u=Value.ref a from rx)
  obtain⟨_,_,_,p⟩:=(show ObjOk X.prog X.w H s.heap a (.tup xs) from I.hok a _ ea)
  obtain⟨o,h1,h2,_⟩:=p
  exact j9 PySem.W.kitx_tuple I.kIn ⟨o,h1,h2⟩ e (fun z=>nomatch z) h
 | @dK a kvs ea=>
  cases(show u=Value.ref a from rx)
  obtain⟨_,_,vs,_,p⟩:=(show ObjOk X.prog X.w H s.heap a (.dK kvs) from I.hok a _ ea)
  obtain⟨o,es,ep,h1,h2,_⟩:=p
  exact j9 PySem.W.kitx_dict I.kIn ⟨o,h1,h2.1⟩ e (fun z=>nomatch z) h
 | @dT a kvs ea=>
  cases(show u=Value.ref a from rx)
  obtain⟨_,_,xs,_,o,es,ep,h1,h2,_⟩:=(show ObjOk X.prog X.w H s.heap a (.dT kvs) from I.hok a _ ea)
  exact j9 PySem.W.kitx_dict I.kIn ⟨o,h1,h2.1⟩ e (fun z=>nomatch z) h
 | @ins a C dx fs ea cl ha hn htk hm=>
  cases(show u=Value.ref a from rx)
  obtain⟨mA,O,_⟩:=UN I.hok ea
  obtain⟨od,J,_⟩:=O.look
  exact j9 (PySem.W.kitx_own (cl.get _) cl.hd ha hn htk hm) I.kIn J e (fun z=>nomatch z) h
end
structure Room(k:Nat)(A:iC):Prop where
 hd:A.handled=none
 dp:A.depth+3*k+5<recursionLimit
 un:A.units+16*k+200<cLine
 gd:A.guards=some []
theorem Room.mono{j k:Nat}{A:iC}(r:Room k A)(h:j≤k):Room j A:=⟨r.hd,by have:=r.dp;omega,by have:=r.un;omega,r.gd⟩
theorem Room.deeper{k:Nat}{A:iC}(r:Room (k+1) A)(env:Env):Room k (A.deeper env):=
 ⟨r.hd,by have:=r.dp;show A.depth+1+3*k+5<_;omega,by have:=r.un;show A.units+3+16*k+200<_;omega,r.gd⟩
theorem Room.depth{k:Nat}{A:iC}(r:Room k A):A.depth<recursionLimit:=by have:=r.dp;omega
def dy:TA:=fun _ H Q=>Q [] H
def aP(ta:TE)(tr:TA):TA:=fun σ H Q=>ta σ H fun x H1=>tr σ H1 fun xs H2=>Q (x::xs) H2
section
variable{X:Cx}{e:Expr}{es:List Expr}{te:TE}{t:TA}{pos:Pos}
theorem FZ:PA X [] dy:=fun _ _ _ _ H Q I h=>Calls.spliced_nil ⟨[],H,I,.nil,h⟩
theorem Dm(ha:PE X e te)(hr:PA X es t)(hs:e8 (e::es) X.env=(false,eval e X.env)::e8 es X.env:=by rfl):PA X (e::es) (aP te t):=by
 intro pos pins s σ H Q I h
 rw[hs]
 show wpAny _ _ (spliced ((false,eval e X.env)::lz pos (e8 es X.env))) _ _ s
 refine Calls.spliced_cons (Aw (ha pins s σ H _ I h) fun u s1 ⟨x,H1,I1,r1,q1⟩=>?_)
 exact Aw (hr pos pins s1 σ H1 _ I1 q1) fun us s2 ⟨xs,H2,I2,r2,q2⟩=> ⟨x::xs,H2,I2,.cons r1 r2,q2⟩
def dz(t:TA):TE:=fun σ H Q=>t σ H fun xs H1=>xs.length≤sizeLine∧∀p,H1 p=none→Q (.ref p) (upd H1 p (.tup xs))
def eB(t:TA):TE:=fun σ H Q=>t σ H fun xs H1=>xs.length≤sizeLine∧∀p,H1 p=none→Q (.ref p) (upd H1 p (.lst xs))
theorem Xc{x1}(h:PA X es t):PE X (.Tuple es x1 pos) (dz t):=by
 intro pins s σ H Q I hq
 refine wpAny_Tuple_spliced (Aw (h pos pins s σ H _ I hq) fun us s1 ⟨xs,H1,I1,r,z,q⟩=> ⟨by rw[←r.length];exact z,?_⟩)
 have hf:H1 s1.heap.objs.size=none:=I1.hok.fresh (hC _)
 refine⟨.ref s1.heap.objs.size,upd H1 s1.heap.objs.size (.tup xs),I1.laid (t':=s1.toks) (fun b u e=>e6 _ e) (hC _) ?_,rfl,q _ hf⟩
 exact⟨z,us,r,⟨_,iz _ rfl,rfl,_,rfl⟩⟩
theorem Qf(h:PA X es t):PE X (.List es pos) (eB t):=by
 intro pins s σ H Q I hq
 refine wpAny_List_spliced (Aw (h pos pins s σ H _ I hq) fun us s1 ⟨xs,H1,I1,r,z,q⟩=> ⟨by rw[←r.length];exact z,?_⟩)
 have hf:H1 s1.heap.objs.size=none:=I1.hok.fresh (hC _)
 refine⟨.ref s1.heap.objs.size,upd H1 s1.heap.objs.size (.lst xs),I1.laid (t':=s1.toks) (fun b u e=>e6 _ e) (hC _) ?_,rfl,q _ hf⟩
 exact⟨z,us,0,r,iz _ rfl⟩
end
abbrev Sp:=List V→Hp→VK→XK→Prop
abbrev QQ:=List Env→Hp→a9→XK→Value→a9→Prop
structure Env0(P:Program)(w:World)(K:a8)(mg:Str→Option Value)(base:Heap)(A:iC)(outer:List Env)(s:a9)(H:Hp):Prop where
 frames:A.frames=some outer
 mod:Mod K mg base
 bs:∀b o,base.get? b=some o→s.heap.get? b=some o∧H b=none
 bsz:base.objs.size≤s.heap.objs.size
 funs:s.heap.FunFrames base outer
 frf:∀b∈IL outer,H b=none
 hok:HOk P w H s.heap
 bare:oD s.gens
def CE(outer:List Env)(P:Program)(w:World)(H:Hp)(s:a9)(Q:VK)(u:Value)(s':a9):Prop:=
 ∃v H',s'.os=s.os∧oD s'.gens∧Un (IL outer) [] H H' s.heap s'.heap∧HOk P w H' s'.heap∧RelV v u∧Q v H'
def CR(CX:QQ)(outer:List Env)(P:Program)(w:World)(H:Hp)(s:a9)(Q:VK)(E:XK)(r:rX)(s':a9):Prop:=
 match r with
 | .ok (.ret u)=>CE outer P w H s Q u s'
 | .ok _=>False
 | .error e=>CX outer H s E e s'
structure FnOk(P:Program)(w:World)(K:a8)(mg:Str→Option Value)(base:Heap)(CX:QQ)(k:Nat)(f:Addr)(fd:iI)(ps:List Str)(sp:Sp):Prop where
 len:∀vs H Q E,sp vs H Q E→vs.length=ps.length
 run:∀(A:iC) (outer:List Env) (s:a9) (H:Hp) (args:Args) (us:List Value) (vs:List V) (Q:VK) (E:XK),Room k A→Env0 P w K mg base A outer s H→rS s fd args (ps.zip us)→Vals vs us→sp vs H Q E→
  mQ (model P w) A (.call (.ref f) args) (CR CX outer P w H s Q E) s
theorem FnOk.mono{P:Program}{w:World}{K:a8}{mg:Str→Option Value}{base:Heap}{CX:QQ}{j k:Nat}{f:Addr}{fd:iI}{ps:List Str}{sp:Sp}(F:FnOk P w K mg base CX j f fd ps sp)(h:j≤k):
  FnOk P w K mg base CX k f fd ps sp:=⟨F.len,fun A outer s H args us vs Q E hr=>F.run A outer s H args us vs Q E (hr.mono h)⟩
theorem FnOk.imp{P:Program}{w:World}{K:a8}{mg:Str→Option Value}{base:Heap}{CX:QQ}{k:Nat}{f:Addr}{fd:iI}{ps:List Str}{sp sp':Sp}(F:FnOk P w K mg base CX k f fd ps sp)
  (h:∀vs H Q E,sp' vs H Q E→sp vs H Q E):FnOk P w K mg base CX k f fd ps sp':=
 ⟨fun vs H Q E q=>F.len vs H Q E (h _ _ _ _ q),fun A outer s H args us vs Q E hr he hb hv hs=>F.run A outer s H args us vs Q E hr he hb hv (h _ _ _ _ hs)⟩
section
variable{X:Cx}{pins:List (Addr×Obj)}{σ:St}{H:Hp}{s s':a9}
theorem Inv.env0(I:Inv X pins σ H s):Env0 X.prog X.w X.K X.mg X.base X.A X.stack s H:=
 ⟨I.ok.frames,I.ok.mod,I.bs,jv I.ok.bsz I.sz,I.stack,I.stkFree,I.hok,I.bare⟩
theorem Inv.after{Q:VK}{u:Value}(I:Inv X pins σ H s)(h:CE X.stack X.prog X.w H s Q u s'):EP X pins σ Q u s':=by
 obtain⟨v,H',os,bare,un,hok,r,q⟩:=h
 obtain⟨hh,g,d,t,os'⟩:=s'
 obtain rfl:os'=s.os:=os
 exact⟨v,H',I.call (h':=hh) (g':=g) (d':=d) (t':=t) (ch:=[]) un hok bare (fun b z=>absurd z (by simp)),r,q⟩
end
def Binds(K:a8)(fd:iI)(ps:List Str)(ds:List Value):Prop:=
 ∀(s:a9) (us:List Value),K.In s.heap→(us++ds).length=ps.length→rS s fd ⟨us,[]⟩ (ps.zip (us++ds))
theorem Binds.all{K:a8}{fd:iI}{ps:List Str}(h:∀us:List Value,us.length=ps.length→bindArgs fd ⟨us,[]⟩=pure (ps.zip us)):Binds K fd ps []:=fun s us _ hl=>by
 rw[jV] at hl ⊢
 exact .of_eq (h us hl)
section
variable{X:Cx}{CX:QQ}{k:Nat}{f C:Addr}{fd:iI}{ps:List Str}{sp:Sp}{dvs:List V}{ds:List Value}{E:XK}{x m:Str}{p pos apos:Pos}{e o:Expr}{es:List Expr}{ta:TE}{t:TA}
end
section
variable{X:Cx}{CX:QQ}{k:Nat}{f C:Addr}{fd:iI}{ps ks:List Str}{sp:Sp}{E:XK}{x m:Str}{p pos apos kpos:Pos}{e o:Expr}{es:List Expr}{kws:List pq}{te ta:TE}{t tk:TA}{nm:Option Str}
variable{g:List Value→List Value→List Value}{gV:List V→List V→List V}
end
structure FnScope(N P:List Str)(sc:Scope):Prop where
 kind:sc.kind=.function
 co:sc.isCoroutine=false
 gen:sc.isGenerator=false
 nd:N.Nodup
 pre:N.take P.length=P
 par:∀x∈P,sc.names.lookup x=some .local∨sc.names.lookup x=some .cell
 nofree:∀y∈sc.names,y.2≠.free
theorem Ib{kindOf:Str→Option NameKind}{x:Str}:∀{binds:List (Str×Value)} {m:Str→Option Value},(∀v,(x,v)∉binds)→bindL kindOf binds m x=m x
 | [],_,_=>rfl
 | (n,v)::r,m,h=>by
  unfold bindL
  rw[Ib fun w hw=>h w (iy _ hw)]
  split
  ·have:x≠n:=by rintro rfl;exact h v iV
   simp[this]
  ·rfl
theorem Ic{kindOf:Str→Option NameKind}{x:Str}:∀{binds:List (Str×Value)} {m:Str→Option Value},(∀v,(x,v)∉binds)→bindC kindOf binds m x=m x
 | [],_,_=>rfl
 | (n,v)::r,m,h=>by
  unfold bindC
  rw[Ic fun w hw=>h w (iy _ hw)]
  split
  ·rfl
  ·have:x≠n:=by rintro rfl;exact h v iV
   simp[this]
theorem Ie{kindOf:Str→Option NameKind}{x:Str}{v:Value}:∀{P:List Str} {vs:List Value} {i:Nat} {m:Str→Option Value},P.Nodup→P[i]?=some x→vs[i]?=some v→kindOf x=some .local→
  bindL kindOf (P.zip vs) m x=some v
 | [],_,_,_,_,h,_,_=>by simp at h
 |_::_,[],_,_,_,_,h,_=>by simp at h
 |p::P,w::vs,0,m,nd,h1,h2,hk=>by
  simp at h1 h2;subst h1;subst h2
  show bindL kindOf ((p,w)::P.zip vs) m p=_
  unfold bindL
  rw[Ib fun v hv=> (iT.mp nd).1 (qj hv).1,if_pos hk]
  simp
 |p::P,w::vs,i+1,m,nd,h1,h2,hk=>by
  show bindL kindOf ((p,w)::P.zip vs) m x=_
  unfold bindL
  exact Ie (i:=i) (iT.mp nd).2 (by simpa using h1) (by simpa using h2) hk
theorem Ig{kindOf:Str→Option NameKind}{x:Str}{v:Value}:∀{P:List Str} {vs:List Value} {i:Nat} {m:Str→Option Value},P.Nodup→P[i]?=some x→vs[i]?=some v→kindOf x≠some .local→
  bindC kindOf (P.zip vs) m x=some v
 | [],_,_,_,_,h,_,_=>by simp at h
 |_::_,[],_,_,_,_,h,_=>by simp at h
 |p::P,w::vs,0,m,nd,h1,h2,hk=>by
  simp at h1 h2;subst h1;subst h2
  show bindC kindOf ((p,w)::P.zip vs) m p=_
  unfold bindC
  rw[Ic fun v hv=> (iT.mp nd).1 (qj hv).1,if_neg hk]
  simp
 |p::P,w::vs,i+1,m,nd,h1,h2,hk=>by
  show bindC kindOf ((p,w)::P.zip vs) m x=_
  unfold bindC
  exact Ig (i:=i) (iT.mp nd).2 (by simpa using h1) (by simpa using h2) hk
def start(N:List Str)(vs:List V):St:=vs.map some++iQ (N.length-vs.length) none
def CZ(CX:QQ)(P:Program)(w:World)(K:a8)(mg:Str→Option Value)(base:Heap)(N:List Str)(qual:Str)(scope:Scope)(f:Addr)(cd:Value)(A:iC)(outer:List Env)(s:a9)(H:Hp)(E:XK):Cx where
 prog:=P
 w:=w
 K:=K
 mg:=mg
 base:=base
 A:=A.deeper (lE qual scope s.heap.objs.size f cd)
 N:=N
 s₀:=s
 H₀:=H
 env:=lE qual scope s.heap.objs.size f cd
 outer:=outer
 stack:=lE qual scope s.heap.objs.size f cd::outer
 ex:=[]
 calm:=true
 fn:=fun _=>true
 pn:=[]
 xe:=fun e s'=>wpAny (model P w) (A.deeper (lE qual scope s.heap.objs.size f cd)) (leaving (lE qual scope s.heap.objs.size f cd) e) (fun _ s''=>CX outer H s E e s'') (fun e' s''=>CX outer H s E e' s'') s'
theorem Kr{sc:Scope}{n:Nat}{x:Str}(h:sc.names.lookup x=some .cell):∃c,(kA n sc.names []).lookup x=some c:=by
 have q:=PySem.W.cellsFrom_some sc.names n [] (.inl h)
 exact Option.isSome_iff_exists.mp q
theorem PR{CX:QQ}{P:Program}{w:World}{K:a8}{mg:Str→Option Value}{base:Heap}{N ps:List Str}{qual:Str}{scope:Scope}{f:Addr}{cd:Value}{A:iC}{outer:List Env}{s s1:a9}{H:Hp}{E:XK}{us:List Value}{vs:List V}
  (S:FnScope N ps scope) (hd:A.handled=none) (e0:Env0 P w K mg base A outer s H) (hl:vs.length=ps.length) (r:Vals vs us)
  (x:InCallC s s.heap.objs.size (bindL (lE qual scope s.heap.objs.size f cd).kindOf (ps.zip us) fun _=>none) (kA (s.heap.objs.size+1) scope.names []) (bindC (lE qual scope s.heap.objs.size f cd).kindOf (ps.zip us) fun _=>none) s1):
  Inv (CZ CX P w K mg base N qual scope f cd A outer s H E) [] (start N vs) H s1:=by
 have hpl:ps.length≤N.length:=by have:=congrArg List.length S.pre;rw[iH] at this;omega
 obtain⟨h1,tk,rfl,hk⟩:=x.done
 have noA:∀b:Addr,b∉(CZ CX P w K mg base N qual scope f cd A outer s H E).ex:=fun b z=>absurd (show b∈([]:List Addr) from z) (by simp)
 refine⟨⟨e0.mod,S.kind,rfl,rfl,hC _,fun y z c h1 h2=>?_,fun y hy=>?_,fun y c _ h=>?_,fun _=>hd,iC.frames_deeper e0.frames,.inr ⟨rfl,rfl⟩,fun b z=>absurd z (noA b),e0.bs,e0.bsz,fun b _ _=>noA b,fun b z=>absurd z (noA b),e0.funs,e0.frf⟩,
  rfl,e0.bare,Un.kept hk,⟨_,x.toInCall.ns,fun i y v h1 h2 h3=>?_⟩,fun y c h=> ⟨_,x.cell y c h⟩,e0.hok.fresh (hC _),fun y c h=>?_,fun p hp=>absurd (show p∈([]:List (Addr×Obj)) from hp) (by simp),e0.hok.kept hk,?_⟩
 ·exact name_of_addr x.apart (l0 h1) (l0 h2)
 ·have hy:scope.names.lookup y=some .cell∨scope.names.lookup y=some .free:=hy
  rcases hy with hy|hy
  ·exact Kr hy
  ·exact absurd rfl (S.nofree _ (l0 hy))
 ·exact mT (x.above y c (l0 h))
 ·have hi:i<vs.length:=by
   unfold start at h2
   by_cases hi:i<vs.length
   ·exact hi
   ·rw[iG (by simpa using hi)] at h2
    rw[kL] at h2
    split at h2<;>cases h2
  have ha:vs[i]?=some v:=by
   unfold start at h2
   rw[iY (by simpa using hi),e7] at h2
   cases e:vs[i]? with
   |none=>rw[e] at h2;cases h2
   |some a=>rw[e] at h2;cases h2;rfl
  obtain⟨u,hu,rv⟩:=r.get ha
  have hp:ps[i]?=some y:=by
   rw[←S.pre,lX (by omega)];exact h1
  have ndP:ps.Nodup:=by rw[←S.pre];exact S.nd.sublist (lS _ _)
  refine⟨u,rv,?_⟩
  rcases S.par y (hZ hp) with k|k
  ·exact .inl ⟨k,Ie ndP hp hu k⟩
  ·obtain⟨c,e⟩:=Kr (n:=s.heap.objs.size+1) k
   refine .inr ⟨.inl k,c,e,?_⟩
   have q:=x.cell y c e
   rw[Ig ndP hp hu (by show scope.names.lookup y≠_;rw[k];decide)] at q
   exact q
 ·exact e0.hok.fresh (mT (x.above y c (l0 h)))
 ·unfold start
  show _=N.length
  rw[iB,c9,kB]
  omega
theorem aQ{CX:QQ}{P:Program}{w:World}{K:a8}{mg:Str→Option Value}{base:Heap}{k:Nat}{f:Addr}{name qual:Str}{params:Arguments}{body:List Stmt}{scope:Scope}{dV kV doc pm cdv ct oc:Value}{an od:Option Addr}
  {osl:Array (Option Value)} {N ps:List Str} {sp:Sp} (lk:K.lookup f=some ⟨oc,od,.func (mS name qual params body scope dV kV doc pm an cdv ct),osl⟩) (hcd:qy K cdv qual=true) (S:FnScope N ps scope)
  (len:∀vs H Q E,sp vs H Q E→vs.length=ps.length)
  (hbody:∀(A:iC) (outer:List Env) (s:a9) (H:Hp) (vs:List V) (Q:VK) (E:XK),Room k (A.deeper (lE qual scope s.heap.objs.size f cdv))→sp vs H Q E→
   ∃t,PSs (CZ CX P w K mg base N qual scope f cdv A outer s H E) body t∧t {nx:=fun _ H'=>Q .non H',rt:=Q} (start N vs) H):
  FnOk P w K mg base CX (k+1) f (mS name qual params body scope dV kV doc pm an cdv ct) ps sp:=by
 refine⟨len,fun A outer s H args us vs Q E hr e0 hb r hsp=>?_⟩
 have hl:=len _ _ _ _ hsp
 have KX:K.In s.heap:=e0.mod.kin.keeps fun b o e=> (e0.bs b o e).1
 have lim:s.heap.NoLimit:=e0.mod.nolimit.keeps fun b o e=> (e0.bs b o e).1
 have hkind:∀y∈ps.zip us,scope.names.lookup y.1=some .local∨(scope.names.lookup y.1=some .cell∧((kA (s.heap.objs.size+1) scope.names []).lookup y.1).isSome=true):=fun⟨n,v⟩ hy=>by
  rcases S.par n (qj hy).1 with q|q
  ·exact .inl q
  ·exact .inr ⟨q,PySem.W.cellsFrom_some _ _ _ (.inl q)⟩
 refine codeAny_call_function hr.depth (KX _ _ lk) rfl S.co S.gen rfl (PySem.W.codeRec_of KX hcd) (hb _ _ _ _ ?_)
 refine wpAny_newFunctionEnv_cells S.kind hkind fun env he s1 x=>?_
 subst he
 refine⟨lim.keeps x.toInCall.keep,codeAny_func ?_⟩
 obtain⟨t,ht,hq⟩:=hbody A outer s H vs Q E (hr.deeper _) hsp
 have I:Inv (CZ CX P w K mg base N qual scope f cdv A outer s H E) [] (start N vs) H s1:=PR S hr.hd e0 hl r x
 refine mn (ht [] s1 (start N vs) H _ I hq) (fun fl s' hs=>?_) fun e s' hs=>hs
 have fin:∀{σ':St} {H':Hp} {v:V} {u:Value},Inv (CZ CX P w K mg base N qual scope f cdv A outer s H E) [] σ' H' s'→RelV v u→Q v H'→CE outer P w H s Q u s':=
  fun{σ' H' v u} J rv q=> ⟨v,H',J.os,J.bare,J.base,J.hok,rv,q⟩
 cases fl with
 |ret u=>
  obtain⟨v,σ',H',J,rv,q⟩:=hs
  exact fin J rv q
 |next=>
  obtain⟨σ',H',J,q⟩:=hs
  exact fin (v:=V.non) (u:=kZ) J rfl q
 |brk=>
  obtain⟨_,_,_,q⟩:=hs
  exact lZ q
 |cont=>
  obtain⟨_,_,_,q⟩:=hs
  exact lZ q
section
variable{X:Cx}{x:Str}{p pos:Pos}{e:Expr}{es:List Expr}{t:TA}{id T:String}{r:List V→Hp→VK→Prop}
def fQ(r:List V→Hp→VK→Prop)(t:TA):TE:=fun σ H Q=>t σ H fun vs H1=>r vs H1 Q
theorem En(hc:BB X (.builtin id) r)(hg:Gl X x)(hm:X.mg x=none)(hv:i5 x=some (.builtin id))(ha:PA X (e::es) t)(hn:x≠"__name__":=by decide)(hdb:(x==("__debug__" :Str))=false:=by decide)
  (he:e8 (e::es) X.env=(false,eval e X.env)::e8 es X.env:=by rfl) (hpl:(lz pos (e8 es X.env)).any (·.1)=false:=by rfl):PE X (.Call (.Name x p) (e::es) [] pos) (fQ r t):=by
 intro pins s σ H Q I h
 refine ng (DV I hg hm hv ?_ hn hdb)
 exact PyProof.Rows.callWith_builtin1 (Aw (ha pos pins s σ H _ I h) fun us s1 ⟨vs,H1,I1,r1,q1⟩=>hc pins s1 σ H1 vs us Q I1 r1 q1) he hpl
theorem Bh(hc:BB X (.type T) r)(hg:Gl X x)(hm:X.mg x=none)(hv:i5 x=some (.type T))(ha:PA X (e::es) t)(hn:x≠"__name__":=by decide)(hdb:(x==("__debug__" :Str))=false:=by decide)
  (he:e8 (e::es) X.env=(false,eval e X.env)::e8 es X.env:=by rfl) (hpl:(lz pos (e8 es X.env)).any (·.1)=false:=by rfl):PE X (.Call (.Name x p) (e::es) [] pos) (fQ r t):=by
 intro pins s σ H Q I h
 refine ng (DV I hg hm hv ?_ hn hdb)
 exact kM (Aw (ha pos pins s σ H _ I h) fun us s1 ⟨vs,H1,I1,r1,q1⟩=>hc pins s1 σ H1 vs us Q I1 r1 q1) he hpl
end
end L2
namespace HT
open PySem PyProof.Rows
def Bq:List Int→List Int→Bool
 | [],[]=>false
 | [],_::_=>true
 |_::_,[]=>false
 |x::xs,y::ys=>if x=y then Bq xs ys else decide (x<y)
theorem MS(x y:Int)(xs ys:List Int):Bq (x::xs) (y::ys)=if x=y then Bq xs ys else decide (x<y):=rfl
theorem IM:Bq [] []=false:=rfl
theorem Gz(y:Int)(ys:List Int):Bq [] (y::ys)=true:=rfl
theorem HA(x:Int)(xs:List Int):Bq (x::xs) []=false:=rfl
theorem Qg(A:iC)(s:a9)(a:Int)(t:Tok)(c:Int)(u:Tok):∃e,jS A s (.int a t) (.int c u) e∧(e=true↔a=c):=
 ⟨(a==c),jS.int_int a t c u,by simp⟩
theorem Qh(A:iC)(s:a9)(a:Int)(t:Tok)(c:Int)(u:Tok)(prog:Program)(w:World)(E:Value→a9→Prop)(Q:Value→a9→Prop)(h:Q (.bool (decide (a<c))) s):
  wpAny (model prog w) A (richCompare .Lt (.int a t) (.int c u)) Q E s:=
 (PyProof.Rows.lt_int h:wpAny (model prog w) A (jB .Lt (.int a t) (.int c u)) Q E s)
section
open PySem.SeqAt
open PySem.AutoSeq1 (wpAny_loadPart')
open PySem.MeetsSeq PySem.MeetsSeq2 PySem.MeetsSeq3
theorem IP(l b:Addr)(items items2:Array Value)(n n2:Nat)(dd dd2:Option Addr)(sl sl2:Array (Option Value))(ns ms:List Int)(hi:lI items.toList ns)(hj:lI items2.toList ms):
  Meets (Builtin.«tuple.__lt__» ⟨[.ref l,.ref b],[]⟩)
   (fun _ R s=>s.heap.get? l=some {cls:=.type "tuple",dict:=dd,data:=.seq items n,slots:=sl}∧s.heap.get? b=some {cls:=.type "tuple",dict:=dd2,data:=.seq items2 n2,slots:=sl2}∧
    R (.ok (.ret (.bool (Bq ns ms)))) s):=
 .of_wp fun prog w A R s h=>by
  obtain⟨hp,g,d,tk,os⟩:=s;obtain⟨hl,hb,h⟩:=h
  have f2:=AutoSeq1.sub_tuple_tuple
  have z1:items.size=ns.length:=by rw[←hi.length];simp
  have z2:items2.size=ms.length:=by rw[←hj.length];simp
  wp_walk using oh hl,oh hb,nM _ (fun rest b s'=>b.1=none∧s'=⟨hp,g,d,tk,os⟩∧∃(vs ws:List Value) (ns' ms':List Int),rest=vs.zip ws∧
   lI vs ns'∧lI ws ms'∧ns'.length+items2.size=ms'.length+items.size∧R (.ok (.ret (.bool (Bq ns' ms')))) ⟨hp,g,d,tk,os⟩) _
  case turn=>
   rintro⟨y,x⟩ rest b s' ⟨hb',rfl,vs,ws,ns',ms',hz,hvi,hwi,hlen,hR⟩
   cases hvi with
   |nil=>rw[List.zip_nil_left] at hz;cases hz
   |cons a t hvi'=>
    cases hwi with
    |nil=>rw[List.zip_nil_right] at hz;cases hz
    |cons c u hwi'=>
     rw[oR] at hz
     injection hz with hyx hrest
     injection hyx with hy hx
     subst hy hx
     rw[MS] at hR
     simp only[iw] at hlen
     obtain⟨e,he,hiff⟩:=Qg A.in1 ⟨hp,g,d,tk,os⟩ a t c u
     refine a7 (he prog w _ _ ?_)
     cases e with
     |true=>
      rw[if_pos (hiff.mp rfl)] at hR
      wp_walk
      exact⟨rfl,rfl,_,_,_,_,hrest,hvi',hwi',by omega,hR⟩
     |false=>
      rw[if_neg (fun q=>absurd (hiff.mpr q) gx)] at hR
      have hri:=Qh A.in1 ⟨hp,g,d,tk,os⟩ a t c u prog w
      wp_walk using hri
      exact⟨_,rfl,by simpa using hR⟩
  case fin=>
   rintro⟨b1,b2⟩ s' ⟨hb',rfl,vs,ws,ns',ms',hz,hvi,hwi,hlen,hR⟩
   simp only at hb'
   subst hb'
   have hv:Bq ns' ms'=decide (items.size<items2.size):=by
    cases hvi with
    |nil=>
     cases hwi with
     |nil=>
      simp only[kH] at hlen
      rw[IM]
      exact(decide_eq_false (by omega)).symm
     |cons c u hw=>
      simp only[kH,iw] at hlen
      rw[Gz]
      exact(decide_eq_true (by omega)).symm
    |cons a t hv=>
     cases hwi with
     |nil=>
      simp only[kH,iw] at hlen
      rw[HA]
      exact(decide_eq_false (by omega)).symm
     |cons c u hw=>
      rw[oR] at hz
      cases hz
   rw[hv] at hR
   wp_walk
   exact⟨_,rfl,by simpa[Builtin.Tuple.tupleCompareSizes] using hR⟩
  case h=>
   exact⟨rfl,rfl,items.toList,items2.toList,ns,ms,rfl,hi,hj,by omega,h⟩
end
section
variable{prog:Program}{w:World}{A:iC}{E:Value→a9→Prop}{s:a9}
theorem MU{l b:Addr}{items items2:Array Value}{ns ms:List Int}{Q:Value→a9→Prop}(hl:IsTup s.heap l items)(hb:IsTup s.heap b items2)(hi:lI items.toList ns)(hj:lI items2.toList ms)
  (hu:A.units<cLine) (h:Q (.bool (Bq ns ms)) s):wpAny (model prog w) A (jB .Lt (.ref l) (.ref b)) Q E s:=by
 obtain⟨⟨cls,dd,data,sl⟩,ho,hc,n,hd⟩:=id hl
 obtain⟨⟨cls2,dd2,data2,sl2⟩,ho2,hc2,n2,hd2⟩:=id hb
 simp only at hc hd hc2 hd2
 subst hc hd hc2 hd2
 exact richCompare_meets_room (op:=.Lt) ⟨_,ho,rfl⟩ ⟨_,ho2,rfl⟩ PySem.F.slot_tuple_lt PySem.F.entry_tuple_lt (PySem.F.args_tuple_lt_2 _ _) (IP l b items items2 n n2 dd dd2 sl sl2 ns ms hi hj)
  ⟨ho,ho2,show nP (Bq ns ms)≠Value.notImplemented∧Q (.bool (Bq ns ms)) s from⟨(fun x=>nomatch x),h⟩⟩ hu
theorem UO{t b:Addr}{vs ws:List Value}{Q:Value→a9→Prop}(ht:IsTup s.heap t vs.toArray)(hb:IsTup s.heap b ws.toArray)(hv:vs≠[])
  (h1:ws=[]→Q (.ref t) s) (h2:ws≠[]→Q (.ref s.heap.objs.size) {s with heap:=s.heap.push {cls:=.type "tuple",data:=.seq (vs++ws).toArray}})
  (hsz:vs.length+ws.length≤sizeLine):wpAny (model prog w) A (lP .Add (.ref t) (.ref b)) Q E s:=by
 obtain⟨⟨cls,dd,data,sl⟩,ho,hc,n,hd⟩:=id ht
 obtain⟨⟨cls2,dd2,data2,sl2⟩,ho2,hc2,n2,hd2⟩:=id hb
 simp only at hc hd hc2 hd2
 subst hc hd hc2 hd2
 have e:vs.toArray++ws.toArray=(vs++ws).toArray:=by simp
 by_cases hw:ws=[]
 ·exact rF ⟨_,ho,rfl⟩ ⟨_,ho2,rfl⟩ pM qQ nE nv (m7 _ _)
   (tuple_addW1 t b vs.toArray ws.toArray n n2 dd dd2 sl sl2 (by simpa using hv) (by simp[hw])) ⟨ho,ho2,h1 hw⟩
 ·refine rF ⟨_,ho,rfl⟩ ⟨_,ho2,rfl⟩ pM qQ nE nv (m7 _ _)
   (tuple_addW2 t b vs.toArray ws.toArray n n2 dd dd2 sl sl2 (by simpa using hv) (by simpa using hw) (by rw[iu,iu];exact hsz)) ⟨ho,ho2,?_⟩
  rw[e]
  exact h2 hw
def BV(n d:Nat):Option Int→Nat
 |none=>d
 |some v=>if v<0 then(v+(n:Int)).toNat else min v.toNat n
theorem Xd(n d:Nat)(hd:d≤n)(o:Option Int):BV n d o≤n:=by
 cases o with
 |none=>exact hd
 |some v=>
  show(if v<0 then(v+(n:Int)).toNat else min v.toNat n)≤n
  by_cases hv:v<0
  ·rw[if_pos hv];omega
  ·rw[if_neg hv];exact Nat.min_le_right _ _
theorem Nq(v:Int)(n d:Nat):(if v<0 then max (v+(n:Int)) 0 else min v (n:Int))=((BV n d (some v):Nat):Int):=by
 show(if v<0 then max (v+(n:Int)) 0 else min v (n:Int))=(((if v<0 then(v+(n:Int)).toNat else min v.toNat n):Nat):Int)
 by_cases hv:v<0
 ·simp only[if_pos hv];omega
 ·simp only[if_neg hv];omega
theorem MV(lo hi:Option Int)(n:Nat):jL lo hi 1 (n:Int)=(((BV n 0 lo:Nat):Int),((BV n n hi:Nat):Int)):=by
 have h1:¬((1:Int)<0):=by omega
 unfold jL
 simp only[h1,if_false]
 refine kb ?_ ?_
 ·cases lo with
  |none=>rfl
  |some v=>exact Nq v n 0
 ·cases hi with
  |none=>rfl
  |some v=>exact Nq v n n
theorem MW(i j:Nat):j5 (i:Int) (j:Int) 1=j-i:=by
 unfold j5
 have h1:(1:Int)>0:=by omega
 simp only[h1,if_true,rQ]
 split<;>omega
theorem HB{v:Value}{o:Option Int}{Q:Option Int→a9→Prop}(p:qb v o)(h:Q o s):wpAny (model prog w) A (Builtin.Slice.slicePartIndex v) Q E s:=by
 cases p with
 |none=>exact oI h
 |int i t=>exact slicePart_int h
theorem Ck{sl:Addr}{vl vu:Value}{lo hi:Option Int}{n:Nat}{Q:Int×Int×Nat→a9→Prop}(hs:s.heap.IsSliceOf sl vl vu .none)(pl:qb vl lo)(pu:qb vu hi)
  (h:Q (((BV n 0 lo:Nat):Int),1,BV n n hi-BV n 0 lo) s):wpAny (model prog w) A (mO (.ref sl) (pure (n:Int))) Q E s:=by
 obtain⟨os,hos,hcs,hds⟩:=id hs
 unfold mO Builtin.Slice.sliceFields
 refine a7 (a7 (jZ hos hds (x:=vl) rfl (a7 (jZ hos hds (x:=vu) rfl (a7 (jZ hos hds (x:=.none) rfl (b9 ?_)))))))
 refine a7 (oI ?_)
 show wpAny _ _ (if((1:Int)==0)=true then _ else _) _ _ s
 rw[if_neg (by decide)]
 refine a7 (HB pl (a7 (HB pu (a7 (b9 ?_)))))
 show wpAny _ _ (match jL lo hi 1 (n:Int) with| (lo,hi)=>pure (lo,(1:Int),j5 lo hi 1)) _ _ s
 rw[MV lo hi n]
 show wpAny _ _ (pure (((BV n 0 lo:Nat):Int),(1:Int),j5 ((BV n 0 lo:Nat):Int) ((BV n n hi:Nat):Int) 1)) _ _ s
 rw[MW]
 exact b9 h
theorem Qi(xs:Array Value)(i k:Nat):((iA k).filterMap fun(m:Nat)=>xs[((i:Int)+(m:Int)*1).toNat]?).toArray=((xs.toList.drop i).take k).toArray:=by
 have e:(fun(m:Nat)=>xs[((i:Int)+(m:Int)*1).toNat]?)=fun m=>xs[i+m]?:=by
  funext m
  have:((i:Int)+(m:Int)*1).toNat=i+m:=by omega
  rw[this]
 rw[e]
 have:=pick_run xs i k
 rw[List.filterMap_map] at this
 have e2:((fun x=>xs[x]?)∘fun x=>i+x)=fun m=>xs[i+m]?:=rfl
 rw[e2] at this
 rw[this]
theorem Eo{t sl:Addr}{items:Array Value}{vl vu:Value}{lo hi:Option Int}{Q:Value→a9→Prop}(ht:IsTup s.heap t items)(hs:s.heap.IsSliceOf sl vl vu .none)(pl:qb vl lo)(pu:qb vu hi)
  (hw:¬(BV items.size 0 lo=0∧BV items.size items.size hi=items.size))
  (h:Q (.ref s.heap.objs.size) {s with heap:=s.heap.push {cls:=.type "tuple",data:=.seq ((items.toList.drop (BV items.size 0 lo)).take (BV items.size items.size hi-BV items.size 0 lo)).toArray}})
  (hsz:items.size≤sizeLine):wpAny (model prog w) A (o7 (.ref t) (.ref sl)) Q E s:=by
 have htake:sizeOk (.seq ((items.toList.drop (BV items.size 0 lo)).take (BV items.size items.size hi-BV items.size 0 lo)).toArray):=by
  show((items.toList.drop (BV items.size 0 lo)).take (BV items.size items.size hi-BV items.size 0 lo)).toArray.size≤sizeLine
  rw[iu,iH,jx,iq]
  omega
 have hj:BV items.size items.size hi≤items.size:=Xd _ _ (hC _) hi
 obtain⟨os,hos,hcs,hds⟩:=id hs
 have hTs:s.TypeIs (.ref sl) "slice":=⟨os,hos,hcs⟩
 unfold o7
 try with_reducible refine je ?_
 first|refine a7 (b9 ?_)|skip
 refine a7 (oX ht.typeIs (by decide) ?_)
 refine a7 (jJ (name:=lQ "__getitem__") ht.typeIs ja
  (jF ja ht.typeIs ou ?_ (oN _ _)))
 show wpAny _ _ (mN (.ref t)>>=_) _ _ s
 refine a7 (qP ht ?_)
 refine a7 (nz hTs ?_)
 rw[if_pos (by decide)]
 refine a7 (Ck hs pl pu ?_)
 have hno:¬((((BV items.size 0 lo:Nat):Int)==0&&(1:Int)==1&&(BV items.size items.size hi-BV items.size 0 lo)==items.size)=true):=by
  intro q
  rw[ko,ko] at q
  have q1:((BV items.size 0 lo:Nat):Int)=0:=eq_of_beq q.1.1
  have q2:BV items.size items.size hi-BV items.size 0 lo=items.size:=eq_of_beq q.2
  exact hw ⟨by omega,by omega⟩
 show wpAny _ _ (if(((BV items.size 0 lo:Nat):Int)==0&&(1:Int)==1&&(BV items.size items.size hi-BV items.size 0 lo)==items.size)=true then _ else _) _ _ s
 rw[if_neg hno,Qi]
 first
  |exact a7 (m:=ke _) (js (b9 ⟨_,rfl,b9 h⟩) htake)
  |exact a7 (m:=ke _) (js (a7 (b9 (b9 ⟨_,rfl,b9 h⟩))) htake)
  |exact a7 (a7 (m:=ke _) (js (b9 (b9 ⟨_,rfl,b9 h⟩)) htake))
  |exact a7 (a7 (m:=ke _) (js (b9 ⟨_,rfl,b9 h⟩) htake))
end
end HT
namespace L2
open PySem PySem.Spec PyProof.Rows
abbrev TO:=St→Hp→(Option Int→Hp→Prop)→Prop
def PO(X:Cx)(e:Option Expr)(t:TO):Prop:=
 ∀(pins:List (Addr×Obj)) (s:a9) (σ:St) (H:Hp) (Q:Option Int→Hp→Prop),Inv X pins σ H s→t σ H Q→
  wpAny (model X.prog X.w) X.A (evalPart e X.env) (fun u s'=>∃o H',Inv X pins σ H' s'∧qb u o∧Q o H') X.xe s
def UP:TO:=fun _ H Q=>Q none H
def aR(t:TE):TO:=fun σ H Q=>t σ H fun x H1=>∃i,x=.int i∧Q (some i) H1
theorem CC{ns:List Int}:∀{us:List Value},Vals (ns.map V.int) us→lI us ns:=by
 induction ns with
 |nil=>intro us r;rw[oC] at r;cases r;exact .nil
 |cons n ns ih=>
  intro us r
  rw[iN] at r
  cases r with
  |cons r1 r2=>
   obtain⟨t,e⟩:=r1
   subst e
   exact .cons n t (ih r2)
section
variable{X:Cx}{e:Expr}{te:TE}{lo hi:Option Expr}{tl th:TO}{pos p2:Pos}
theorem Ja:PO X none UP:=by
 intro pins s σ H Q I h
 rw[pD]
 exact b9 ⟨none,H,I,.none,h⟩
theorem Ep(h:PE X e te):PO X (some e) (aR te):=by
 intro pins s σ H Q I hw
 rw[qR]
 refine Aw (h pins s σ H _ I hw) fun u s1 ⟨x,H1,I1,r1,q1⟩=>?_
 obtain⟨i,rfl,q⟩:=q1
 obtain⟨t,rfl⟩:=r1
 exact⟨some i,H1,I1,.int i t,q⟩
def dJ(X:Cx)(r:V→Option Int→Option Int→Hp→VK→Prop):Prop:=
 ∀(pins:List (Addr×Obj)) (s:a9) (σ:St) (H:Hp) (x:V) (v vl vu:Value) (lo hi:Option Int) (sl:Addr) (Q:VK),Inv X pins σ H s→RelV x v→s.heap.IsSliceOf sl vl vu .none→qb vl lo→qb vu hi→r x lo hi H Q→
  ∃T id,typeLookup (.type T) "__getitem__" =pure (some (.builtin id))∧s.TypeIs v T∧wpAny (model X.prog X.w) X.A (o7 v (.ref sl)) (EP X pins σ Q) X.xe s
def fu(r:V→Option Int→Option Int→Hp→VK→Prop)(te:TE)(tl th:TO):TE:=fun σ H Q=>te σ H fun x H1=>tl σ H1 fun l H2=>th σ H2 fun u H3=>r x l u H3 Q
theorem Er{r:V→Option Int→Option Int→Hp→VK→Prop}(hr:dJ X r)(he:PE X e te)(hl:PO X lo tl)(hu:PO X hi th):PE X (.Subscript e (.Slice lo hi none p2) pos) (fu r te tl th):=by
 intro pins s σ H Q I h
 refine rj (Aw (he pins s σ H _ I h) fun v s1 ⟨x,H1,I1,r1,q1⟩=>?_)
 refine r8 (Aw (hl pins s1 σ H1 _ I1 q1) fun vl s2 ⟨l,H2,I2,pl,q2⟩=>Aw (hu pins s2 σ H2 _ I2 q2) fun vu s3 ⟨u,H3,I3,pu,q3⟩=>?_)
 rw[pD]
 refine b9 ?_
 have I4:Inv X pins σ H3 {s3 with heap:=s3.heap.push {cls:=.type "slice",data:=.fields #[vl,vu,.none]}}:=I3.kept (t':=s3.toks) fun b ob q=>e6 _ q
 obtain⟨T,id,hT,ht,hg⟩:=hr pins {s3 with heap:=s3.heap.push {cls:=.type "slice",data:=.fields #[vl,vu,.none]}} σ H3 x v vl vu l u s3.heap.objs.size Q I4 r1 (qD.new ..) pl pu q3
 show wpAny (model X.prog X.w) X.A (pB e (.Slice lo hi none p2) v (.ref s3.heap.objs.size)) (EP X pins σ Q) X.xe {s3 with heap:=s3.heap.push {cls:=.type "slice",data:=.fields #[vl,vu,.none]}}
 exact tail_any (ops:=[.ref s3.heap.objs.size,v]) ht hT hg (by with_unfolding_all rfl)
def Fb(xs:List V)(lo hi:Option Int):List V:=(xs.drop (HT.BV xs.length 0 lo)).take (HT.BV xs.length xs.length hi-HT.BV xs.length 0 lo)
theorem Fz(xs:List V)(lo hi:Option Int):(Fb xs lo hi).length≤xs.length:=by
 unfold Fb
 rw[iH,jx]
 omega
def eC(K:a8):V→Option Int→Option Int→Hp→VK→Prop:=fun x lo hi H Q=>∃a xs,x=.ref a∧DT K H a xs∧
 ¬(HT.BV xs.length 0 lo=0∧HT.BV xs.length xs.length hi=xs.length)∧∀p,H p=none→Q (.ref p) (upd H p (.tup (Fb xs lo hi)))
theorem Xe:dJ X (eC X.K):=by
 intro pins s σ H x v vl vu lo hi sl Q I rx hs pl pu h
 obtain⟨a,xs,rfl,hx,hw,q⟩:=h
 cases rx
 obtain⟨its,r,ht,hz⟩:=I.tuple hx
 have hlen:its.toArray.size=xs.length:=by rw[iu];exact r.length.symm
 refine⟨"tuple",_,ja.lookup,ht.typeIs,?_⟩
 refine HT.Eo ht hs pl pu (by rw[hlen];exact hw) ?_ (by rw[hlen];exact hz)
 rw[hlen]
 refine⟨.ref s.heap.objs.size,_,I.laid (t':=s.toks) (o:=.tup (Fb xs lo hi)) (fun b ob q=>e6 _ q) (hC _) ?_,rfl,q _ (I.hok.fresh (hC _))⟩
 exact⟨jv (Fz xs lo hi) hz,_,(r.drop (HT.BV xs.length 0 lo)).take (HT.BV xs.length xs.length hi-HT.BV xs.length 0 lo),IsTup.new _ _⟩
def aS(K:a8):R2:=fun x y H Q=>∃a b ns ms,x=.ref a∧y=.ref b∧DT K H a (ns.map V.int)∧DT K H b (ms.map V.int)∧Q (.bl (HT.Bq ns ms)) H
theorem Xf(hu:X.A.units<cLine):CY X (jB .Lt) (aS X.K):=by
 intro pins s σ H x y v u Q I rx ry h
 obtain⟨a,b,ns,ms,rfl,rfl,ha,hb,q⟩:=h
 cases rx
 cases ry
 obtain⟨its,r1,p1,_⟩:=I.tuple ha
 obtain⟨its2,r2,p2,_⟩:=I.tuple hb
 have i1:lI its.toArray.toList ns:=CC r1
 have i2:lI its2.toArray.toList ms:=CC r2
 exact HT.MU p1 p2 i1 i2 hu ⟨.bl (HT.Bq ns ms),H,I,rfl,q⟩
def aT(K:a8):R2:=fun x y H Q=>∃a b xs ys,x=.ref a∧y=.ref b∧DT K H a xs∧DT K H b ys∧xs≠[]∧xs.length+ys.length≤sizeLine∧
 (ys=[]→Q (.ref a) H)∧(ys≠[]→∀p,H p=none→Q (.ref p) (upd H p (.tup (xs++ys))))
theorem Vals.nil_iff{xs:List V}{us:List Value}(r:Vals xs us):us=[]↔xs=[]:=by
 cases r with
 |nil=>simp
 |cons _ _=>simp
theorem UQ:CY X (lP .Add) (aT X.K):=by
 intro pins s σ H x y v u Q I rx ry h
 obtain⟨a,b,xs,ys,rfl,rfl,ha,hb,hx,hz,q1,q2⟩:=h
 cases rx
 cases ry
 obtain⟨its,r1,p1,_⟩:=I.tuple ha
 obtain⟨its2,r2,p2,_⟩:=I.tuple hb
 refine HT.UO p1 p2 (fun z=>hx (r1.nil_iff.mp z)) (fun z=> ⟨.ref a,H,I,rfl,q1 (r2.nil_iff.mp z)⟩) (fun z=>?_) (by rw[←r1.length,←r2.length];exact hz)
 refine⟨.ref s.heap.objs.size,_,I.laid (t':=s.toks) (o:=.tup (xs++ys)) (fun b ob q=>e6 _ q) (hC _) ?_,rfl,q2 (fun w=>z (r2.nil_iff.mpr w)) _ (I.hok.fresh (hC _))⟩
 exact⟨by rw[iB];exact hz,_,r1.append r2,IsTup.new _ _⟩
end
def PU(n:Nat)(i:Int):Option Nat:=if 0≤i then(if i<n then some i.toNat else none) else if-(n:Int)≤i then some (i+n).toNat else none
def atI{α:Type}(xs:List α)(i:Int):Option α:=(PU xs.length i).bind fun j=>xs[j]?
theorem Nr{n:Nat}{i:Int}{j:Nat}(h:PU n i=some j):qK i n=some j∧j<n∧-(n:Int)≤i∧i<n:=by
 unfold PU at h
 by_cases h0:0≤i
 ·rw[if_pos h0] at h
  by_cases h1:i<n
  ·rw[if_pos h1] at h
   have e:i.toNat=j:=i8.inj h
   exact⟨by rw[r9 h0 h1,e],by omega,by omega,h1⟩
  ·rw[if_neg h1] at h;cases h
 ·rw[if_neg h0] at h
  by_cases h1: -(n:Int)≤i
  ·rw[if_pos h1] at h
   have e:(i+n).toNat=j:=i8.inj h
   exact⟨by rw[seqIndex_neg (by omega) h1,e],by omega,h1,by omega⟩
  ·rw[if_neg h1] at h;cases h
theorem Nt{α:Type}{xs:List α}{i:Int}{v:α}(h:atI xs i=some v):∃j,qK i xs.length=some j∧xs[j]?=some v∧j<xs.length∧-(xs.length:Int)≤i∧i<xs.length:=by
 unfold atI at h
 cases e:PU xs.length i with
 |none=>rw[e] at h;cases h
 |some j=>
  rw[e] at h
  obtain⟨h1,h2,h3,h4⟩:=Nr e
  exact⟨j,h1,h,h2,h3,h4⟩
theorem BE{α:Type}{xs:List α}{j:Nat}{v:α}(h:xs[j]?=some v):atI xs (j:Int)=some v:=by
 have hj:j<xs.length:=(ie.mp h).1
 have e:PU xs.length (j:Int)=some j:=by
  unfold PU
  rw[if_pos (by omega),if_pos (by omega)];simp
 unfold atI;rw[e];exact h
theorem Qj{α:Type}(xs:List α)(v:α):atI (xs++[v]) (-1)=some v:=by
 have hl:(xs++[v]).length=xs.length+1:=by simp
 have e:PU (xs++[v]).length (-1)=some xs.length:=by
  unfold PU
  rw[hl,if_neg (by decide),if_pos (by omega)]
  congr 1
  omega
 unfold atI
 rw[e]
 show(xs++[v])[xs.length]?=some v
 simp
def Dn(b:Expr):Prop:=∀o i,subscripted b false o i=operate [o,i] (o7 o i)
def aU(X:Cx)(r:R2):Prop:=
 ∀(value slice:Expr) (pins:List (Addr×Obj)) (s:a9) (σ:St) (H:Hp) (x y:V) (v u:Value) (Q:VK),Inv X pins σ H s→RelV x v→RelV y u→r x y H Q→
  subscripted slice false v u=operate [v,u] (o7 v u)→wpAny (model X.prog X.w) X.A (pB value slice v u) (EP X pins σ Q) X.xe s
def fR(X:Cx)(id:String)(r:V→List V→Hp→VK→Prop):Prop:=
 ∀(pins:List (Addr×Obj)) (s:a9) (σ:St) (H:Hp) (x:V) (xs:List V) (v:Value) (us:List Value) (Q:VK),Inv X pins σ H s→RelV x v→Vals xs us→r x xs H Q→
  wpAny (model X.prog X.w) X.A (call (.builtin id) (v::us)) (EP X pins σ Q) X.xe s
section
variable{X:Cx}{a b:Expr}{ta tb:TE}{pos:Pos}
theorem WQ{r:R2}(hr:aU X r)(ha:PE X a ta)(hb:PE X b tb)(hs:Dn b):PE X (.Subscript a b pos) (aH r ta tb):=by
 intro pins s σ H Q I h
 exact rj (XU ha hb I h fun v u s2 x y H2 I2 rx ry q=>hr a b pins s2 σ H2 x y v u Q I2 rx ry q (hs _ _))
def Xg(K:a8):R2:=fun x y H Q=>∃p xs i v,x=.ref p∧y=.int i∧Cz K H p xs∧atI xs i=some v∧Q v H
def aV(K:a8):R2:=fun x y H Q=>∃p xs i v,x=.ref p∧y=.int i∧DT K H p xs∧atI xs i=some v∧Q v H
theorem Et:aU X (Xg X.K):=by
 intro value slice pins s σ H x y v u Q I rx ry h hs
 obtain⟨p,xs,i,z,rfl,rfl,hq,he,q⟩:=h
 cases rx
 obtain⟨t,rfl⟩:=ry
 obtain⟨its,r,pl,hz⟩:=I.list hq
 obtain⟨j,h1,h2,h3,h4,h5⟩:=Nt he
 obtain⟨w,ew,rw'⟩:=r.get h2
 have hl:=r.length
 have hn:=Gy
 have fin:EP X pins σ Q w s:=⟨z,H,I,rw',q⟩
 by_cases h0:0≤i
 ·have hj:i.toNat=j:=by
   rw[r9 h0 h5] at h1
   exact i8.inj h1
  exact item_listR pl.isList h0 (by omega) (by rw[hj];simpa using ew) fin hs
 ·have hj:(i+(its.toArray.size:Int)).toNat=j:=by
   rw[seqIndex_neg (by omega) h4] at h1
   rw[iu,←hl]
   exact i8.inj h1
  exact subscriptTail_builtinR (x:=w) pl.isList.typeIs oZ.lookup
   (wpAny_getItem_list_neg (Q:=fun r s'=>r=w∧EP X pins σ Q r s') pl.isList (by omega) (by rw[iu]<;>omega) (by omega) (by rw[hj];simpa using ew) ⟨rfl,fin⟩) hs
theorem Xh:aU X (aV X.K):=by
 intro value slice pins s σ H x y v u Q I rx ry h hs
 obtain⟨p,xs,i,z,rfl,rfl,hq,he,q⟩:=h
 cases rx
 obtain⟨t,rfl⟩:=ry
 obtain⟨its,r,pl,hz⟩:=I.tuple hq
 obtain⟨j,h1,h2,h3,h4,h5⟩:=Nt he
 obtain⟨w,ew,rw'⟩:=r.get h2
 have hl:=r.length
 have hn:=Gy
 have fin:EP X pins σ Q w s:=⟨z,H,I,rw',q⟩
 exact subscriptTail_builtinR (x:=w) pl.typeIs slot_tuple_getitem.lookup
  (getItem_tuple (j:=j) (Q:=fun r s'=>r=w∧EP X pins σ Q r s') pl (by omega) (by omega) (by rw[iu,←hl];exact h1) (by simpa using ew) ⟨rfl,fin⟩) hs
theorem MX(its:List Value)(n j:Nat)(u:Value):kl (·.setIfInBounds j u) {cls:=.type "list",data:=.seq its.toArray n}={cls:=.type "list",data:=.seq (its.set j u).toArray n}:=by
 simp[kl]
theorem Inv.lst{pins:List (Addr×Obj)}{σ:St}{H:Hp}{s:a9}{p:Addr}{xs:List V}(I:Inv X pins σ H s)(h:H p=some (.lst xs)):
  ∃(its:List Value) (n:Nat),Vals xs its∧s.heap.get? p=some {cls:=.type "list",data:=.seq its.toArray n}∧xs.length≤sizeLine:=by
 obtain⟨z,its,n,r,e⟩:=I.hok p _ h
 exact⟨its,n,r,e,z⟩
theorem Inv.lstUpd{pins:List (Addr×Obj)}{σ:St}{H:Hp}{s:a9}{p:Addr}{xs ys:List V}{its its':List Value}{n n':Nat}{f:Obj→Obj}(I:Inv X pins σ H s)(h:H p=some (.lst xs))
  (ho:s.heap.get? p=some {cls:=.type "list",data:=.seq its.toArray n}) (hf:f {cls:=.type "list",data:=.seq its.toArray n}={cls:=.type "list",data:=.seq its'.toArray n'}) (r:Vals ys its') (hz:ys.length≤sizeLine) (t:Nat):
  Inv X pins σ (upd H p (.lst ys)) {s with heap:=s.heap.update p f,toks:=t}:=by
 have e:(s.heap.update p f).get? p=some {cls:=.type "list",data:=.seq its'.toArray n'}:=by
  rw[lJ f ho (by rw[hf]<;>rfl),hf]
 refine I.write (x:=p) (e:=p) (by rw[h];trivial) (.inl rfl) (fun b u hb q=> (km _ _ (Ne.symm hb)).trans q) ⟨_,e⟩ ?_
 exact⟨hz,its',n',r,e⟩
def aW:V→V→V→Hp→(Hp→Prop)→Prop:=fun o i v H Q=>∃p xs k j,o=.ref p∧i=.int k∧H p=some (.lst xs)∧PU xs.length k=some j∧Q (upd H p (.lst (xs.set j v)))
theorem Qk:Zz X aW:=by
 intro pins s σ H o i v ov iv u Q I ro ri rv h
 obtain⟨p,xs,k,j,rfl,rfl,hp,hj,q⟩:=h
 cases ro
 obtain⟨t,rfl⟩:=ri
 obtain⟨its,n,r,ho,hz⟩:=I.lst hp
 obtain⟨h1,h2,h3,h4⟩:=Nr hj
 have hl:=r.length
 have hn:=Gy
 have I':Inv X pins σ (upd H p (.lst (xs.set j v))) {s with heap:=s.heap.update p (kl (·.setIfInBounds j u))}:=
  I.lstUpd hp ho (MX its n j u) (r.set rv j) (by rw[lL];exact hz) s.toks
 by_cases h0:0≤k
 ·have hk:k.toNat=j:=by
   rw[r9 h0 h4] at h1
   exact i8.inj h1
  exact PySem.W.ki_setAt ho h0 (by omega) (by rw[iu,←hl];exact h4) (by rw[hk];exact⟨_,I',q⟩)
 ·have hk:(k+(its.toArray.size:Int)).toNat=j:=by
   rw[seqIndex_neg (by omega) h3] at h1
   rw[iu,←hl]
   exact i8.inj h1
  exact PySem.W.ki_setBack ho (by omega) (by rw[iu,←hl];exact h3) (by omega) (by rw[hk];exact⟨_,I',q⟩)
theorem Jb(lo hi:Option Int)(n:Nat):(mH lo hi none n).1=((HT.BV n 0 lo:Nat):Int)∧(mH lo hi none n).2.1=((HT.BV n n hi:Nat):Int)∧(mH lo hi none n).2.2=1:=by
 refine⟨?_,?_,rfl⟩
 ·cases lo with
  |none=>simp[mH,HT.BV]
  |some i=>
   simp only[mH,HT.BV,Option.getD_none,show(1:Int)>0 by decide,if_true]
   by_cases h:i<0
   ·simp only[h,if_true]<;>omega
   ·simp only[h,if_false]<;>omega
 ·cases hi with
  |none=>simp[mH,HT.BV]
  |some i=>
   simp only[mH,HT.BV,Option.getD_none,show(1:Int)>0 by decide,if_true]
   by_cases h:i<0
   ·simp only[h,if_true]<;>omega
   ·simp only[h,if_false]<;>omega
theorem IQ(its:List Value)(lo hi:Option Int):qH its.toArray lo hi none=((its.drop (HT.BV its.length 0 lo)).take (HT.BV its.length its.length hi-HT.BV its.length 0 lo)).toArray:=by
 obtain⟨h1,h2,h3⟩:=Jb lo hi its.toArray.size
 unfold qH
 rw[h1,h2,h3]
 simp only[sliceRange_one,pick_run,iu]<;>rfl
def eD(K:a8):V→Option Int→Option Int→Hp→VK→Prop:=fun x lo hi H Q=>∃a xs,x=.ref a∧Cz K H a xs∧∀p,H p=none→Q (.ref p) (upd H p (.lst (Fb xs lo hi)))
theorem Nu:dJ X (eD X.K):=by
 intro pins s σ H x v vl vu lo hi sl Q I rx hs pl pu h
 obtain⟨a,xs,rfl,hx,q⟩:=h
 cases rx
 obtain⟨its,r,ht,hz⟩:=I.list hx
 have hlen:=r.length
 refine⟨"list",_,oZ.lookup,ht.isList.typeIs,?_⟩
 refine wpAny_getItem_list_slice ht.isList hs pl pu .none (by simp) ?_ (by rw[iu]<;>omega)
 rw[IQ,←hlen]
 refine⟨.ref s.heap.objs.size,_,I.laid (t':=s.toks) (o:=.lst (Fb xs lo hi)) (fun b ob q=>e6 _ q) (hC _) ?_,rfl,q _ (I.hok.fresh (hC _))⟩
 exact⟨jv (Fz xs lo hi) hz,_,0,(r.drop (HT.BV xs.length 0 lo)).take (HT.BV xs.length xs.length hi-HT.BV xs.length 0 lo),iz _ rfl⟩
def HC:V→Bool
 | .non=>true
 | .bl _=>true
 | .int _=>true
 | .str _=>true
 |_=>false
def UB:V→V→Bool
 | .non,.non=>true
 | .bl a,.bl b=>a==b
 | .bl a,.int b=> (if a then 1 else 0)==b
 | .int a,.bl b=>a==(if b then 1 else 0)
 | .int a,.int b=>a==b
 | .str a,.str b=>a==b
 |_,_=>false
theorem Xj{A:iC}{s:a9}{y x:V}{u v:Value}(ry:RelV y u)(rx:RelV x v)(fy:HC y=true)(fx:HC x=true):jS A s u v (UB y x):=by
 cases y with
 |non=>
  cases ry
  cases x with
  |non=>cases rx;exact jS.same _
  |bl b=>cases rx;exact jS.none_bool b
  |int b=>obtain⟨t,rfl⟩:=rx;exact jS.none_int b t
  |str b=>obtain⟨t,rfl⟩:=rx;exact jS.none_str b t
  |_=>exact absurd (show false=true from fx) gx
 |bl a=>
  cases ry
  cases x with
  |non=>cases rx;exact jS.bool_none a
  |bl b=>cases rx;exact jS.bool_bool a b
  |int b=>obtain⟨t,rfl⟩:=rx;exact jS.bool_int a b t
  |str b=>obtain⟨t,rfl⟩:=rx;exact jS.bool_str a b t
  |_=>exact absurd (show false=true from fx) gx
 |int a=>
  obtain⟨t',rfl⟩:=ry
  cases x with
  |non=>cases rx;exact jS.int_none a t'
  |bl b=>cases rx;exact jS.int_bool a t' b
  |int b=>obtain⟨t,rfl⟩:=rx;exact jS.int_int a t' b t
  |str b=>obtain⟨t,rfl⟩:=rx;exact jS.int_str a t' b t
  |_=>exact absurd (show false=true from fx) gx
 |str a=>
  obtain⟨t',rfl⟩:=ry
  cases x with
  |non=>cases rx;exact jS.str_none a t'
  |bl b=>cases rx;exact jS.str_bool a t' b
  |int b=>obtain⟨t,rfl⟩:=rx;exact jS.str_int a t' b t
  |str b=>obtain⟨t,rfl⟩:=rx;exact jS.str_str a t' b t
  |_=>exact absurd (show false=true from fx) gx
 |_=>exact absurd (show false=true from fy) gx
theorem By:BB X (.builtin "len") (fun xs H Q=>∃p ys,xs=[.ref p]∧(Cz X.K H p ys∨DT X.K H p ys)∧Q (.int ys.length) H):=by
 intro pins s σ H xs us Q I r h
 obtain⟨p,ys,rfl,hq,q⟩:=h
 obtain⟨u,rfl,rx⟩:=Cj r
 cases rx
 have hn:=Gy
 rcases hq with hq|hq
 ·obtain⟨its,r',pl,hz⟩:=I.list hq
  have hlen:=r'.length
  exact Calls.call_len_list pl.isList (by simp only[iu]<;>omega) ⟨.int ys.length,H,I.tok _,⟨s.toks+1,by rw[iu,hlen]⟩,q⟩
 ·obtain⟨its,r',pl,hz⟩:=I.tuple hq
  have hlen:=r'.length
  exact len_tuple pl (by simp only[iu]<;>omega) ⟨.int ys.length,H,I.tok _,⟨s.toks+1,by rw[iu,hlen]⟩,q⟩
def eE(K:a8)(T:String)(x:V)(H:Hp):Prop:=match x with
 | .str _=>T= "str"
 | .int _=>T= "int"
 | .ref p=> (T= "list"∧∃xs,Cz K H p xs)∨(T= "tuple"∧∃o,K.lookup p=some o∧o.cls=.type "tuple"∧o.dict=none)∨
   (T= "dict"∧((∃kvs,H p=some (.dK kvs))∨∃kvs,H p=some (.dT kvs)))∨(T= "set"∧∃S n,H p=some (.set S n))
 |_=>False
theorem Xk{pins:List (Addr×Obj)}{σ:St}{H:Hp}{s:a9}{T:String}{x:V}{v:Value}(I:Inv X pins σ H s)(r:RelV x v)(ty:eE X.K T x H):
  s.TypeIs v T∧∀a,v=.ref a→∃ob,s.heap.get? a=some ob∧ob.dict=none:=by
 cases x with
 |str z=>
  obtain⟨t,rfl⟩:=r
  cases(show T= "str" from ty)
  exact⟨typeIs_str s z t,fun _ e=>nomatch e⟩
 |int i=>
  obtain⟨t,rfl⟩:=r
  cases(show T= "int" from ty)
  exact⟨typeIs_int s i t,fun _ e=>nomatch e⟩
 |ref p=>
  cases r
  rcases ty with⟨rfl,xs,hq⟩| ⟨rfl,o,hk,hc,hd⟩| ⟨rfl,hk⟩| ⟨rfl,S,n,hk⟩
  ·obtain⟨its,_,pl,_⟩:=I.list hq
   refine⟨pl.isList.typeIs,fun a e=>?_⟩
   cases e
   obtain⟨o,n,e,c,hd,_⟩:=pl
   exact⟨o,e,hd⟩
  ·refine⟨⟨o,I.kIn p o hk,hc⟩,fun a e=>?_⟩
   cases e
   exact⟨o,I.kIn _ o hk,hd⟩
  ·have z:∃o,s.heap.get? p=some o∧o.ExactDict:=by
    rcases hk with⟨kvs,hk⟩| ⟨kvs,hk⟩
    ·obtain⟨_,_,_,_,o,_,_,e,ex,_⟩:=I.hok p _ hk
     exact⟨o,e,ex⟩
    ·obtain⟨_,_,_,_,o,_,_,e,ex,_⟩:=I.hok p _ hk
     exact⟨o,e,ex⟩
   obtain⟨o,e,ex⟩:=z
   refine⟨⟨o,e,ex.1⟩,fun a e2=>?_⟩
   cases e2
   exact⟨o,e,ex.2.1⟩
  ·obtain⟨o,_,_,_,e,ex,_⟩:=I.hok p _ hk
   refine⟨⟨o,e,ex.1⟩,fun a e2=>?_⟩
   cases e2
   exact⟨o,e,ex.2.1⟩
 |_=>exact lZ ty
def fv(K:a8)(T:String)(r:V→List V→Hp→VK→Prop)(to:TE)(t:TA):TE:=fun σ H Q=>to σ H fun x H1=>eE K T x H1∧t σ H1 fun xs H2=>r x xs H2 Q
variable{o e:Expr}{es:List Expr}{to:TE}{t:TA}{name:Str}{apos cpos:Pos}{T id:String}{r:V→List V→Hp→VK→Prop}
theorem aX(pa:PlainAttrs T)(slot:Slot T name id)(hty:typeOf (.builtin id)=pure (.type "method_descriptor"))(hm:fR X id r)(ho:PE X o to)(ha:PA X (e::es) t)
  (hbase:pE o name X.env (eval o X.env)=eval o X.env:=by rfl)
  (hfew:((lz cpos (e8 (e::es) X.env)).all (fun x=>!x.1)&&(sv cpos (qv [] X.env)).all (fun x=>x.1.isSome)
   &&decide ((e::es).length+([]:List pq).length+(if([]:List pq).isEmpty then 0 else 1)<30))=true:=by rfl)
  (hline:(apos.endLine==cpos.line)=true:=by rfl) (hs:e8 (e::es) X.env=(false,eval e X.env)::e8 es X.env:=by rfl) (hplain:(lz cpos (e8 es X.env)).any (·.1)=false:=by rfl):
  PE X (.Call (.Attribute o name apos) (e::es) [] cpos) (fv X.K T r to t):=by
 intro pins s σ H Q I h
 refine wpAny_Call_method_late hbase hfew hline rfl (Aw (ho pins s σ H _ I h) fun v s1 ⟨x,H1,I1,r1,ty,q1⟩=>?_)
 obtain⟨h1,h2⟩:=Xk I1 r1 ty
 refine⟨T,id,pa,slot,hty,h1,h2,?_⟩
 have hA:=ha cpos pins s1 σ H1 _ I1 q1
 rw[hs] at hA ⊢
 refine Calls.callWith_builtin (by show(false|| (lz cpos (e8 es X.env)).any (·.1))=false;rw[hplain]<;>rfl) (Calls.evalArgs_plain ?_)
 exact Aw hA fun us s2 ⟨vs,H2,I2,r2,q2⟩=>hm pins s2 σ H2 x vs v us Q I2 r1 r2 q2
end
def fS(X:Cx)(id:String)(r:V→List V→Hp→VK→Prop):Prop:=
 ∀(pins:List (Addr×Obj)) (s:a9) (σ:St) (H:Hp) (x:V) (xs:List V) (v:Value) (us:List Value) (Q:VK),Inv X pins σ H s→RelV x v→Vals xs us→r x xs H Q→
  wpAny (model X.prog X.w) X.A (call (.builtin id) (v::us)) (EP X pins σ Q) X.xe s
theorem Vals.one:∀{x:V} {us:List Value},Vals [x] us→∃u,us=[u]∧RelV x u
 |_,_,.cons r .nil=> ⟨_,rfl,r⟩
theorem Vals.eraseIdx:∀{xs:List V} {us:List Value} (i:Nat),Vals xs us→Vals (xs.eraseIdx i) (us.eraseIdx i)
 |_,_,_,.nil=> .nil
 |_,_,0,.cons _ t=>t
 |_,_,i+1,.cons r t=> .cons r (Vals.eraseIdx i t)
theorem Ih{α:Type}:∀(l:List α) (i:Nat),(l.eraseIdx i).length≤l.length
 | [],_=>hC _
 |_::_,0=>Nat.le_succ _
 |_::r,i+1=>Nat.succ_le_succ (Ih r i)
section
variable{X:Cx}{pins:List (Addr×Obj)}{σ:St}{H:Hp}{s:a9}{l b:Addr}{xs ys zs:List V}
theorem Inv.lset{its its':List Value}{n:Nat}{f:Array Value→Array Value}{t':Nat}(I:Inv X pins σ H s)(hH:H l=some (.lst xs))
  (e:s.heap.get? l=some {cls:=.type "list",data:=.seq its.toArray n}) (hf:f its.toArray=its'.toArray) (hv:Vals ys its') (hz:ys.length≤sizeLine):
  Inv X pins σ (upd H l (.lst ys)) {s with heap:=s.heap.update l (kl f),toks:=t'}:=by
 have q:=PySem.IsL.update e f
 rw[hf] at q
 refine I.write (x:=l) (e:=l) (by rw[hH];exact trivial) (.inl rfl) (fun b' u hb hu=> (km s.heap (kl f) (Ne.symm hb)).trans hu) ⟨_,q⟩ ?_
 exact⟨hz,its',_,hv,q⟩
theorem Inv.lnew{its:List Value}{t':Nat}(I:Inv X pins σ H s)(hv:Vals ys its)(hz:ys.length≤sizeLine):
  Inv X pins σ (upd H s.heap.objs.size (.lst ys)) {s with heap:=s.heap.push {cls:=.type "list",data:=.seq its.toArray},toks:=t'}:=
 I.laid (fun _ _ q=>e6 _ q) (hC _) ⟨hz,its,0,hv,iz _ rfl⟩
theorem Inv.fresh(I:Inv X pins σ H s):H s.heap.objs.size=none:=I.hok.fresh (hC _)
theorem Inv.lstM(I:Inv X pins σ H s)(hH:H l=some (.lst xs)):xs.length≤sizeLine∧∃(its:List Value) (n:Nat),Vals xs its∧xs.length=its.length∧s.heap.get? l=some {cls:=.type "list",data:=.seq its.toArray n}:=by
 obtain⟨z,its,n,r,e⟩:=I.hok l _ hH
 exact⟨z,its,n,r,r.length,e⟩
end
section
variable{X:Cx}
def Nv:V→List V→Hp→VK→Prop:=fun x vs H Q=>∃l xs y,x=.ref l∧vs=[y]∧H l=some (.lst xs)∧xs.length<sizeLine∧Q .non (upd H l (.lst (xs++[y])))
theorem Ii:fS X "list.append" Nv:=by
 intro pins s σ H x vs v us Q I rx rv h
 obtain⟨l,xs,y,rfl,rfl,hH,hz,q⟩:=h
 cases rx
 obtain⟨u,rfl,ru⟩:=rv.one
 obtain⟨z,its,n,r,hl,e⟩:=I.lstM hH
 refine rf F.slot_list_append ⟨_,e,rfl⟩ F.entry_list_append (F.args_list_append_2 _ _) (PySem.list_append l its.toArray n u (by rw[iu];omega)) ⟨e,?_⟩
 refine⟨.non,_,I.lset (its':=its++[u]) hH e (by simp) (r.append (.cons ru .nil)) ?_,rfl,q⟩
 rw[iB,List.length_singleton]
 omega
def Xl:V→List V→Hp→VK→Prop:=fun x vs H Q=>∃l xs i k y,x=.ref l∧vs=[.int i]∧H l=some (.lst xs)∧-(2^63)≤i∧i<2^63∧qK i xs.length=some k∧xs[k]?=some y∧Q y (upd H l (.lst (xs.eraseIdx k)))
theorem Ql:fS X "list.pop" Xl:=by
 intro pins s σ H x vs v us Q I rx rv h
 obtain⟨l,xs,i,k,y,rfl,rfl,hH,h1,h2,hk,hy,q⟩:=h
 cases rx
 obtain⟨u,rfl,ru⟩:=rv.one
 obtain⟨t,rfl⟩:=ru
 obtain⟨z,its,n,r,hl,e⟩:=I.lstM hH
 obtain⟨w,hw,rw'⟩:=r.get hy
 refine rf F.slot_list_pop ⟨_,e,rfl⟩ F.entry_list_pop (F.args_list_pop_2 _ _)
  (MeetsSeq.list_pop_at l its.toArray n i t k w (fitsIndex_both h1 h2) (by rw[iu,←hl];exact hk) (by rw[←iR];exact hw) (by rw[iu];omega)) ⟨e,?_⟩
 refine⟨y,_,I.lset (its':=its.eraseIdx k) hH e ?_ (r.eraseIdx k) ?_,rw',q⟩
 ·show its.toArray.eraseIdxIfInBounds k=(its.eraseIdx k).toArray
  rw[List.eraseIdxIfInBounds_toArray]
 ·have:=Ih xs k
  omega
def aY:R2:=fun x y H Q=>∃l b xs zs,x=.ref l∧y=.ref b∧H l=some (.lst xs)∧H b=some (.lst zs)∧xs.length+zs.length≤sizeLine∧∀p,H p=none→Q (.ref p) (upd H p (.lst (xs++zs)))
theorem Qm:CY X (lP .Add) aY:=by
 intro pins s σ H x y v u Q I rx ry h
 obtain⟨l,b,xs,zs,rfl,rfl,hH,hB,hz,q⟩:=h
 cases rx
 cases ry
 obtain⟨z,its,n,r,hl,e⟩:=I.lstM hH
 obtain⟨z2,its2,n2,r2,hl2,e2⟩:=I.lstM hB
 refine PySem.P.add_list e e2 ?_ (by rw[iu,iu];omega)
 have ea:its.toArray++its2.toArray=(its++its2).toArray:=by simp
 rw[ea]
 exact⟨.ref _,_,I.lnew (t':=s.toks) (r.append r2) (by rw[iB];omega),rfl,q _ I.fresh⟩
end
section
variable{prog:Program}{w:World}{A:iC}{E:Value→a9→Prop}{s:a9}
end
section
variable{X:Cx}
end
end L2
namespace Att
open PySem PySem.W PySem.Calls PyProof.Rows
theorem GM{P:Params}{h:Heap}:∀(ns:List Int) (vs:List Value),WellAll P h vs (ns.map WData.int)→lI vs ns:=by
 intro ns
 induction ns with
 |nil=>
  intro vs w
  rw[oC] at w
  cases w
  exact .nil
 |cons n ns ih=>
  intro vs w
  rw[iN] at w
  cases w with
  |cons a b=>
   cases a
   exact .cons _ _ (ih _ b)
theorem PV{l:qg}{n:Nat}(hn:l.most=some n){P:Params}{h:Heap}{args:List WData}{vals:List Value}
  (hpre:l.row.toRowW.claim.pre args=true) (hwl:WellAll P h vals args):
  ∃a vs ns,vals=[Value.ref a]∧args=[WData.list (ns.map WData.int)]∧h.get? a=some {cls:=.type "list",data:=.seq vs.toArray}∧lI vs ns∧ns.length≤n:=by
 have hsh:WShape.hasAll [] args [.list .int]=true:=(pre_splitW hpre).1
 have hc:l.pre.holds [] {args:=args}=true:=(pre_splitW hpre).2
 obtain⟨d,r,rfl,h1,h2⟩:=hasAllW_cons hsh
 obtain rfl:=hasAllW_nil h2
 obtain⟨xs,rfl,h3⟩:=hasW_list h1
 obtain⟨ns,rfl⟩:=items_int h3
 have hlen:ns.length≤n:=by
  unfold qg.pre at hc
  have h4:(WTm.not (.lt (.lit (.int (n:Int))) (.len (.arg 0)))).holds [] {args:=[.list (ns.map .int)]}=true:=by
   have h4:=(holds_andW hc).1
   rw[hn] at h4
   exact h4
  have h5:=condW_of h4 (w_not (w_lt w_lit (w_len_list (w_arg rfl))))
  rw[c9] at h5
  refine nQ fun q=>?_
  have q':(n:Int)< ((ns.length:Nat):Int):=by omega
  first
   | (rw[decide_eq_true q'] at h5;exact absurd h5 (by decide))
   | (simp at h5;omega)
 cases hwl with
 |cons w1 w2=>
  cases w2
  cases w1 with
  |list ho hall=>exact⟨_,_,ns,rfl,rfl,ho,GM ns _ hall,hlen⟩
theorem PX(l:qg)(args:List WData):l.row.toRowW.claim.post args (.bool true) args=true:=
 postW_of (r:=l.row.toRowW) (X:=(true==true))
  (show WShape.has [] (.bool true) .bool=true by first|rfl|decide|simp[WShape.has,WShape.arms,WShape.armsAll])
  (show(WTm.eq .res (.lit (.bool true))).value [] {args:=args,res:=some (.bool true),after:=args}=some (.bool (true==true)) from w_eq_bool (w_res rfl) w_lit) rfl
theorem Ks{l:qg}{n:Nat}{q:Program}{loose:List Str}{XP:(Str→Option Value)→Heap→Prop}{YP:World→Heap→Prop}{d:DefRec}
  (hn:l.most=some n) (hdf:d.params.defaults=[])
  (call:∀(w:World) (s₀ s₁:a9) (mg mb:Str→Option Value) (fa:Addr) (o:Obj) (pm cd doc:Value) (a:Addr) (vs:List Value) (ns:List Int),
   Ground q loose [] XP w s₀ mg mb s₁.heap→YP w s₁.heap→
   s₁.heap.get? fa=some o→o.data=.func (docDef d.name d.params d.body d.scope pm cd doc)→s₁.heap.CodeRec cd d.name→mg d.name=some (.ref fa)→
   s₁.heap.get? a=some {cls:=.type "list",data:=.seq vs.toArray}→lI vs ns→ns.length≤n→s₁.gens= #[]→
   mQ (model l.prog w) qN (.call (.ref fa) ⟨[.ref a],[]⟩) (fun r s'=>r=.ok (.ret (.bool true))∧OldK s₁.heap s'.heap∧s'.os=s₁.os∧oD s'.gens) s₁):
  WalkO q loose XP YP l.row.toRowW d [] (fun f vs=>PySem.call f vs):=by
 intro w s₀ s₁ mg mb G Y fa o pm cd doc dV kV ho hd hcd hD hmg hg args vals as hpre hlay hrd hwl hlo
 obtain rfl:dV=.none:=Dflts.none hD hdf
 obtain rfl:kV=.none:=Dflts.noKw hD
 obtain⟨a,vs,ns,rfl,rfl,hobj,hints,hlen⟩:=PV hn hpre hwl
 refine enter_call (oA (call w s₀ s₁ mg mb fa o pm cd doc a vs ns G Y ho (fd_plain hd) hcd hmg hobj hints hlen hg) fun r s' hq=>?_)
 obtain⟨rfl,h2,h3,h4⟩:=hq
 exact⟨.inl ⟨.bool true,.bool true,[],rfl,fun _=>rfl,.bool true,PX l _,fun _=> ⟨lT,fun _ hm=> (nomatch hm)⟩⟩,h2,h3,h4⟩
section
variable{prog:Program}{w:World}{A:iC}{E:Value→a9→Prop}{s:a9}{K:Frag}
end
end Att
namespace L2
open PySem PySem.Spec PyProof.Rows
theorem Do:∀{vs:List Value} {ns:List Int},lI vs ns→Vals (ns.map V.int) vs
 |_,_,.nil=> .nil
 |_,_,.cons n t h=> .cons ⟨t,rfl⟩ (Do h)
def Xm(H:Hp):Prop:=∀b,H b=none∨∃o xs,H b=some (.frz o (.lst xs))
theorem Qn{P:Program}{w:World}{K:a8}{mg mb:Str→Option Value}{CX:QQ}{k:Nat}{fa a:Addr}{fd:iI}{x:Str}{sp:Sp}{s₁:a9}{vs:List Value}{ns:List Int}
  (KX:K.In s₁.heap) (hns:s₁.heap.Ns kg mg) (hb:s₁.heap.Ns rh mb) (hbb:∀x:Str,x≠"__name__"→mb x=i5 x) (hlim:s₁.heap.NoLimit) (hg:s₁.gens= #[])
  (ha:s₁.heap.get? a=some {cls:=.type "list",data:=.seq vs.toArray}) (hi:lI vs ns) (hl:ns.length≤sizeLine) (hr:Room k qN)
  (F:∀base:Heap,K.In base→base.Ns kg mg→FnOk P w K mg base CX k fa fd [x] sp) (hbind:∀(s:a9) (u:Value),rS s fd ⟨[u],[]⟩ [(x,u)])
  (hsp:∀H:Hp,Xm H→Cz K H a (ns.map V.int)→sp [.ref a] H (fun v _=>v=.bl true) fun _ _ _=>False)
  (hCX:∀H e s',CX [] H s₁ (fun _ _ _=>False) e s'→False):
  mQ (model P w) qN (.call (.ref fa) ⟨[.ref a],[]⟩) (fun r s'=>r=.ok (.ret (.bool true))∧OldK s₁.heap s'.heap∧s'.os=s₁.os∧oD s'.gens) s₁:=by
 have rv:=Do hi
 have lenV:=hi.length
 have core:∀H:Hp,Xm H→Cz K H a (ns.map V.int)→HOk P w H s₁.heap→(∀b,H b≠none→b=a)→(H a≠none→K.lookup a=none)→
   mQ (model P w) qN (.call (.ref fa) ⟨[.ref a],[]⟩) (fun r s'=>r=.ok (.ret (.bool true))∧OldK s₁.heap s'.heap∧s'.os=s₁.os∧oD s'.gens) s₁:=by
  intro H hO hS hok hA hK
  have base_of:∀{b:Addr} {o:Obj},s₁.heap.get? b=some o→H b=none→(JU s₁.heap H).get? b=some o:=fun e n=>QS e n
  have noA:∀{b:Addr} {o:Obj} {es:Array DictEntry} {ep:Nat},s₁.heap.get? b=some o→o.data=.dict es ep→H b=none:=fun{b o es ep} e d=>by
   cases q:H b with
   |none=>rfl
   |some u=>
    have e':b=a:=hA b (by rw[q];simp)
    subst e'
    rw[ha] at e;cases e
    have d':Data.seq vs.toArray _=Data.dict es ep:=d
    cases d'
  have nsK:∀{b:Addr} {m:Str→Option Value},s₁.heap.Ns b m→(JU s₁.heap H).Ns b m:=fun{b m} ⟨o,es,ep,e,d,r⟩=> ⟨o,es,ep,base_of e (noA e d),d,r⟩
  have hKb:K.In (JU s₁.heap H):=fun b o e=>base_of (KX b o e) (by
   cases q:H b with
   |none=>rfl
   |some u=>
    have e':b=a:=hA b (by rw[q];simp)
    subst e'
    rw[hK (by rw[q];simp)] at e;cases e)
  have hM:Mod K mg (JU s₁.heap H):=⟨hKb,nsK hns,⟨mb,nsK hb,hbb⟩,let⟨mc,h1,h2⟩:=hlim;⟨mc,nsK h1,h2⟩⟩
  have e0:Env0 P w K mg (JU s₁.heap H) qN [] s₁ H:=⟨rfl,hM,fun b o e=>UE e,Nat.le_of_eq (PD _ _),trivial,fun b hb=>absurd (show b∈([]:List Addr) from hb) (by simp),hok,.of_eq hg⟩
  refine oA ((F _ hKb (nsK hns)).run qN [] s₁ H ⟨[.ref a],[]⟩ [.ref a] [.ref a] _ _ hr e0 (hbind s₁ (.ref a)) (.cons rfl .nil) (hsp H hO hS)) fun r s' h=>?_
  cases r with
  |error e=>exact(hCX H e s' h).elim
  |ok fl=>
   cases fl with
   |next=>exact lZ h
   |brk=>exact lZ h
   |cont=>exact lZ h
   |ret u=>
    obtain⟨v,H',os,bare,un,hok',r',q⟩:=h
    have q':v=.bl true:=q
    subst q'
    obtain rfl:u=nP true:=r'
    refine⟨rfl,OldK.of_keep fun b o e=>?_,os,bare⟩
    cases q:H b with
    |none=>exact un.keep b o e q (by intro z;exact absurd (show b∈([]:List Addr) from z) (by simp)) (by simp)
    |some u=>
     rcases hO b with z| ⟨ob,xs,z⟩
     ·rw[q] at z;cases z
     ·have z2:=un.frzs b ob _ z
      obtain⟨e1,_⟩:=hok b _ z
      obtain⟨e2,_⟩:=hok' b _ z2
      rw[e] at e1;cases e1
      exact e2
 cases hk:K.lookup a with
 |some o=>
  have e:=KX a o hk
  rw[ha] at e
  cases e
  refine core (fun _=>none) (fun _=> .inl rfl) (.inr ⟨_,vs.toArray,_,hk,rfl,rfl,rfl,by rw[iu,lenV];exact hl,by simpa using rv⟩) (fun b u z=>by have z':(none:Option HO)=some u:=z;cases z') (fun b z=>absurd rfl z) fun z=>absurd rfl z
 |none=>
  refine core (fun b=>if b=a then some (.frz {cls:=.type "list",data:=.seq vs.toArray} (.lst (ns.map V.int))) else none) (fun b=>?_) (.inl (.inr ⟨{cls:=.type "list",data:=.seq vs.toArray},if_pos rfl⟩)) (fun b u z=>?_) (fun b z=>?_) fun _=>hk
  ·by_cases hb:b=a
   ·exact .inr ⟨_,_,if_pos hb⟩
   ·exact .inl (if_neg hb)
  ·by_cases hb:b=a
   ·have z':=(if_pos hb).symm.trans z
    cases z'
    subst hb
    exact⟨ha,by rw[c9];exact hl,vs,_,rv,ha⟩
   ·have z':=(if_neg hb).symm.trans z
    cases z'
  ·by_cases hb:b=a
   ·exact hb
   ·exact absurd (if_neg hb) z
theorem UR{l:qg}{n k:Nat}{q:Program}{loose:List Str}{XP:(Str→Option Value)→Heap→Prop}{YP:World→Heap→Prop}{d:DefRec}{K:Params→a8}{CX:World→QQ}{sp:World→Sp}{x:Str}
  (hn:l.most=some n) (hn2:n≤sizeLine) (hdf:d.params.defaults=[]) (hr:Room k qN)
  (hY:∀(w:World) (h:Heap),YP w h→(K w.params).In h)
  (F:∀(w:World) (mg:Str→Option Value) (fa:Addr) (h:Heap),(K w.params).In h→h.Ns kg mg→mg d.name=some (.ref fa)→
   ∃fd:iI,(∀(s:a9) (u:Value),rS s fd ⟨[u],[]⟩ [(x,u)])∧
    ∀base:Heap,(K w.params).In base→base.Ns kg mg→FnOk l.prog w (K w.params) mg base (CX w) k fa fd [x] (sp w))
  (hsp:∀(w:World) (H:Hp) (a:Addr) (ns:List Int),ns.length≤n→Xm H→Cz (K w.params) H a (ns.map V.int)→sp w [.ref a] H (fun v _=>v=.bl true) fun _ _ _=>False)
  (hCX:∀(w:World) (H:Hp) (s:a9) (e:Value) (s':a9),CX w [] H s (fun _ _ _=>False) e s'→False):
  PySem.W.WalkO q loose XP YP l.row.toRowW d [] (fun f vs=>PySem.call f vs):=by
 refine Att.Ks hn hdf fun w s₀ s₁ mg mb fa o pm cd doc a vs ns G Y ho hd hcd hmg hobj hints hlen hg=>?_
 have KX:=hY w _ Y
 obtain⟨fd,hb,hF⟩:=F w mg fa _ KX G.T.g hmg
 exact Qn KX G.T.g G.T.b G.T.builtins G.T.nolimit hg hobj hints (jv hlen hn2) hr hF hb (fun H hO hS=>hsp w H a ns hlen hO hS) fun H e s'=>hCX w H s₁ e s'
def Eu(s:Stmt):Arguments:=match s with
 | .FunctionDef _ a _ _ _ _ _ _ _ _=>a
 |_=> {posonlyargs:=[],args:=[],vararg:=none,kwonlyargs:=[],kw_defaults:=[],kwarg:=none,defaults:=[]}
def BL(s:Stmt):List Stmt:=match s with
 | .FunctionDef _ _ b _ _ _ _ _ _ _=>b
 |_=> []
def AA(s:Stmt):Scope:=match s with
 | .FunctionDef _ _ _ _ _ _ sc _ _ _=>sc
 |_=> {kind:=.function,names:=[],isGenerator:=false,isCoroutine:=false}
abbrev E0:XK:=fun _ _ _=>False
structure Fun(K:a8)(x qual:Str)(st:Stmt)(f:Addr)(fd:iI):Prop where
 ex:∃(oc:Value) (od:Option Addr) (kV doc pm:Value) (an:Option Addr) (cdv ct:Value) (osl:Array (Option Value)),
  fd=mS x qual (Eu st) (BL st) (AA st) .none kV doc pm an cdv ct∧K.lookup f=some ⟨oc,od,.func fd,osl⟩∧qy K cdv qual=true
 kp:lG K (.ref f)=true
section
variable{P:Program}{w:World}{K:a8}{mg:Str→Option Value}{base:Heap}
theorem Fun.binds{x qual:Str}{st:Stmt}{f:Addr}{fd:iI}{ps:List Str}(F:Fun K x qual st f fd)
  (h:∀(kV doc pm:Value) (an:Option Addr) (cdv ct:Value) (us:List Value),us.length=ps.length→bindArgs (mS x qual (Eu st) (BL st) (AA st) .none kV doc pm an cdv ct) ⟨us,[]⟩=pure (ps.zip us)):Binds K fd ps []:=by
 obtain⟨oc,od,kV,doc,pm,an,cdv,ct,osl,rfl,lk,hcd⟩:=F.ex
 exact .all (h kV doc pm an cdv ct)
end
section
variable{X:Cx}
theorem pv(i:Nat){x:Str}{pos:Pos}(hN:X.N[i]?=some x:=by rfl)(hv:Zo X.env.scope x:=by first|exact pH rfl|exact oO (pH rfl)|exact oO (oO rfl))(hd:(x==("__debug__" :Str))=false:=by decide)
  (hcd:(x==("__classdict__" :Str))=false:=by decide):PE X (.Name x pos) (Zs i):=QT hN hv hd hcd
end
theorem Qo{A B:Prop}(h:B):if false=true then A else B:=by
 rw[if_neg gx]
 exact h
theorem Jc{A B:Prop}(h:A):if true=true then A else B:=by
 rw[if_pos rfl]
 exact h
theorem Xn{c A B:Prop} [Decidable c](h1:c→A)(h2:¬c→B):if c then A else B:=by
 by_cases h:c
 ·rw[if_pos h]
  exact h1 h
 ·rw[if_neg h]
  exact h2 h
end L2
set_option maxHeartbeats 4000000
namespace K06
open PySem L2
def kE(P:Params)(x:Str)(n:Tok)(v:Value):DictEntry:=⟨jz.keyHash P x,.str x n,v⟩
def tp(i:Nat):Stmt:=iW.main.body.getD i (.Pass ⟨0,0,0,0⟩)
def kF(x:Str)(i:Nat)(m:Str)(t:Tok)(c:Addr):Obj:=⟨.type "function",none,.func (mS x x (Eu (tp i)) (BL (tp i)) (AA (tp i)) .none .none .none (.str m t) none (.ref c) .none),#[]⟩
def kC(x:Str)(a b c:Tok)(vs:List Value):Obj:=⟨.type "code",none,.fields ((rW x a::.str x b::.str "/claim/cut.py" c::vs).toArray),#[]⟩
def kD(x:Str)(a b c:Tok)(l n:Int)(r:Addr)(g:Int)(q:Addr)(z:Int)(k:Tok)(vs:List Value):Obj:=kC x a b c (.int l 0::.int n 0::.int 0 0::.int 0 0::.int 3 0::.ref r::.bool true::.int g 0::.ref q::(vs++[.int z 0,.int l 0,.str "/claim/cut.py" k]))
def Kk:Params→a8:=fun P=> (nat_lit 3,⟨(.type "dict"),none,(.dict #[kE P "__name__" 165 (.str "law_noshortring_k06_whole_rings" 477),kE P "__doc__" 166 .none,kE P "__package__" 167 .none,kE P "__loader__" 168 (.builtin "__main__.__loader__#opaque"),kE P "__spec__" 169 .none,kE P "__annotations__" 170 (.ref 6),kE P "__builtins__" 171 (.ref 4),kE P "__file__" 173 (.str "/claim/cut.py" 172),kE P "__cached__" 174 .none,kE P "RingError" 206 (.ref 24),kE P "NoPlace" 222 (.ref 37),kE P "NoNumber" 238 (.ref 49),kE P "NoWeb" 263 (.ref 68),kE P "is_whole" 274 (.ref 77),kE P "need_number" 283 (.ref 84),kE P "is_rising" 289 (.ref 89),kE P "least_told" 295 (.ref 94),kE P "MOST_PLACES" 299 (.int 16 298),kE P "LEAST_RING" 301 (.int 3 300),kE P "web_good" 308 (.ref 101),kE P "ties_good" 314 (.ref 106),kE P "is_pair" 320 (.ref 111),kE P "web_of" 330 (.ref 118),kE P "ties_of" 336 (.ref 123),kE P "is_place" 344 (.ref 130),kE P "need_place" 352 (.ref 137),kE P "are_tied" 361 (.ref 144),kE P "nears_of" 367 (.ref 149),kE P "near_of" 375 (.ref 156),kE P "fars_from" 381 (.ref 161),kE P "far_of" 390 (.ref 168),kE P "pieces_of" 396 (.ref 173),kE P "even_by" 402 (.ref 178),kE P "is_even_by" 410 (.ref 185),kE P "ring_good" 416 (.ref 190),kE P "ring_by_tie" 422 (.ref 195),kE P "shortest" 428 (.ref 200),kE P "shortest_rings_from" 440 (.ref 207),kE P "rows_longer" 453 (.ref 214),kE P "first_ring" 464 (.ref 221),kE P "shortest_many" 470 (.ref 226),kE P "renamed" 476 (.ref 231),kE P "_law_cell_at" 486 (.ref 238),kE P "_law_next" 493 (.ref 245),kE P "_law_pen_of" 501 (.ref 252),kE P "_law_draw" 510 (.ref 259),kE P "_law_named" 516 (.ref 264),kE P "_law_names_by" 522 (.ref 269),kE P "_law_turned" 534 (.ref 276),kE P "_law_shape" 540 (.ref 281),kE P "_law_web_by" 552 (.ref 288),kE P "_law_ring_right" 563 (.ref 295),kE P "_law_pieces_right" 569 (.ref 300),kE P "_law_named_right" 575 (.ref 305),kE P "law" 581 (.ref 310)] 55),#[]⟩)::
  (nat_lit 76,kD "is_whole" 266 267 268 13 3 71 181 72 272 273 [.none,(.ref 73),(.ref 74),(.ref 75)])::
  (nat_lit 77,kF "is_whole" 6 "noshortring.common" 264 76)::
  (nat_lit 83,kD "need_number" 275 276 277 17 3 78 181 79 281 282 [.none,(.ref 80),(.ref 81),(.ref 82)])::
  (nat_lit 84,kF "need_number" 7 "noshortring.common" 264 83)::
  (nat_lit 88,kD "is_rising" 284 285 286 20 1 85 181 86 287 288 [.none,.none,.none,(.ref 87)])::
  (nat_lit 89,kF "is_rising" 8 "noshortring.common" 264 88)::
  (nat_lit 93,kD "least_told" 290 291 292 22 1 90 181 91 293 294 [.none,.none,.none,(.ref 92)])::
  (nat_lit 94,kF "least_told" 9 "noshortring.common" 264 93)::
  (nat_lit 100,kD "web_good" 302 303 304 27 1 95 181 96 306 307 [.none,(.ref 97),(.ref 98),(.ref 99)])::
  (nat_lit 101,kF "web_good" 13 "noshortring.webs" 296 100)::
  (nat_lit 105,kD "ties_good" 309 310 311 31 2 102 181 103 312 313 [.none,.none,.none,(.ref 104)])::
  (nat_lit 106,kF "ties_good" 14 "noshortring.webs" 296 105)::
  (nat_lit 110,kD "is_pair" 315 316 317 35 2 107 181 108 318 319 [.none,.none,.none,(.ref 109)])::
  (nat_lit 111,kF "is_pair" 15 "noshortring.webs" 296 110)::
  (nat_lit 117,kD "web_of" 321 322 323 39 2 112 181 113 328 329 [.none,(.ref 114),(.ref 115),(.ref 116)])::
  (nat_lit 118,kF "web_of" 16 "noshortring.webs" 296 117)::
  (nat_lit 122,kD "ties_of" 331 332 333 46 1 119 181 120 334 335 [.none,.none,.none,(.ref 121)])::
  (nat_lit 123,kF "ties_of" 17 "noshortring.webs" 296 122)::
  (nat_lit 129,kD "is_place" 337 338 339 48 2 124 181 125 342 343 [.none,(.ref 126),(.ref 127),(.ref 128)])::
  (nat_lit 130,kF "is_place" 18 "noshortring.webs" 296 129)::
  (nat_lit 136,kD "need_place" 345 346 347 50 2 131 181 132 350 351 [.none,(.ref 133),(.ref 134),(.ref 135)])::
  (nat_lit 137,kF "need_place" 19 "noshortring.webs" 296 136)::
  (nat_lit 143,kD "are_tied" 353 354 355 53 3 138 181 139 359 360 [.none,(.ref 140),(.ref 141),(.ref 142)])::
  (nat_lit 144,kF "are_tied" 20 "noshortring.webs" 296 143)::
  (nat_lit 148,kD "nears_of" 362 363 364 55 1 145 181 146 365 366 [.none,.none,.none,(.ref 147)])::
  (nat_lit 149,kF "nears_of" 21 "noshortring.webs" 296 148)::
  (nat_lit 155,kD "near_of" 368 369 370 61 2 150 181 151 373 374 [.none,(.ref 152),(.ref 153),(.ref 154)])::
  (nat_lit 156,kF "near_of" 22 "noshortring.webs" 296 155)::
  (nat_lit 160,kD "fars_from" 376 377 378 64 2 157 181 158 379 380 [.none,.none,.none,(.ref 159)])::
  (nat_lit 161,kF "fars_from" 23 "noshortring.webs" 296 160)::
  (nat_lit 167,kD "far_of" 382 383 384 80 3 162 181 163 388 389 [.none,(.ref 164),(.ref 165),(.ref 166)])::
  (nat_lit 168,kF "far_of" 24 "noshortring.webs" 296 167)::
  (nat_lit 172,kD "pieces_of" 391 392 393 84 1 169 181 170 394 395 [.none,.none,.none,(.ref 171)])::
  (nat_lit 173,kF "pieces_of" 25 "noshortring.webs" 296 172)::
  (nat_lit 177,kD "even_by" 397 398 399 92 1 174 181 175 400 401 [.none,.none,.none,(.ref 176)])::
  (nat_lit 178,kF "even_by" 26 "noshortring.webs" 296 177)::
  (nat_lit 184,kD "is_even_by" 403 404 405 95 2 179 181 180 408 409 [.none,(.ref 181),(.ref 182),(.ref 183)])::
  (nat_lit 185,kF "is_even_by" 27 "noshortring.webs" 296 184)::
  (nat_lit 189,kD "ring_good" 411 412 413 98 2 186 181 187 414 415 [.none,.none,.none,(.ref 188)])::
  (nat_lit 190,kF "ring_good" 28 "noshortring.webs" 296 189)::
  (nat_lit 194,kD "ring_by_tie" 417 418 419 104 3 191 181 192 420 421 [.none,.none,.none,(.ref 193)])::
  (nat_lit 195,kF "ring_by_tie" 29 "noshortring.webs" 296 194)::
  (nat_lit 199,kD "shortest" 423 424 425 109 1 196 181 197 426 427 [.none,.none,.none,(.ref 198)])::
  (nat_lit 200,kF "shortest" 30 "noshortring.webs" 296 199)::
  (nat_lit 206,kD "shortest_rings_from" 429 430 431 112 3 201 181 202 438 439 [.none,(.ref 203),(.ref 204),(.ref 205)])::
  (nat_lit 207,kF "shortest_rings_from" 31 "noshortring.webs" 296 206)::
  (nat_lit 213,kD "rows_longer" 441 442 443 118 4 208 181 209 451 452 [.none,(.ref 210),(.ref 211),(.ref 212)])::
  (nat_lit 214,kF "rows_longer" 32 "noshortring.webs" 296 213)::
  (nat_lit 220,kD "first_ring" 454 455 456 125 1 215 181 216 462 463 [.none,(.ref 217),(.ref 218),(.ref 219)])::
  (nat_lit 221,kF "first_ring" 33 "noshortring.webs" 296 220)::
  (nat_lit 225,kD "shortest_many" 465 466 467 135 1 222 181 223 468 469 [.none,.none,.none,(.ref 224)])::
  (nat_lit 226,kF "shortest_many" 34 "noshortring.webs" 296 225)::
  (nat_lit 230,kD "renamed" 471 472 473 141 2 227 181 228 474 475 [.none,.none,.none,(.ref 229)])::
  (nat_lit 231,kF "renamed" 35 "noshortring.webs" 296 230)::
  (nat_lit 237,kD "_law_cell_at" 479 480 481 148 2 232 181 233 484 485 [.none,(.ref 234),(.ref 235),(.ref 236)])::
  (nat_lit 238,kF "_law_cell_at" 37 "law_noshortring_k06_whole_rings" 477 237)::
  (nat_lit 244,kD "_law_next" 487 488 489 152 1 239 181 240 491 492 [.none,(.ref 241),(.ref 242),(.ref 243)])::
  (nat_lit 245,kF "_law_next" 38 "law_noshortring_k06_whole_rings" 477 244)::
  (nat_lit 251,kD "_law_pen_of" 494 495 496 155 1 246 181 247 499 500 [.none,(.ref 248),(.ref 249),(.ref 250)])::
  (nat_lit 252,kF "_law_pen_of" 39 "law_noshortring_k06_whole_rings" 477 251)::
  (nat_lit 258,kD "_law_draw" 502 503 504 158 2 253 181 254 508 509 [.none,(.ref 255),(.ref 256),(.ref 257)])::
  (nat_lit 259,kF "_law_draw" 40 "law_noshortring_k06_whole_rings" 477 258)::
  (nat_lit 263,kD "_law_named" 511 512 513 165 2 260 181 261 514 515 [.none,.none,.none,(.ref 262)])::
  (nat_lit 264,kF "_law_named" 41 "law_noshortring_k06_whole_rings" 477 263)::
  (nat_lit 268,kD "_law_names_by" 517 518 519 168 2 265 181 266 520 521 [.none,.none,.none,(.ref 267)])::
  (nat_lit 269,kF "_law_names_by" 42 "law_noshortring_k06_whole_rings" 477 268)::
  (nat_lit 275,kD "_law_turned" 523 524 525 171 2 270 181 271 532 533 [.none,(.ref 272),(.ref 273),(.ref 274)])::
  (nat_lit 276,kF "_law_turned" 43 "law_noshortring_k06_whole_rings" 477 275)::
  (nat_lit 280,kD "_law_shape" 535 536 537 178 2 277 181 278 538 539 [.none,.none,.none,(.ref 279)])::
  (nat_lit 281,kF "_law_shape" 44 "law_noshortring_k06_whole_rings" 477 280)::
  (nat_lit 287,kD "_law_web_by" 541 542 543 197 2 282 181 283 550 551 [.none,(.ref 284),(.ref 285),(.ref 286)])::
  (nat_lit 288,kF "_law_web_by" 45 "law_noshortring_k06_whole_rings" 477 287)::
  (nat_lit 294,kD "_law_ring_right" 553 554 555 207 1 289 181 290 561 562 [.none,(.ref 291),(.ref 292),(.ref 293)])::
  (nat_lit 295,kF "_law_ring_right" 46 "law_noshortring_k06_whole_rings" 477 294)::
  (nat_lit 299,kD "_law_pieces_right" 564 565 566 218 1 296 181 297 567 568 [.none,.none,.none,(.ref 298)])::
  (nat_lit 300,kF "_law_pieces_right" 47 "law_noshortring_k06_whole_rings" 477 299)::
  (nat_lit 304,kD "_law_named_right" 570 571 572 227 2 301 181 302 573 574 [.none,.none,.none,(.ref 303)])::
  (nat_lit 305,kF "_law_named_right" 48 "law_noshortring_k06_whole_rings" 477 304)::
  (nat_lit 309,kD "law" 576 577 578 235 1 306 181 307 579 580 [.none,.none,.none,(.ref 308)])::
  (nat_lit 310,kF "law" 49 "law_noshortring_k06_whole_rings" 477 309)::[]
def ka:List Addr:=[3,76,77,83,84,88,89,93,94,100,101,105,106,110,111,117,118,122,123,129,130,136,137,143,144,148,149,155,156,160,161,167,168,172,173,177,178,184,185,189,190,194,195,199,200,206,207,213,214,220,221,225,226,230,231,237,238,244,245,251,252,258,259,263,264,268,269,275,276,280,281,287,288,294,295,299,300,304,305,309,310]
abbrev kq:Program:=PySem.W.view iW [1,2,3,4,6,7,8,9,11,12,13,14,15,16,17,18,19,20,21,22,23,24,25,26,27,28,29,30,31,32,33,34,35,37,38,39,40,41,42,43,44,45,46,47,48,49]
theorem eF:(fun(_:Params→a8) (_:Program)=>true) Kk iW=true:=by k_qdec
abbrev oS(s:a9):=PySem.W.openSeen kq [] (importedModules iW.main.body) (fun s=>rL kq [] s&&qU [] s) true s
abbrev oE(w:World):=PySem.W.openEnds treeTable iW w 4244
theorem aZ(w:World):(oE w).map (fun s=> ((oS s).1,(oS s).2.2.2.2.1))=some ((jH kq []).1,(jH kq []).2.2.2.2.1):=by
 delta oE oS kq
 rw[PySem.W.Fast.te14535359199879016513,jY,j7]
 delta j6 jH
 dsimp only
 kernel_rfl
theorem aa(w:World):(oE w).map (fun s=> ((oS s).2.1,(oS s).2.2.1,(oS s).2.2.2.2.2.2.1,(oS s).2.2.2.2.2.2.2.2))=some ((jH kq []).2.1,(jH kq []).2.2.1,(jH kq []).2.2.2.2.2.2.1,(jH kq []).2.2.2.2.2.2.2.2):=by
 delta oE oS kq
 rw[PySem.W.Fast.te14535359199879016513,jY,j7,PySem.W.Fast.te5923862056798008813]
 delta j6 jH
 dsimp only
 kernel_rfl
theorem ab(w:World):(oE w).map (fun s=> ((oS s).2.2.2.1))=some ((jH kq []).2.2.2.1):=by
 delta oE oS kq
 rw[PySem.W.Fast.te14535359199879016513,jY,j7]
 delta j6 jH
 dsimp only
 kernel_rfl
theorem ae(w:World):(oE w).map (fun s=> ((oS s).2.2.2.2.2.1))=some ((jH kq []).2.2.2.2.2.1):=by
 delta oE oS kq
 rw[PySem.W.Fast.te14535359199879016513,jY,j7]
 delta j6 jH
 dsimp only
 kernel_rfl
theorem af(w:World):(oE w).map (fun s=> ((oS s).2.2.2.2.2.2.2.1,ka.map s.heap.get?))=some ((jH kq []).2.2.2.2.2.2.2.1,(Kk w.params).map fun(p:Addr×Obj)=>some p.2):=by
 delta oE oS kq
 rw[PySem.W.Fast.te2832851194862377668,PySem.W.Fast.te14535359199879016513,jY,j7]
 delta j6 jH
 dsimp only
 kernel_rfl
theorem left:PySem.W.LeftO iW kq [] (fun s=>rL kq [] s&&qU [] s) (fun s=>ka.map s.heap.get?) (fun w=> (Kk w.params).map fun(p:Addr×Obj)=>some p.2) 4244:=by
 intro w
 have h0:=aZ w
 have h1:=aa w
 have h2:=ab w
 have h3:=ae w
 have h4:=af w
 show(oE w).map (fun s=> (oS s,ka.map s.heap.get?))=_
 revert h0 h1 h2 h3 h4
 cases oE w with
 |none=>intro h;cases h
 |some s=>
  intro h0 h1 h2 h3 h4
  have h0:=i8.inj h0
  simp only[qV] at h0
  have h1:=i8.inj h1
  simp only[qV] at h1
  have h2:=i8.inj h2
  have h3:=i8.inj h3
  have h4:=i8.inj h4
  simp only[qV] at h4
  exact congrArg some (kb (kb (h0.1) (kb (h1.1) (kb (h1.2.1) (kb (h2) (kb (h0.2) (kb (h3) (kb (h1.2.2.1) (kb (h4.1) (h1.2.2.2))))))))) (h4.2))
end K06
namespace L2
open PySem PySem.Spec PyProof.Rows
theorem Jd{env:Env}:∀(l:List (Str×NameKind)) (acc:List (Str×Addr)),(∀y∈l,y.2=.free→∃c,env.cells.lookup y.1=some c)→
  (∀x c,acc.lookup x=some c→env.cells.lookup x=some c)→
  ∃cl,(forIn l acc (fun(x:Str×NameKind) (r:List (Str×Addr))=> (match x with
   | (name,kind)=>if(kind==NameKind.free)=true then(do let a←cellOf env name;pure (kU ((name,a)::r))) else pure (kU r):Sem (ForInStep (List (Str×Addr))))))=(pure cl:Sem _)∧
   (∀x c,cl.lookup x=some c→env.cells.lookup x=some c)∧(∀x,(acc.lookup x).isSome=true→(cl.lookup x).isSome=true)∧∀y∈l,y.2=.free→(cl.lookup y.1).isSome=true
 | [],acc,_,ha=> ⟨acc,rfl,ha,fun _ h=>h,fun _ h=>nomatch h⟩
 | (n,k)::r,acc,h,ha=>by
  have hr:∀y∈r,y.2=.free→∃c,env.cells.lookup y.1=some c:=fun y hy=>h y (iy _ hy)
  by_cases hk:k=.free
  ·subst hk
   obtain⟨c,hc⟩:=h (n,.free) iV rfl
   have hc:env.cells.lookup n=some c:=hc
   have ha':∀x c',((n,c)::acc).lookup x=some c'→env.cells.lookup x=some c':=fun x c' e=>by
    rw[jk] at e
    cases hx:x==n with
    |true=>rw[hx] at e;cases e;rw[beq_iff_eq.mp hx];exact hc
    |false=>rw[hx] at e;exact ha x c' e
   obtain⟨cl,e,h1,h2,h3⟩:=Jd r ((n,c)::acc) hr ha'
   refine⟨cl,?_,h1,fun x hx=>h2 x ?_,fun y hy hf=>?_⟩
   ·rw[oq]
    simp only[cellOf,hc,beq_self_eq_true,if_true]
    exact e
   ·rw[jk]
    cases x==n with
    |true=>rfl
    |false=>exact hx
   ·rcases ic.mp hy with rfl|hy
    ·exact h2 n (by rw[jk,beq_self_eq_true];rfl)
    ·exact h3 y hy hf
  ·have hb:(k==NameKind.free)=false:=by simpa using hk
   obtain⟨cl,e,h1,h2,h3⟩:=Jd r acc hr ha
   refine⟨cl,?_,h1,h2,fun y hy hf=>?_⟩
   ·rw[oq]
    simp only[hb,iK,if_false]
    exact e
   ·rcases ic.mp hy with rfl|hy
    ·exact absurd hf hk
    ·exact h3 y hy hf
theorem US{env:Env}{csc:Scope}(h:∀y∈csc.names,y.2=.free→∃c,env.cells.lookup y.1=some c):
  ∃cl,closureFor csc env=pure cl∧(∀x c,cl.lookup x=some c→env.cells.lookup x=some c)∧∀y∈csc.names,y.2=.free→(cl.lookup y.1).isSome=true:=by
 obtain⟨cl,e,h1,_,h3⟩:=Jd csc.names [] h (fun x c e=>by cases e)
 refine⟨cl,?_,h1,h3⟩
 unfold closureFor
 have e':=congrArg (fun m:Sem (List (Str×Addr))=>m>>=fun r=>pure r) e
 exact e'
theorem Ew{env:Env}:∀{names:List (Str×NameKind)} {x:Str},names.lookup x=some .free→
  (names.map fun(n,k)=>if(k==NameKind.free&&env.scope.kind==.function&&env.kindOf n==some .cell) then(n,mF) else(n,k)).lookup x=some .cell∨
  (names.map fun(n,k)=>if(k==NameKind.free&&env.scope.kind==.function&&env.kindOf n==some .cell) then(n,mF) else(n,k)).lookup x=some .free
 | [],_,h=>by simp at h
 | (n,k)::r,x,h=>by
  have ih:=@Ew env r x
  rw[iN]
  show List.lookup x ((if(k==NameKind.free&&env.scope.kind==.function&&env.kindOf n==some .cell)=true then(n,mF) else(n,k))::_)=_∨List.lookup x ((if(k==NameKind.free&&env.scope.kind==.function&&env.kindOf n==some .cell)=true then(n,mF) else(n,k))::_)=_
  cases hx:x==n with
  |true=>
   simp only[jk,hx] at h
   cases h
   split
   ·exact .inl (by rw[jk,hx])
   ·exact .inr (by rw[jk,hx])
  |false=>
   simp only[jk,hx] at h
   split
   ·simp only[jk,hx];exact ih h
   ·simp only[jk,hx];exact ih h
def Nw:Option NameKind→Bool
 |some .cell=>true
 |_=>false
theorem Kt{k:Option NameKind}(h:Nw k=true):k=some .cell:=by
 cases k with
 |none=>cases h
 |some k=>cases k<;>first|rfl|cases h
def UT(X:Cx)(csc:Scope)(cl:List (Str×Addr))(N':List Str)(s:a9)(H:Hp)(fp:List Addr):Cx:=
 {X with N:=N',s₀:=s,H₀:=H,env:=rG csc cl s.heap.objs.size X.env,outer:=X.stack,ex:=fp,fn:=fun x=>Nw (csc.names.lookup x),pn:=[],xe:=fun _ _=>False}
structure LcCx(X:Cx)(csc:Scope)(N':List Str)(X':Cx):Prop where
 is:∃cl s H fp,X'=UT X csc cl N' s H fp
def Bw(σ:St)(cap:List (Str×Nat)):St:=cap.map fun p=> (σ[p.2]?).join
structure LcOk(X:Cx)(csc:Scope)(nc:List Str)(cap:List (Str×Nat)):Prop where
 kind:csc.kind=.function
 cells:∀y∈csc.names,y.2=.cell→csc.names.lookup y.1=some .cell
 locals:∀y∈csc.names,y.2=.local→csc.names.lookup y.1=some .local
 free:∀y∈csc.names,y.2=.free→X.env.scope.names.lookup y.1=some .cell∨X.env.scope.names.lookup y.1=some .free
 caps:∀p∈cap,X.N[p.2]?=some p.1∧csc.names.lookup p.1=some .free
abbrev Ah(nc:List Str)(cap:List (Str×Nat)):List Str:=nc++cap.map (·.1)
abbrev HD(nc:List Str)(σ:St)(cap:List (Str×Nat)):St:=iQ nc.length none++Bw σ cap
theorem Ax{α:Type}:∀{l:List (Str×α)} {x:Str} {v:α},l.lookup x=some v→(x,v)∈l
 | [],_,_,h=>by simp at h
 | (n,k)::r,x,v,h=>by
  rw[jk] at h
  cases hx:x==n with
  |true=>rw[hx] at h;cases h;rw[beq_iff_eq.mp hx];exact iV
  |false=>rw[hx] at h;exact iy _ (Ax h)
theorem MY:∀(names:List (Str×NameKind)) (L:Nat) (a acc:List (Str×Addr)),kA L names (a++acc)=kA L names a++acc
 | [],_,_,_=>rfl
 | (n,k)::r,L,a,acc=>by
  unfold kA
  split
  ·exact MY r (L+1) ((n,L)::a) acc
  ·exact MY r L a acc
theorem Xo(names:List (Str×NameKind))(L:Nat)(acc:List (Str×Addr)):kA L names acc=kA L names []++acc:=MY names L [] acc
theorem MZ:∀(names:List (Str×NameKind)) (L:Nat) (acc:List (Str×Addr)) (x:Str) (c:Addr),(x,c)∈kA L names acc→(x,.cell)∈names∨(x,c)∈acc
 | [],_,_,_,_,h=> .inr h
 | (n,k)::r,L,acc,x,c,h=>by
  unfold kA at h
  split at h
  ·rename_i hk
   rcases MZ r (L+1) _ x c h with h|h
   ·exact .inl (iy _ h)
   ·rcases ic.mp h with h|h
    ·cases h
     rw[eq_of_beq hk]
     exact .inl iV
    ·exact .inr h
  ·rcases MZ r L _ x c h with h|h
   ·exact .inl (iy _ h)
   ·exact .inr h
theorem Je:∀(names:List (Str×NameKind)) (L:Nat) (acc:List (Str×Addr)) (x:Str),((x,.cell)∈names∨(acc.lookup x).isSome=true)→((kA L names acc).lookup x).isSome=true
 | [],_,_,_,h=>h.elim (fun z=>by cases z) id
 | (n,k)::r,L,acc,x,h=>by
  unfold kA
  split
  ·refine Je r (L+1) _ x ?_
   rcases h with h|h
   ·rcases ic.mp h with h|h
    ·cases h
     exact .inr (by rw[jk,beq_self_eq_true];rfl)
    ·exact .inl h
   ·refine .inr ?_
    rw[jk]
    cases x==n with
    |true=>rfl
    |false=>exact h
  ·rename_i hk
   refine Je r L acc x ?_
   rcases h with h|h
   ·rcases ic.mp h with h|h
    ·cases h;exact absurd rfl hk
    ·exact .inl h
   ·exact .inr h
theorem EX{α:Type}:∀{l m:List (Str×α)} {x:Str},(l++m).lookup x=match l.lookup x with|some v=>some v|none=>m.lookup x
 | [],_,_=>rfl
 | (n,k)::r,m,x=>by
  rw[mV,jk,jk]
  cases x==n with
  |true=>rfl
  |false=>exact EX
structure LcCells(X:Cx)(csc:Scope)(cs:List (Str×Addr))(s:a9)(h1:Heap):Prop where
 at_:∀x c,cs.lookup x=some c→(csc.names.lookup x=some .cell∧s.heap.objs.size≤c∧h1.IsCell c none)∨(csc.names.lookup x≠some .cell∧X.env.cells.lookup x=some c)
 has:∀x,csc.names.lookup x=some .free∨csc.names.lookup x=some .cell→∃c,cs.lookup x=some c
 inj:∀x y c,cs.lookup x=some c→cs.lookup y=some c→x=y
theorem UU{X:Cx}{csc:Scope}{cl:List (Str×Addr)}{nc:List Str}{cap:List (Str×Nat)}{pins:List (Addr×Obj)}{σ:St}{H:Hp}{s:a9}{o:Obj}
  (ok:LcOk X csc nc cap) (I:Inv X pins σ H s) (hc1:∀x c,cl.lookup x=some c→X.env.cells.lookup x=some c) (hc2:∀y∈csc.names,y.2=.free→(cl.lookup y.1).isSome=true):
  LcCells X csc (kA (s.heap.objs.size+1) csc.names cl) s (qL (s.heap.push o) csc.names):=by
 have nk:=cellsFrom_ok csc.names (s.heap.push o) (s.heap.objs.size+1) [] ⟨fun _ _ hm=> (nomatch hm),lT⟩ (by rw[jA];exact hC _)
 rw[jA] at nk
 rw[Xo]
 have split:∀x c,(kA (s.heap.objs.size+1) csc.names []++cl).lookup x=some c→((x,c)∈kA (s.heap.objs.size+1) csc.names []∧csc.names.lookup x=some .cell)∨(csc.names.lookup x≠some .cell∧cl.lookup x=some c):=fun x c e=>by
  rw[EX] at e
  cases hx:(kA (s.heap.objs.size+1) csc.names []).lookup x with
  |some v=>
   rw[hx] at e
   cases e
   have m:=Ax hx
   refine .inl ⟨m,?_⟩
   rcases MZ _ _ _ _ _ m with z|z
   ·exact ok.cells _ z rfl
   ·cases z
  |none=>
   rw[hx] at e
   refine .inr ⟨fun z=>?_,e⟩
   have:=Je csc.names (s.heap.objs.size+1) [] x (.inl (Ax z))
   rw[hx] at this
   cases this
 refine⟨fun x c e=>?_,fun x hx=>?_,fun x y c e1 e2=>?_⟩
 ·rcases split x c e with⟨m,k⟩| ⟨k,e⟩
  ·exact .inl ⟨k,pe (nk.empty x c m).2,(nk.empty x c m).1⟩
  ·exact .inr ⟨k,hc1 x c e⟩
 ·refine Option.isSome_iff_exists.mp ?_
  rw[EX]
  cases hn:(kA (s.heap.objs.size+1) csc.names []).lookup x with
  |some v=>rfl
  |none=>
   rcases hx with hx|hx
   ·exact hc2 _ (Ax hx) rfl
   ·have:=Je csc.names (s.heap.objs.size+1) [] x (.inl (Ax hx))
    rw[hn] at this
    cases this
 ·have old:∀z,cl.lookup z=some c→c<s.heap.objs.size:=fun z e=>by
   obtain⟨v,hv⟩:=I.cell z c (hc1 z c e)
   exact hv.lt
  rcases split x c e1 with⟨m1,_⟩| ⟨_,g1⟩<;>rcases split y c e2 with⟨m2,_⟩| ⟨_,g2⟩
  ·exact name_of_addr nk.apart m1 m2
  ·exact absurd (iJ (old y g2) (pe (nk.empty x c m1).2)) (jD _)
  ·exact absurd (iJ (old x g1) (pe (nk.empty y c m2).2)) (jD _)
  ·exact I.ok.inj x y c (hc1 x c g1) (hc1 y c g2)
section
variable{M:Model}{A:iC}{E:Value→a9→Prop}{s:a9}
theorem Qp{scope:Scope}{globals:Addr}{closure:List (Str×Addr)}{qual:Str}{env:Env}{Q:Env→a9→Prop}
  (hQ:Q (newEnv scope s.heap.objs.size globals (kA (s.heap.objs.size+1) scope.names closure) qual none .none (some env) rh) {s with heap:=qL (s.heap.push {cls:=.type "dict",data:=.dict #[]}) scope.names}):
  wpAny M A (qu scope globals closure [] qual none .none (some env)) Q E s:=by
 simp only[qu,Option.isSome_some,if_true]
 refine a7 (wpAny_alloc ?_)
 refine a7 (wpAny_layCells _ (fun name kind cells=>by cases hkc:kind==mF<;>simp[hkc]) _ _ _ _ ?_)
 rw[show({s with heap:=s.heap.push {cls:=.type "dict",data:=.dict #[]}}:a9).heap.objs.size=s.heap.objs.size+1 from jA ..]
 refine a7 ?_
 rw[qB]
 exact b9 (b9 hQ)
end
theorem Xp{X:Cx}{csc:Scope}{cl:List (Str×Addr)}{nc:List Str}{cap:List (Str×Nat)}{pins:List (Addr×Obj)}{σ:St}{H:Hp}{s:a9}{h1:Heap}{fp:List Addr}
  (ok:LcOk X csc nc cap) (I:Inv X pins σ H s) (C:LcCells X csc cl s h1)
  (hf:∀b∈fp,Gq X pins H b) (ho:∀b∈fp,∃o,s.heap.get? b=some o)
  (hn:h1.Ns s.heap.objs.size (fun _=>none)) (kept:∀b o,s.heap.get? b=some o→h1.get? b=some o):
  Inv (UT X csc cl (Ah nc cap) s H fp) [] (HD nc σ cap) H {s with heap:=h1}:=by
 have frel:∀x,csc.names.lookup x=some .free→(rG csc cl s.heap.objs.size X.env).kindOf x=some .cell∨(rG csc cl s.heap.objs.size X.env).kindOf x=some .free:=fun x h=>Ew h
 have back:∀{names:List (Str×NameKind)} {x:Str},((names.map fun(n,k)=>if(k==NameKind.free&&X.env.scope.kind==.function&&X.env.kindOf n==some .cell) then(n,mF) else(n,k)).lookup x=some .cell∨
   (names.map fun(n,k)=>if(k==NameKind.free&&X.env.scope.kind==.function&&X.env.kindOf n==some .cell) then(n,mF) else(n,k)).lookup x=some .free)→
   names.lookup x=some .free∨names.lookup x=some .cell:=by
  intro names
  induction names with
  |nil=>intro x h;simp at h
  |cons p r ih=>
   obtain⟨n,k⟩:=p
   intro x h
   rw[iN] at h
   cases hx:x==n with
   |true=>
    rw[jk,hx]
    have e:∀(kk:NameKind) (l:List (Str×NameKind)),((n,kk)::l).lookup x=some kk:=fun kk l=>by rw[jk,hx]
    by_cases hcnd:(k==NameKind.free&&X.env.scope.kind==.function&&X.env.kindOf n==some .cell)=true
    ·left
     have:(k==NameKind.free)=true:=by
      revert hcnd;cases(k==NameKind.free)<;>simp
     show some k=some .free
     rw[eq_of_beq this]
    ·simp only[if_neg hcnd] at h
     rw[e,] at h
     exact h.symm
   |false=>
    have e:∀(kk:NameKind) (l:List (Str×NameKind)),((n,kk)::l).lookup x=l.lookup x:=fun kk l=>by rw[jk,hx]
    by_cases hcnd:(k==NameKind.free&&X.env.scope.kind==.function&&X.env.kindOf n==some .cell)=true
    ·simp only[if_pos hcnd] at h
     rw[e] at h
     rw[e]
     exact ih h
    ·simp only[if_neg hcnd] at h
     rw[e] at h
     rw[e]
     exact ih h
 refine⟨⟨I.ok.mod,ok.kind,I.ok.glob,I.ok.blt,hC _,C.inj,fun x hx=>C.has x (back hx),fun x c e1 e2=>?_,I.ok.hd,I.ok.frames,.inl rfl,fun b hb=> ⟨?_,fun x c e=>?_⟩,
  I.bs,jv I.ok.bsz I.sz,fun b o e hb=>?_,fun b hb z=>?_,I.stack,I.stkFree⟩,rfl,I.bare,⟨fun b o e _ _ _=>kept b o e,fun b o e _ _ _=> ⟨o.slots,kept b o e⟩,fun b o e n _=>n,fun b o e _=> ⟨o,kept b o e⟩,fun _ _ e=>e,fun _ _ _ e=>e,fun b ps e=> ⟨#[],by rw[show H b=some (HO.tbl ps) from e];simp⟩⟩,
  ⟨_,hn,fun i x v e1 e2 e3=>?_⟩,fun x c e=>?_,I.hok.fresh (hC _),fun x c e=> (C.at_ x c e).elim (fun z=>I.hok.fresh z.2.1) (fun z=>I.freeC x c z.2),fun p hp=>absurd (show p∈([]:List (Addr×Obj)) from hp) (by simp),I.hok.kept kept,?_⟩
 ·rcases C.at_ x c e2 with z|z
  ·exact z.2.1
  ·exact absurd (Kt e1) z.1
 ·obtain⟨o,e⟩:=ho b hb
  exact iL (ip e)
 ·rcases C.at_ x c e with z|z
  ·obtain⟨o,e⟩:=ho b hb
   exact mw (iJ (ip e) z.2.1)
  ·exact(hf b hb).2.2.2.2.1 x c z.2
 ·have h1:=(hf b hb).2.2.2.1
  rcases h1 with z|z
  ·exact I.ok.noex b o e z
  ·exact absurd (iJ (ip e) (jv I.ok.bsz z)) (jD _)
 ·have h1:=(hf b hb).2.1
  have h2:=(hf b hb).2.2.1
  exact(ic.mp (I.stkSub b z)).elim h1 h2
 ·--the names
  have hlen:nc.length≤i:=by
   by_cases hi:i<nc.length
   ·have e2':(iQ nc.length (none:Option V)++Bw σ cap)[i]?=some (some v):=e2
    rw[iY (by simpa using hi),kL] at e2'
    split at e2'<;>cases e2'
   ·omega
  have e1':(nc++cap.map (·.1))[i]?=some x:=e1
  have e2':(iQ nc.length (none:Option V)++Bw σ cap)[i]?=some (some v):=e2
  rw[iG hlen,e7] at e1'
  rw[iG (by simpa using hlen)] at e2'
  simp only[kB] at e2'
  unfold Bw at e2'
  rw[e7] at e2'
  cases hp:cap[i-nc.length]? with
  |none=>rw[hp] at e1';cases e1'
  |some p=>
   rw[hp] at e1' e2'
   have e1'':p.1=x:=i8.inj e1'
   have e2'':(σ[p.2]?).join=some v:=i8.inj e2'
   subst e1''
   obtain⟨c1,c2⟩:=ok.caps p (hZ hp)
   have hσ:σ[p.2]?=some (some v):=by
    cases q:σ[p.2]? with
    |none=>rw[q] at e2'';cases e2''
    |some w'=>rw[q] at e2'';exact congrArg some e2''
   have vis:X.env.scope.names.lookup p.1=some .cell∨X.env.scope.names.lookup p.1=some .free:=ok.free _ (Ax c2) rfl
   obtain⟨m,_,hl⟩:=I.loc
   obtain⟨u,r,l⟩:=hl p.2 p.1 v c1 hσ (vis.elim (fun z=> .inr (.inl z)) fun z=> .inr (.inr z))
   refine⟨u,r,.inr ⟨frel p.1 c2,?_⟩⟩
   rcases l with⟨k,_⟩| ⟨_,c,e,z⟩
   ·have k:X.env.scope.names.lookup p.1=some .local:=k
    rcases vis with q|q<;> (rw[q] at k;cases k)
   ·obtain⟨c',e''⟩:=C.has p.1 (.inl c2)
    have q:X.env.cells.lookup p.1=some c':=by
     rcases C.at_ _ _ e'' with z|z
     ·rw[c2] at z;cases z.1
     ·exact z.2
    rw[e] at q;cases q
    obtain⟨o,z1,z2⟩:=z
    exact⟨c,e'',o,kept c o z1,z2⟩
 ·rcases C.at_ x c e with z|z
  ·exact⟨none,z.2.2⟩
  ·obtain⟨v,o,z1,z2⟩:=I.cell x c z.2
   exact⟨v,o,kept c o z1,z2⟩
 ·show(iQ nc.length (none:Option V)++Bw σ cap).length=(nc++cap.map (·.1)).length
  unfold Bw
  simp
section
variable{prog:Program}{w:World}{A:iC}{R:rX→a9→Prop}{s:a9}
abbrev UV:Value→a9→Prop:=fun _ _=>False
theorem DW{elt target iter:Expr}{ifs:List Expr}{scope:Scope}{pos:Pos}{it acc:Value}{env:Env}(I:Nat→a9→Prop)
  (turn:∀n s,I n s→wpAny (model prog w) A (nh it) (fun r s₁=>match r with
   |none=>R (.ok .next) s₁
   |some v=>wpAny (model prog w) A (oj target it v) (fun _ s₂=>wpAny (model prog w) A (assign target env v) (fun _ s₃=>
     wpAny (model prog w) A (forIn ifs true fun c r=>if r=true then do let ok←isTrue c env (eval c env);pure (kU ok) else pure (kU r)) (fun ok s₄=>
      if ok=true then wpAny (model prog w) A (eval elt env) (fun x s₅=>
       wpAny (model prog w) A (call (.builtin "list.append") [acc,x]) (fun _ s₆=>∃m,m<n∧I m s₆) UV s₅) UV s₄
      else∃m,m<n∧I m s₄) UV s₃) UV s₂) UV s₁) UV s)
  (n:Nat) (h:I n s):
  mQ (model prog w) A (.compLoop (.ListComp elt [⟨target,iter,ifs,0⟩] scope pos) 0 it acc env) R s:=by
 refine codeAny_loop rfl I (fun n s hI=>?_) n h
 show wpAny _ A ((compTurn (.ListComp elt [⟨target,iter,ifs,0⟩] scope pos) 0 it acc env).onRaise (fun x=>do noteFrame x env;theTreesLotGoes x)) _ _ s
 refine wpAny_noted (wpAny_noRaise ?_)
 rw[compTurn_list]
 refine a7 (m6 (a7 (Aw (turn n s hI) fun r s₁ h₁=>?_)))
 cases r with
 |none=>exact b9 h₁
 |some v=>
  refine a7 (Aw h₁ fun _ s₂ h₂=>a7 (Aw h₂ fun _ s₃ h₃=>a7 (Aw h₃ fun ok s₄ h₄=>?_)))
  cases ok with
  |true=>
   rw[if_pos rfl] at h₄ ⊢
   exact a7 (a7 (Aw h₄ fun x s₅ h₅=>a7 (Aw h₅ fun _ s₆ h₆=>b9 (b9 ⟨rfl,h₆⟩))))
  |false=>
   rw[if_neg gx] at h₄ ⊢
   exact a7 (b9 (b9 ⟨rfl,h₄⟩))
end
def Xq(X:Cx)(ifs:List Expr)(t:TT):Prop:=
 ∀(pins:List (Addr×Obj)) (s:a9) (σ:St) (H:Hp) (Q:Bool→Hp→Prop),Inv X pins σ H s→t σ H Q→
  wpAny (model X.prog X.w) X.A (forIn ifs true fun c r=>if r=true then do let ok←isTrue c X.env (eval c X.env);pure (kU ok) else pure (kU r)) (TP X pins σ Q) X.xe s
def ag:TT:=fun _ H Q=>Q true H
theorem UW{X:Cx}:Xq X [] ag:=fun _ _ _ H _ I h=>wpAny_tests_nil ⟨H,I,h⟩
theorem UX{X:Cx}{c:Expr}{t:TT}(h:PT X c t):Xq X [c] t:=fun pins s σ H Q I q=>wpAny_tests_one (h pins s σ H Q I q)
def WR(nc:List Str)(cap:List (Str×Nat))(g:TG)(tt:TT)(te:TE)(σ:St)(J:It)(p:Addr)(H:Hp)(Q:Hp→Prop):Prop:=
 ∃W:Nat→Nat→Hp→Prop,(∃m,W 0 m (upd H p (.lst [])))∧∀i m H2,W i m H2→
  (J.stop i H2∧Q H2)∨(J.go i H2∧∃N:Hp→Prop,(∀H',N H'→∃m',m'<m∧W (i+1) m' H')∧∀x H3,J.yld i H2 x H3→g x (HD nc σ cap) H3 fun σ4 H4=> (∃pre:St,pre.length=nc.length∧σ4=pre++Bw σ cap)∧tt σ4 H4 fun b H5=>
   if b=true then te σ4 H5 fun y H6=>∃ys,H6 p=some (.lst ys)∧ys.length<sizeLine∧N (upd H6 p (.lst (ys++[y])))
   else N H5)
def dM(wi:TI)(nc:List Str)(cap:List (Str×Nat))(g:TG)(tt:TT)(te:TE):TE:=fun σ H Q=>wi σ H fun J H1=>∀p,H1 p=none→WR nc cap g tt te σ J p H1 (Q (.ref p))
section
variable{X:Cx}{elt tg iter:Expr}{ifs:List Expr}{csc:Scope}{nc:List Str}{cap:List (Str×Nat)}{wi:TI}{g:TG}{tt:TT}{te:TE}{pos:Pos}
theorem Ku{pins:List (Addr×Obj)}{σ:St}{s2:a9}{H2:Hp}{it:Addr}{fp:List Addr}{tn:Nat→Heap→Prop}{J:It}{cl:List (Str×Addr)}{Q:Hp→Prop}{RR:Value→Addr→rX→a9→Prop}{E:Value→a9→Prop}
  (hc:X.calm=true) (ok:LcOk X csc nc cap) (hg:∀X',LcCx X csc (Ah nc cap) X'→PG X' tg g) (ht:∀X',LcCx X csc (Ah nc cap) X'→Xq X' ifs tt) (he:∀X',LcCx X csc (Ah nc cap) X'→PE X' elt te)
  (hc1:∀x c,cl.lookup x=some c→X.env.cells.lookup x=some c) (hc2:∀y∈csc.names,y.2=.free→(cl.lookup y.1).isSome=true)
  (I2:Inv X pins σ H2 s2) (T:Turn X.prog X.w X.K tg J fp it tn) (st2:tn 0 s2.heap) (f2:∀b∈fp,Gq X pins H2 b) (run:WR nc cap g tt te σ J s2.heap.objs.size H2 Q)
  (out:∀(C:Addr) (H':Hp) (s':a9),Inv X pins σ H' s'→(∃m,s'.heap.Ns C m)→H' C=none→C≠X.env.locals→X.s₀.heap.objs.size≤C→(∀x c,X.env.cells.lookup x=some c→c≠C)→(∀p∈X.pn++pins,p.1≠C)→Q H'→RR (.ref s2.heap.objs.size) C (.ok .next) s'):
  wpAny (model X.prog X.w) X.A (newList []) (fun acc s₃=>wpAny (model X.prog X.w) X.A (qu csc X.env.globals cl [] X.env.qual none .none (some X.env)) (fun cenv s₄=>
   mQ (model X.prog X.w) X.A (.compStart (.ListComp elt [⟨tg,iter,ifs,0⟩] csc pos) 0 (.ref it) acc {cenv with scope:=relabel csc X.env}) (RR acc cenv.locals) s₄) E s₃) E s2:=by
 refine js ?_
 have hp:H2 s2.heap.objs.size=none:=I2.hok.fresh (hC _)
 have I3:Inv X pins σ (upd H2 s2.heap.objs.size (.lst [])) {s2 with heap:=s2.heap.push {cls:=.type "list",dict:=none,data:=.seq ([]:List Value).toArray}}:=
  I2.laid (t':=s2.toks) (fun b u e=>e6 _ e) (hC _) ⟨jl _,[],0,.nil,iz _ rfl⟩
 generalize hs3:({s2 with heap:=s2.heap.push {cls:=.type "list",dict:=none,data:=.seq ([]:List Value).toArray}}:a9)=s3 at I3
 have hk3:∀b o,s2.heap.get? b=some o→s3.heap.get? b=some o:=fun b o e=>by rw[←hs3];exact e6 _ e
 generalize hp0:s2.heap.objs.size=p at*
 have hlt:∀b∈fp,b<p:=fun b hb=>by
  obtain⟨o,e,_⟩:=T.obj 0 _ st2 b hb
  rw[←hp0];exact ip e
 have f3:∀b∈fp,Gq X pins (upd H2 p (.lst [])) b:=fun b hb=> ⟨by rw[AO (iL (hlt b hb))];exact(f2 b hb).1,(f2 b hb).2⟩
 have st3:tn 0 s3.heap:=T.keep 0 _ _ st2 fun b _ o e=>hk3 b o e
 refine Qp ?_
 have LC:=UU (o:={cls:=.type "dict",data:=.dict #[]}) ok I3 hc1 hc2
 have hns:(qL (s3.heap.push {cls:=.type "dict",data:=.dict #[]}) csc.names).Ns s3.heap.objs.size (fun _=>none):=(Heap.Ns.new s3.heap (.type "dict")).keeps (pushCells_keeps _ _)
 have kept4:∀b o,s3.heap.get? b=some o→(qL (s3.heap.push {cls:=.type "dict",data:=.dict #[]}) csc.names).get? b=some o:=fun b o e=>pushCells_keeps _ _ b o (e6 _ e)
 generalize hcs:kA (s3.heap.objs.size+1) csc.names cl=cs at LC ⊢
 generalize hh1:qL (s3.heap.push {cls:=.type "dict",data:=.dict #[]}) csc.names=h₁ at LC hns kept4 ⊢
 have hcc:∀x c,cs.lookup x=some c→X.env.cells.lookup x=some c∨s3.heap.objs.size≤c:=fun x c e=> (LC.at_ x c e).elim (fun z=> .inr z.2.1) (fun z=> .inl z.2)
 have I4:Inv (UT X csc cs (Ah nc cap) s3 (upd H2 p (.lst [])) fp) [] (HD nc σ cap) (upd H2 p (.lst [])) {s3 with heap:=h₁}:=
  Xp ok I3 LC f3 (fun b hb=> (T.obj 0 _ st3 b hb).imp fun o q=>q.1) hns kept4
 have st4:tn 0 h₁:=T.keep 0 _ _ st3 fun b _ o e=>kept4 b o e
 generalize hX':UT X csc cs (Ah nc cap) s3 (upd H2 p (.lst [])) fp=X' at I4
 have is':LcCx X csc (Ah nc cap) X':=⟨_,_,_,_,hX'.symm⟩
 have hP:X'.prog=X.prog:=by rw[←hX'];rfl
 have hw:X'.w=X.w:=by rw[←hX'];rfl
 have hK:X'.K=X.K:=by rw[←hX'];rfl
 have hA:X'.A=X.A:=by rw[←hX'];rfl
 have hcal:X'.calm=true:=by rw[←hX'];exact hc
 have hE:X'.env=rG csc cs s3.heap.objs.size X.env:=by rw[←hX'];rfl
 have hxe:X'.xe=UV:=by rw[←hX'];rfl
 have hfs:X'.fs=IL X.stack:=by rw[←hX'];rfl
 have hex:X'.ex=fp:=by rw[←hX'];rfl
 have hs0:X'.s₀=s3:=by rw[←hX'];rfl
 have hH0:X'.H₀=upd H2 p (.lst []):=by rw[←hX'];rfl
 have hpn:X'.pn=[]:=by rw[←hX'];rfl
 have stat:∀{H':Hp},(∀b∈fp,H' b=none)→∀b∈fp,Gq X' [] H' b:=fun{H'} hn b hb=>by
  obtain⟨_,q2,q3,q4,q5,q6⟩:=f3 b hb
  obtain⟨o,e,_⟩:=T.obj 0 _ st3 b hb
  refine⟨hn b hb,?_,?_,?_,?_,?_⟩
  ·rw[hE];exact iL (ip e)
  ·rw[hfs];exact fun z=> (ic.mp (I3.stkSub b z)).elim q2 q3
  ·rw[hex];exact .inl hb
  ·rw[hE];exact fun x c e'=> (hcc x c e').elim (fun z=>q5 x c z) fun z=>mw (iJ (ip e) z)
  ·rw[hpn];intro p hp;simp at hp
 obtain⟨W,⟨m0,w0⟩,turn⟩:=run
 have loop:∀s4:a9,s4={s3 with heap:=h₁}→mQ (model X.prog X.w) X.A (.compLoop (.ListComp elt [⟨tg,iter,ifs,0⟩] csc pos) 0 (.ref it) (.ref p) (rG csc cs s3.heap.objs.size X.env)) (RR (.ref p) s3.heap.objs.size) s4:=by
  rintro s4 rfl
  refine DW (fun n s'=>∃i H',Inv X' [] (HD nc σ cap) H' s'∧tn i s'.heap∧(∀b∈fp,H' b=none)∧W i n H') ?_ m0 ⟨0,_,I4,st4,fun b hb=> (f3 b hb).1,w0⟩
  rintro n s5 ⟨i,H5,I5,st5,fr5,w5⟩
  rcases turn i n H5 w5 with⟨stop,qn⟩| ⟨go,N,hN,step⟩
  ·have q:=T.done X' hP hw hK hcal i [] s5 (HD nc σ cap) H5 UV I5 (stat fr5) st5 stop
   rw[hA] at q
   refine Aw q fun r s6 ⟨hr,I6⟩=>?_
   subst hr
   have B:=I6.base
   rw[hfs,hex,hs0,hH0] at B
   have I7:Inv X pins σ H5 s6:=by
    refine I3.call' (ch:=fp) (by rw[I6.os,hs0]) B (by have:=I6.hok;rw[hP,hw] at this;exact this) I6.bare fun b hb=>?_
    obtain⟨_,q2,q3,q4,q5,q6⟩:=f3 b hb
    exact⟨q4,q2,q5,q6⟩
   obtain⟨m,hm,_⟩:=I6.loc
   have hCf:=I6.free
   rw[hE] at hm hCf
   refine out _ H5 s6 I7 ⟨m,hm⟩ hCf (mw I3.lt) I3.sz (fun x c e z=>?_) (fun p hp z=>?_) qn
   ·obtain⟨v,hv⟩:=I3.cell x c e
    exact absurd hv.lt (by rw[z];exact jD _)
   ·exact absurd (ip (I3.pin p hp).1) (by rw[z];exact jD _)
  ·have q:=T.item X' hP hw hK hcal i [] s5 (HD nc σ cap) H5 UV I5 (stat fr5) st5 go
   rw[hA] at q
   refine Aw q fun r s6 ⟨u,hr,h6⟩=>?_
   subst hr
   refine Aw h6 fun _ s7 ⟨x,H7,I7,r7,y7,st7,fr7⟩=>?_
   have I7':=I7.pinned (stat fr7) (T.obj _ _ st7)
   have q8:=hg X' is' _ s7 _ H7 x u _ I7' r7 (step x H7 y7)
   rw[hP,hw,hA,hE,hxe] at q8
   refine Aw q8 fun _ s8 ⟨σ8,H8,I8,⟨pre,hpl,hσ8⟩,q8⟩=>?_
   have q9:=ht X' is' _ s8 σ8 H8 _ I8 q8
   rw[hP,hw,hA,hE,hxe] at q9
   have wk:∀{s':a9} {H':Hp} {pl:List (Addr×Obj)},Inv X' pl σ8 H' s'→Inv X' pl (HD nc σ cap) H' s':=fun{s' H' pl} J'=>by
    refine J'.weak (by rw[J'.len,I4.len]) fun j v e=>?_
    rw[hσ8]
    by_cases hj:j<nc.length
    ·have e:(iQ nc.length (none:Option V)++Bw σ cap)[j]?=some (some v):=e
     rw[iY (by simpa using hj),kL] at e
     split at e<;>cases e
    ·have e:(iQ nc.length (none:Option V)++Bw σ cap)[j]?=some (some v):=e
     rw[iG (by simpa using hj)] at e
     rw[iG (by omega),hpl]
     simpa using e
   have again:∀{s':a9} {H':Hp} {m':Nat},Inv X' ([]++Gu fp s7.heap) σ8 H' s'→m'<n→W (i+1) m' H'→
     ∃m,m<n∧∃i H',Inv X' [] (HD nc σ cap) H' s'∧tn i s'.heap∧(∀b∈fp,H' b=none)∧W i m H':=fun{s' H' m'} J' hm hW=>by
    refine⟨m',hm,i+1,H',wk J'.unpinned,T.keep _ _ _ st7 fun b hb o e=> (J'.pin (b,o) (jr _ (jr _ (DA hb e)))).1,fun b hb=>?_,hW⟩
    obtain⟨o,e,d⟩:=T.obj _ _ st7 b hb
    exact(J'.pin (b,o) (jr _ (jr _ (DA hb e)))).2.1
   refine Aw q9 fun b s9 ⟨H9,I9,q9⟩=>?_
   cases b with
   |false=>
    rw[if_neg gx] at q9 ⊢
    obtain⟨m',hm,hW⟩:=hN _ q9
    exact again I9 hm hW
   |true=>
    rw[if_pos rfl] at q9 ⊢
    have qe:=he X' is' _ s9 σ8 H9 _ I9 q9
    rw[hP,hw,hA,hE,hxe] at qe
    refine Aw qe fun u s10 ⟨y,H10,I10,ry,ys,hys,hlen,hNn⟩=>?_
    obtain⟨m',hm,hW⟩:=hN _ hNn
    have qa:=Ii (X:=X') _ s10 σ8 H10 (.ref p) [y] (.ref p) [u] (fun _ H'=>H'=upd H10 p (.lst (ys++[y]))) I10 rfl (.cons ry .nil) ⟨p,ys,y,rfl,rfl,hys,hlen,rfl⟩
    rw[hP,hw,hA,hxe] at qa
    refine Aw qa fun _ s11 ⟨_,H11,I11,_,e11⟩=>?_
    subst e11
    exact again I11 hm hW
 have st5:=loop _ rfl
 exact codeAny_compStart_list (loop _ rfl) (T.self X.A 0 _ _ _ st4 (loop _ rfl))
end
section
variable{X:Cx}{elt tg iter:Expr}{ifs:List Expr}{csc:Scope}{nc:List Str}{cap:List (Str×Nat)}{wi:TI}{g:TG}{tt:TT}{te:TE}{pos:Pos}
theorem LcOk.clos{pins:List (Addr×Obj)}{σ:St}{H:Hp}{s:a9}(ok:LcOk X csc nc cap)(I:Inv X pins σ H s):
  ∃cl,closureFor csc X.env=pure cl∧(∀x c,cl.lookup x=some c→X.env.cells.lookup x=some c)∧∀y∈csc.names,y.2=.free→(cl.lookup y.1).isSome=true:=
 US fun y hy hf=>I.ok.has y.1 (ok.free y hy hf)
theorem WU(hc:X.calm=true)(ok:LcOk X csc nc cap)(hi:PI X tg iter wi)(hg:∀X',LcCx X csc (Ah nc cap) X'→PG X' tg g)(ht:∀X',LcCx X csc (Ah nc cap) X'→Xq X' ifs tt)(he:∀X',LcCx X csc (Ah nc cap) X'→PE X' elt te)
  (hs:∀x,jX iter X.env x=pure x:=by intro _;rfl):PE X (.ListComp elt [⟨tg,iter,ifs,0⟩] csc pos) (dM wi nc cap g tt te):=by
 intro pins s σ H Q I h
 obtain⟨cl,hcl,hc1,hc2⟩:=ok.clos I
 rw[eval_ListComp]
 refine wpAny_comprehension_free (use:=none) rfl hs hcl ok.kind ok.locals (Aw (hi pins s σ H _ I h) fun v s1 h1=>Aw h1 fun itv s2 h2=>?_)
 obtain⟨it,fp,tn,J,H2,e,I2,T,st2,f2,run⟩:=h2
 subst e
 refine Ku (RR:=fun acc C=>compPost (model X.prog X.w) X.A X.xe none (EP X pins σ Q) acc C) hc ok hg ht he hc1 hc2 I2 T st2 f2 (run _ (I2.hok.fresh (hC _))) ?_
 intro C H' s' I' hn h1 h2 h3 h4 h5 q
 obtain⟨m,hn⟩:=hn
 refine⟨m,hn,fun h' sb=> ⟨.ref s2.heap.objs.size,H',?_,rfl,q⟩⟩
 exact I'.turned (t':=s'.toks) (fun b o hb e=> (sb.2 b hb).trans e) h1 h2 (.inr h3) h4 h5
def Xr(i:Nat)(te:TE):TS:=fun D σ H=>te σ H fun v H1=>D.nx (σ.set i (some v)) H1
theorem Kv{i:Nat}{x:Str}{px spos:Pos}(hN:X.N.Nodup)(hx:X.N[i]?=some x)(hk:X.env.scope.names.lookup x=some .local)(hsw:nO (.ListComp elt [⟨tg,iter,ifs,0⟩] csc pos) (some (.Name x px)) spos.line X.env=pure true)
  (hc:X.calm=true) (ok:LcOk X csc nc cap) (hi:PI X tg iter wi) (hg:∀X',LcCx X csc (Ah nc cap) X'→PG X' tg g) (ht:∀X',LcCx X csc (Ah nc cap) X'→Xq X' ifs tt) (he:∀X',LcCx X csc (Ah nc cap) X'→PE X' elt te)
  (hs:∀x,jX iter X.env x=pure x:=by intro _;rfl):PS X (.Assign [.Name x px] (.ListComp elt [⟨tg,iter,ifs,0⟩] csc pos) spos) (Xr i (dM wi nc cap g tt te)):=by
 intro pins s σ H D I h
 obtain⟨cl,hcl,hc1,hc2⟩:=ok.clos I
 rw[exec_Assign_Name_used _ _ _ _ hsw]
 refine a7 (m6 (a7 ?_))
 show wpAny _ X.A (do let _←comprehension (.ListComp elt [⟨tg,iter,ifs,0⟩] csc pos) csc X.env _ (newList []) false (eval iter X.env) (some (assign (.Name x px) X.env))) _ _ s
 refine a7 (Aw (wpAny_comprehension_free (use:=some (assign (.Name x px) X.env)) (Q:=fun _ s'=>SP X pins D .next s') rfl hs hcl ok.kind ok.locals
  (Aw (hi pins s σ H _ I h) fun v s1 h1=>Aw h1 fun itv s2 h2=>?_)) fun _ s' hq=>b9 (b9 hq))
 obtain⟨it,fp,tn,J,H2,e,I2,T,st2,f2,run⟩:=h2
 subst e
 refine Ku (RR:=fun acc C=>compPost (model X.prog X.w) X.A X.xe (some (assign (.Name x px) X.env)) (fun _ s'=>SP X pins D .next s') acc C) hc ok hg ht he hc1 hc2 I2 T st2 f2 (run _ (I2.hok.fresh (hC _))) ?_
 intro C H' s' I' hn h1 h2 h3 h4 h5 q
 obtain⟨m,hn⟩:=hn
 show wpAny _ X.A (assign (.Name x px) X.env (.ref s2.heap.objs.size)) _ _ _
 refine wpAny_assign_Name (Ia I' hN hx (.inl hk) (v:=.ref s2.heap.objs.size) rfl (fun s'' I'' ha=>?_) (.inr hk))
 obtain⟨a,sb,ha⟩:=ha
 have hCa:C≠a:=by
  rcases ha with ha|ha
  ·rw[ha];exact h2
  ·exact fun z=>h4 x a ha z.symm
 refine⟨m,hn.sameBut sb hCa,fun h' sb'=> ⟨_,H',?_,q⟩⟩
 exact I''.turned (t':=s''.toks) (fun b o hb e=> (sb'.2 b hb).trans e) h1 h2 (.inr h3) h4 h5
end
section
variable{K:a8}{nc:List Str}{cap:List (Str×Nat)}{g:TG}{tt:TT}{te:TE}{σ:St}{p a:Addr}{H:Hp}{Q:Hp→Prop}
end
def DK(h h':Heap):Prop:=h.objs.size≤h'.objs.size∧∀e,e<h.objs.size→(h'.objs[e]?).map (·.dict)=(h.objs[e]?).map (·.dict)
theorem DK.refl(h:Heap):DK h h:=⟨hC _,fun _ _=>rfl⟩
theorem DK.trans{a b c:Heap}(x:DK a b)(y:DK b c):DK a c:=⟨jv x.1 y.1,fun e he=> (y.2 e (iJ he x.1)).trans (x.2 e he)⟩
theorem DK.push{h:Heap}{o:Obj}:DK h (h.push o):=by
 refine⟨by rw[jA];omega,fun e he=>?_⟩
 show((h.objs.push o)[e]?).map _=_
 rw[Array.getElem?_push,if_neg (by omega)]
theorem DK.upd{h:Heap}{a:Addr}{f:Obj→Obj}(hf:∀o,(f o).dict=o.dict):DK h (h.update a f):=by
 obtain⟨objs,l⟩:=h
 refine⟨by show objs.size≤(objs.modify a f).size;simp,fun e he=>?_⟩
 show((objs.modify a f)[e]?).map _=_
 rw[Array.getElem?_modify]
 split
 ·cases objs[e]? with
  |none=>rfl
  |some o=>exact congrArg some (hf o)
 ·rfl
theorem Ny{h:Heap}{e:Addr}{o:Obj}(q:h.get? e=some o):h.objs[e]?=some o:=by
 unfold Heap.get? at q
 split at q
 ·cases q
 ·exact q
theorem DK.at_{h h':Heap}{e:Addr}{o o':Obj}(x:DK h h')(q:h.get? e=some o)(q':h'.get? e=some o'):o'.dict=o.dict:=by
 have z:=x.2 e (ip q)
 rw[Ny q,Ny q'] at z
 exact i8.inj z
inductive KD{α:Type}:Sem α→Prop
 |pure (a:α):KD (.pure a)
 |raise (e:Value):KD (.raise e)
 |unsup (x:String):KD (.unsupported x)
 |load {a:Addr} {p:Option Value} {k:Obj→Sem α}:(∀o,KD (k o))→KD (.load a p k)
 |upd {a:Addr} {p:Option Value} {f:Obj→Obj} {k:Unit→Sem α}:(∀o,(f o).dict=o.dict)→KD (k ())→KD (.update a p f k)
 |alloc {o:Obj} {k:Addr→Sem α}:(∀a,KD (k a))→KD (.alloc o k)
 |stack {k:List (Code×Pos)→Sem α}:(∀l,KD (k l))→KD (.stack k)
theorem KD.bind{α β:Type}{m:Sem α}{f:α→Sem β}(h:KD m)(hf:∀a,KD (f a)):KD (m>>=f):=by
 show KD (Sem.bind m f)
 induction h with
 |pure a=>exact hf a
 |raise e=>exact .raise e
 |unsup x=>exact .unsup x
 |load _ ih=>exact .load ih
 |upd q _ ih=>exact .upd q ih
 |alloc _ ih=>exact .alloc ih
 |stack _ ih=>exact .stack ih
theorem KD.wp{α:Type}{M:Model}{Γ:PySem.Ctx}{Q:α→Pos→a9→Prop}{E:Value→Pos→a9→Prop}{h0:Heap}{t:Sem α}(h:KD t):∀{p:Pos} {s:a9},DK h0 s.heap→Sem.wp M Γ t Q E p s→Sem.wp M Γ t (fun a p' s'=>Q a p' s'∧DK h0 s'.heap) E p s:=by
 induction h with
 |pure a=>intro p s d q;exact⟨q,d⟩
 |raise e=>intro p s d q;exact q
 |unsup x=>intro p s d q;exact q
 |load _ ih=>intro p s d q;obtain⟨o,e,q⟩:=q;exact⟨o,e,ih o d q⟩
 |upd hf _ ih=>intro p s d q;exact⟨q.1,ih (d.trans (.upd hf)) q.2⟩
 |alloc _ ih=>intro p s d q;exact ih _ (d.trans .push) q
 |stack _ ih=>intro p s d q;exact ih _ d q
theorem KD.any{α:Type}{M:Model}{A:iC}{Q:α→a9→Prop}{E:Value→a9→Prop}{s:a9}{t:Sem α}(h:KD t)(q:wpAny M A t Q E s):wpAny M A t (fun a s'=>Q a s'∧DK s.heap s'.heap) E s:=
 fun Γ p g=>h.wp (.refl _) (q Γ p g)
theorem KD.ite{α:Type}{c:Prop} [Decidable c]{a b:Sem α}(ha:KD a)(hb:KD b):KD (if c then a else b):=by split<;>assumption
theorem Kw(v:Value):KD (fieldsOf v):=by
 unfold fieldsOf
 split
 ·refine KD.bind (.load fun o=> .pure o) fun o=>?_
  split
  ·exact .pure _
  ·exact .unsup _
 ·exact .unsup _
theorem Ex(v:Value)(i:Nat):KD (field v i):=by
 unfold field
 refine(Kw v).bind fun vs=>?_
 split
 ·exact .pure _
 ·exact .unsup _
theorem HE(f:Array Value→Array Value)(o:Obj):(Obj.mapFields f o).dict=o.dict:=by
 unfold Obj.mapFields;split<;>rfl
theorem DX(v:Value)(i:Nat)(x:Value):KD (setField v i x):=by
 unfold setField
 split
 ·unfold updateField
  refine KD.bind (.load fun o=> .pure o) fun o=>?_
  split
  ·exact .ite (.upd (HE _) (.pure _)) (.unsup _)
  ·exact .unsup _
 ·exact .unsup _
theorem Jf(e:Value)(f:Option Addr):KD (setFlight e f):=by
 unfold setFlight
 exact(Ex e 1).bind fun tb=> .ite (DX _ _ _) (.pure _)
theorem Kx:∀(l:List Env),KD (readyFrames l)
 | []=> .pure _
 |env::outer=>by
  unfold readyFrames
  split
  ·refine KD.bind (.load fun o=> .pure o) fun o=>?_
   refine .ite (.pure _) ?_
   refine KD.bind ?_ fun im=>?_
   ·unfold behindIsImport
    exact .ite (.pure _) (.ite (.pure _) ((Ex _ _).bind fun _=> .pure _))
   refine KD.bind ?_ fun bk=>?_
   ·unfold keptBack
    split
    ·refine .ite (.pure _) (KD.bind ?_ fun _=> .pure _)
     unfold underTheClaimsCaller
     exact KD.bind (.stack fun _=> .pure _) fun _=> .pure _
    ·exact .pure _
   exact KD.bind (.upd (fun _=>rfl) (.pure _)) fun _=>Kx outer
  ·exact .unsup _
theorem Ma(env:Env):KD (qT env):=by
 unfold qT
 refine KD.bind ?_ fun es=>?_
 ·unfold frameEnvs
  exact KD.bind (.stack fun _=> .pure _) fun _=> .pure _
 refine KD.bind ?_ fun r=>?_
 ·cases es.dropWhile (·.frame !=env.frame) with
  |nil=>exact .pure _
  |cons a b=>unfold frameObject;exact(Kx _).bind fun _=> .pure _
 split
 ·exact .pure _
 ·exact .unsup _
theorem Qq(f:Addr)(b:Bool):KD (rE f b):=by
 unfold rE
 refine KD.bind (.stack fun _=> .pure _) fun _=>?_
 split<;>exact .pure _
theorem Qr(h a l f i:Value)(pl:List Value):KD (oz h a l f i pl):=by
 have z:∀d,KD (newObjAsIs (.type "traceback") d):=fun d=> .alloc fun a=> .pure _
 unfold oz newFields newObj
 dsimp only
 exact .ite (KD.bind (.unsup _) fun _=>z _) (z _)
theorem UY(e:Value)(env:Env):KD (noteFrame e env):=by
 unfold noteFrame
 split
 ·rename_i f hf
  refine(Ex e 1).bind fun head=>?_
  have fin:KD (do setField e 1 (←oz head (←qT env) .none (nB f) .none (←rE f (head !=.none)))):=
   (Ma env).bind fun a=> (Qq _ _).bind fun pl=> (Qr _ _ _ _ _ _).bind fun b=>DX _ _ _
  refine .ite ?_ fin
  exact(Ex _ _).bind fun x=> .ite (.pure _) ((DX _ _ _).bind fun _=>fin)
 ·exact .unsup _
theorem HF(env:Env)(e:Value):KD (leaving env e):=(UY e env).bind fun _=>Jf e none
theorem ObjOk.obj{P:Program}{w:World}{H:Hp}{h:Heap}{a:Addr}{o:HO}(x:ObjOk P w H h a o):∃ob,h.get? a=some ob:=by
 cases o with
 |lst xs=>obtain⟨_,_,_,_,e⟩:=x;exact⟨_,e⟩
 |tup xs=>obtain⟨_,_,_,o,e,_⟩:=x;exact⟨_,e⟩
 |dK kvs=>obtain⟨_,_,_,_,o,_,_,e,_⟩:=x;exact⟨_,e⟩
 |dT kvs=>obtain⟨_,_,_,_,o,_,_,e,_⟩:=x;exact⟨_,e⟩
 |set S n=>obtain⟨o,_,_,_,e,_⟩:=x;exact⟨_,e⟩
 |ins C dx fs=>obtain⟨_,_,_,e,_⟩:=x;exact⟨_,e⟩
 |own y=>obtain⟨_,e⟩:=x;exact⟨_,e⟩
 |xd fs=>obtain⟨_,⟨_,_,_,e,_⟩,_⟩:=x;exact⟨_,e⟩
 |rng lo hi=>obtain⟨_,_,_,e⟩:=x;exact⟨_,e⟩
 |frz ob u=>obtain⟨e,_⟩:=x;exact⟨_,e⟩
 |tbl ps=>exact⟨_,(show h.get? a=some _ from x)⟩
 |met f y=>exact⟨_,(show h.get? a=some _ from x)⟩
 |ext φ=>obtain⟨_,⟨_,e⟩,_⟩:=x;exact⟨_,e⟩
theorem HOk.none_of{P:Program}{w:World}{H:Hp}{h:Heap}{a:Addr}(x:HOk P w H h)(e:h.get? a=none):H a=none:=by
 cases q:H a with
 |none=>rfl
 |some u=>
  obtain⟨ob,e'⟩:=(x a u q).obj
  rw[e] at e';cases e'
def dN(n:Nat):Int:=if n%2=0 then((n/2:Nat):Int) else-((n/2:Nat):Int)
def fw:List Nat→List (Str×V)
 |0::n::_=> [("number",.int (dN n))]
 |1::n::_=> [("row",.int (dN n))]
 |2::n::m::_=> [("many",.int (dN n)),("most",.int (dN m))]
 |_=> []
def fT(x:Str):List (Str×V):=fw x.cps.toList
def Qs:Value→Value
 | .str _ C=> .ref C
 |v=>v
def eG(dx:Addr)(fs:List (Str×V))(h:Heap):Prop:=∃mA,h.Ns1 dx mA∧(∀f,UD (fs.lookup f) (mA f))∧rK mA (fs.map (·.1))
def fU(dx:Addr)(fs:List (Str×V)):HO:=.ext (eG dx fs)
def DicX(cls:Value)(x:Addr)(H:Hp)(h:Heap):Prop:=∀fs C,cls=.str fs C→∃ox dx,h.get? x=some ox∧ox.dict=some dx∧H dx=some (fU dx (fT fs))
theorem DicX.ref{C x:Addr}{H:Hp}{h:Heap}:DicX (.ref C) x H h:=fun _ _ e=>nomatch e
theorem DicX.dk{cls:Value}{x:Addr}{H:Hp}{h h':Heap}(q:DicX cls x H h)(d:DK h h')(e:∃o',h'.get? x=some o'):DicX cls x H h':=fun fs C z=>by
 obtain⟨ox,dx,e1,e2,e3⟩:=q fs C z
 obtain⟨o',e'⟩:=e
 exact⟨o',dx,e',(d.at_ e1 e').trans e2,e3⟩
structure Fly(P:Program)(w:World)(outer:List Env)(H:Hp)(s:a9)(H':Hp)(x:Addr)(cls:Value)(s':a9):Prop where
 os:s'.os=s.os
 bare:oD s'.gens
 un:Un (IL outer) [] H H' s.heap s'.heap
 hok:HOk P w H' s'.heap
 fr:H' x=none
 fly:∃B t,(∀b,H' b≠none→∃o,B.get? b=some o)∧(∀b o,s.heap.get? b=some o→b∉IL outer→∃o',B.get? b=some o')∧rR B outer x (Qs cls) (.ref t) s'.heap
 dic:DicX cls x H' s'.heap
def CXe(P:Program)(w:World):QQ:=fun outer H s E e s'=>∃x cls H',e=.ref x∧Fly P w outer H s H' x cls s'∧E cls none H'
theorem CXe.never{P:Program}{w:World}{outer:List Env}{H:Hp}{s s':a9}{e:Value}(h:CXe P w outer H s E0 e s'):False:=by
 obtain⟨_,_,_,_,_,q⟩:=h
 exact q
structure XFly(X:Cx)(W:St→XK):Prop where
 fly:∀(pins:List (Addr×Obj)) (σ:St) (H:Hp) (s:a9) (e:Value) (s':a9),Inv X pins σ H s→CXe X.prog X.w X.stack H s (W σ) e s'→X.xe e s'
structure XOk(X:Cx)(W:St→XK):Prop where
 made:∀(pins:List (Addr×Obj)) (σ:St) (H:Hp) (s:a9) (h':Heap) (x C:Addr),Inv X pins σ H s→Heap.MadeExcOf s.heap h' x (.ref C) []→W σ (.ref C) none H→X.xe (.ref x) {s with heap:=h'}
 fly:∀(pins:List (Addr×Obj)) (σ:St) (H:Hp) (s:a9) (e:Value) (s':a9),Inv X pins σ H s→CXe X.prog X.w X.stack H s (W σ) e s'→X.xe e s'
 own:oG (model X.prog X.w) X.A X.env X.xe
 madeF:∀(pins:List (Addr×Obj)) (σ:St) (H:Hp) (s:a9) (x C t dx:Addr) (fs:Str),Inv X pins σ H s→H x=none→X.s₀.heap.get? x=none→s.heap.get? x=some ⟨.ref C,some dx,.fields #[.ref t,.none,.none,.none,.bool false,.none],#[]⟩→H dx=some (fU dx (fT fs))→W σ (.str fs C) none H→X.xe (.ref x) s
theorem HOk.by_keep{P:Program}{w:World}{H:Hp}{h h':Heap}(x:HOk P w H h)(k:∀b o,H b≠none→h.get? b=some o→h'.get? b=some o):HOk P w H h':=fun a o e=>
 (x a o e).stay (fun b u hb q=>k b u (by
  rcases hb with rfl|hb
  ·rw[e];exact fun z=>nomatch z
  ·rw[hb];exact fun z=>nomatch z) q) (fun _ q=>q) fun _ _ q=>q
section
variable{P:Program}{w:World}{K:a8}{mg:Str→Option Value}{base:Heap}{N:List Str}{qual:Str}{scope:Scope}{f:Addr}{cd:Value}{A:iC}{outer:List Env}{s:a9}{H:Hp}{E:XK}
theorem Jg{X:Cx}{pins:List (Addr×Obj)}{σ:St}{H1:Hp}{s2:a9}{h':Heap}{x:Addr}{cls:Value}{B:Heap}{t:Addr}(hst:X.stack=X.env::X.outer)(hex:X.ex=[])(hfr:X.env.frame=some X.env.locals)(I:Inv X pins σ H1 s2)
  (hB1:∀b,H1 b≠none→∃o,B.get? b=some o) (hB2:∀b o,X.s₀.heap.get? b=some o→b∉IL X.outer→∃o',B.get? b=some o') (hx:H1 x=none) (hs2:B.StaysIn s2.heap) (fl:rR B X.outer x (Qs cls) (.ref t) h') (up:s2.heap.UpToSlots h') (dq:DicX cls x H1 h'):
  Fly X.prog X.w X.outer X.H₀ X.s₀ H1 x cls {s2 with heap:=h'}:=by
 have fsm:∀b o,b∈X.fs→s2.heap.get? b=some o→∃sl,h'.get? b=some {o with slots:=sl}:=fun b o hb e=>by
  obtain⟨_,o',e',hd⟩:=I.funs.mem hb
  rw[e] at e';cases e'
  exact up b o e hd
 have same:∀b o o',B.get? b=some o'→s2.heap.get? b=some o→h'.get? b=some o:=fun b o o' e1 e2=>by
  have q:=hs2 b o' e1
  rw[e2] at q;cases q
  exact fl.1 b o e1
 refine⟨I.os,I.bare,⟨fun b o e n hb _=>?_,fun b o e n hb _=>?_,fun b o e n _=>?_,fun b o e _=>?_,I.base.tups,I.base.frzs,I.base.tbls⟩,I.hok.by_keep fun b o hb e=>?_,hx,⟨B,t,hB1,hB2,fl⟩,dq⟩
 ·obtain⟨o',e'⟩:=hB2 b o e hb
  exact same b o o' e' (I.base.keep b o e n hb (by rw[hex];simp))
 ·obtain⟨sl,e1⟩:=I.base.slot b o e n hb (by rw[hex];simp)
  obtain⟨sl',e2⟩:=fsm b _ hb e1
  exact⟨sl',e2⟩
 ·exact I.base.free b o e n (by rw[hex];simp)
 ·obtain⟨o1,e1⟩:=I.base.there b o e (by rw[hex];simp)
  by_cases hb:b∈X.fs
  ·obtain⟨sl,e2⟩:=fsm b o1 hb e1
   exact⟨_,e2⟩
  ·obtain⟨o',e'⟩:=hB2 b o e hb
   exact⟨o',fl.1 b o' e'⟩
 ·obtain⟨o',e'⟩:=hB1 b hb
  exact same b o o' e' e
theorem Ak:XOk (CZ (CXe P w) P w K mg base N qual scope f cd A outer s H E) (fun _=>E) where
 made:=by
  intro pins σ H1 s1 h' x C I hx q
  have hin:∀env∈(CZ (CXe P w) P w K mg base N qual scope f cd A outer s H E).stack,∀b,env.frame=some b→b∈IL (CZ (CXe P w) P w K mg base N qual scope f cd A outer s H E).stack:=fun env he b hb=>k6.mpr ⟨env,he,hb⟩
  have hxn:H1 x=none:=I.hok.none_of hx.new
  have I':Inv (CZ (CXe P w) P w K mg base N qual scope f cd A outer s H E) pins σ H1 {s1 with heap:=h'}:=I.kept (t':=s1.toks) hx.keeps
  refine wpAny_leaves_madeW (base:=m9 s1.heap (IL (CZ (CXe P w) P w K mg base N qual scope f cd A outer s H E).stack)) (h:=s1.heap) I.ok.frames rfl (fun b o q=>ni _ q) (PySem.W.funFrames_hide I.stack hin) hx fun h2 t x1 x2 x3 x4=>?_
  refine⟨x,.ref C,H1,rfl,?_,q⟩
  refine Jg (X:=CZ (CXe P w) P w K mg base N qual scope f cd A outer s H E) rfl rfl rfl I' (fun b hb=>?_) (fun b o e hb=>?_) hxn (fun b o e=>hx.keeps b o (ni _ e)) x1 x4 .ref
  ·cases e:H1 b with
   |none=>exact absurd e hb
   |some u=>
    obtain⟨o,eo⟩:=(I.hok b u e).obj
    exact⟨o,l7 _ eo fun z=>hb (I.stkFree b z)⟩
  ·obtain⟨o1,e1⟩:=I.base.there b o e (fun z=>nomatch z)
   refine⟨o1,l7 _ e1 fun z=>?_⟩
   rcases ic.mp (I.stkSub b z) with z|z
   ·exact absurd z (iL (iJ (ip e) I.ok.above))
   ·exact hb z
 fly:=by
  rintro pins σ H1 s1 e s2 I ⟨x,cls,H2,rfl,F,q⟩
  obtain⟨B,t,b1,b2,fl⟩:=F.fly
  have I2:Inv (CZ (CXe P w) P w K mg base N qual scope f cd A outer s H E) pins σ H2 s2:=I.call' (ch:=[]) F.os F.un F.hok F.bare (fun b z=>absurd z (by simp))
  refine mn (KD.any (HF _ _) (wpAny_leaves_onW (E:=fun _ _=>False) (Q:=fun _ s3=>rR B outer x (Qs cls) (.ref t) s3.heap∧s2.heap.UpToSlots s3.heap∧s3={s2 with heap:=s3.heap}) I.ok.frames rfl fl fun h' x1 x2=> ⟨x1,x2,rfl⟩)) ?_ fun _ _ z=>lZ z
  rintro _ s3 ⟨⟨x1,x2,e3⟩,dk⟩
  refine⟨x,cls,H2,rfl,?_,q⟩
  rw[e3]
  refine Jg (X:=CZ (CXe P w) P w K mg base N qual scope f cd A outer s H E) rfl rfl rfl I2 b1 (fun b o e hb=>?_) F.fr fl.1 x1 x2 (F.dic.dk dk (let⟨o,e,_⟩:=x1.there;⟨o,e⟩))
  obtain⟨o1,e1⟩:=I.base.there b o e (fun z=>nomatch z)
  refine b2 b o1 e1 fun z=>?_
  rcases ic.mp (I.stkSub b z) with z|z
  ·exact absurd z (iL (iJ (ip e) I.ok.above))
  ·exact hb z
 own:=oG.leaving
 madeF:=by
  intro pins σ H1 s1 x C t dx fs I hxn hs0 ex hdx q
  have hin:∀env∈(CZ (CXe P w) P w K mg base N qual scope f cd A outer s H E).stack,∀b,env.frame=some b→b∈x::IL (CZ (CXe P w) P w K mg base N qual scope f cd A outer s H E).stack:=fun env he b hb=>iy _ (k6.mpr ⟨env,he,hb⟩)
  have hkb:Heap.StaysIn (m9 s1.heap (x::IL (CZ (CXe P w) P w K mg base N qual scope f cd A outer s H E).stack)) s1.heap:=fun b o q=>ni _ q
  have hen:(m9 s1.heap (x::IL (CZ (CXe P w) P w K mg base N qual scope f cd A outer s H E).stack)).get? x=none:=by
   exact PySem.W.hideAll_none _ (iV ..)
  refine mn (KD.any (HF _ _) (wpAny_leaving_firstW (E:=fun _ _=>False) (Q:=fun _ s3=>Heap.LeftW (m9 s1.heap (x::IL (CZ (CXe P w) P w K mg base N qual scope f cd A outer s H E).stack)) _ x (.ref C) (.ref t) s1.heap s3.heap∧s3={s1 with heap:=s3.heap}) I.ok.frames (PySem.W.funFrames_hide I.stack hin) rfl ex hkb hen rfl rfl rfl fun h' hL=> ⟨hL,rfl⟩)) ?_ fun _ _ z=>lZ z
  rintro _ s3 ⟨⟨⟨x1,⟨_,_,x2⟩,x3,x4⟩,e3⟩,dk⟩
  refine⟨x,.str fs C,H1,rfl,?_,q⟩
  rw[e3]
  have hth:∃o,s3.heap.get? x=some o:=by
   obtain⟨oe,_,_,_,_,he,_⟩:=x3
   exact⟨oe,he⟩
  refine Jg (X:=CZ (CXe P w) P w K mg base N qual scope f cd A outer s H E) rfl rfl rfl I (fun b hb=>?_) (fun b o e hb=>?_) hxn hkb ⟨x1,hen,x2,x3⟩ x4 ?_
  ·cases e:H1 b with
   |none=>exact absurd e hb
   |some u=>
    obtain⟨o,eo⟩:=(I.hok b u e).obj
    refine⟨o,l7 _ eo fun z=>?_⟩
    rcases ic.mp z with z|z
    ·rw[z] at e;rw[hxn] at e;cases e
    ·exact hb (I.stkFree b z)
  ·obtain⟨o1,e1⟩:=I.base.there b o e (fun z=>nomatch z)
   refine⟨o1,l7 _ e1 fun z=>?_⟩
   rcases ic.mp z with z|z
   ·rw[z] at e;rw[hs0] at e;cases e
   rcases ic.mp (I.stkSub b z) with z|z
   ·exact absurd z (iL (iJ (ip e) I.ok.above))
   ·exact hb z
  ·exact DicX.dk (h:=s1.heap) (fun fs' C' z=>by cases z;exact⟨_,dx,ex,rfl,hdx⟩) dk hth
end
section
variable{X:Cx}{W:St→XK}
def Xs(sp:Sp)(W:St→XK)(t:TA):TE:=fun σ H Q=>t σ H fun vs H1=>sp vs H1 Q (W σ)
theorem XOk.f(x:XOk X W):XFly X W:=⟨x.fly⟩
theorem Ky{k:Nat}{f:Addr}{fd:iI}{ps:List Str}{sp:Sp}{x:Str}{p pos:Pos}{e:Expr}{es:List Expr}{t:TA}(xo:XFly X W)(F:FnOk X.prog X.w X.K X.mg X.base (CXe X.prog X.w) k f fd ps sp)(hr:Room k X.A)(hg:Gl X x)(hm:X.mg x=some (.ref f))(hk:lG X.K (.ref f)=true)(hb:Binds X.K fd ps [])
  (ha:PA X (e::es) t) (hdb:(x==("__debug__" :Str))=false:=by decide) (he:e8 (e::es) X.env=(false,eval e X.env)::e8 es X.env:=by rfl) (hpl:(lz pos (e8 es X.env)).any (·.1)=false:=by rfl):
  PE X (.Call (.Name x p) (e::es) [] pos) (Xs sp W t):=by
 intro pins s σ H Q I h
 refine ng (Nf I hg hm ?_ hdb)
 refine PySem.W.callWith_K (h₀:=X.base) I.ok.mod.kin hk (Aw (ha pos pins s σ H _ I h) fun us s1 ⟨vs,H1,I1,r,q⟩=> ⟨I1.kIn,?_⟩) he hpl
 have r2:Vals vs (us++[]):=by rw[jV];exact r
 have hl:(us++[]).length=ps.length:=by rw[←r2.length];exact F.len _ _ _ _ q
 refine pW (oA (F.run X.A X.stack s1 H1 ⟨us,[]⟩ (us++[]) vs Q (W σ) hr I1.env0 (hb s1 us I1.kIn hl) r2 q) fun r s' hq=>?_)
 cases r with
 |error e=>exact xo.fly pins σ H1 s1 e s' I1 hq
 |ok fl=>
  cases fl with
  |ret u=>exact I1.after hq
  |next=>exact lZ hq
  |brk=>exact lZ hq
  |cont=>exact lZ hq
end
open PySem.Calls
section
variable{prog:Program}{w:World}{A:iC}{E:Value→a9→Prop}{s:a9}{K:a8}{x D:Addr}{ox:Obj}{od:Option Obj}{name:Str}
structure ExcCls(K:a8)(D:Addr):Prop where
 ga:nD K (.ref D) "__getattribute__" =some (some (.builtin "BaseException.__getattribute__"))
 gn:nD K (.ref D) "__getattr__" =some none
 be:pF K D (.type "BaseException")=some true
 ob:pF K D (.type "object")=some true
 cl:nD K (.ref D) "__class__" =some (some (.builtin "object.__class__"))
 gt:PySem.W.specialIn K (.builtin "object.__class__") "__get__" =some (some (.builtin "getset_descriptor.__get__"))
 tk:PySem.W.takesIn K (.builtin "object.__class__")=some true
def TyAt(D x:Addr)(h:Heap):Prop:=∃ox,h.get? x=some ox∧ox.cls=.ref D
theorem TyAt.looks{M:Model}{h:Heap}(p:TyAt D x h):mD M h (typeOf (.ref x)) (.ref D):=by
 obtain⟨o,h1,h2⟩:=p
 exact h2▸(mD.ld h1).andThen .now
open PySem.W Builtin Builtin.ObjectAttr Builtin.Getset_descriptor in
theorem Mb {R:rX→a9→Prop} {tp:Value} (X:K.In s.heap) (I:TyAt D x s.heap) (hm:pF K D (.type "object")=some true) (h:R (.ok (.ret (.ref D))) s):
  mQ (model prog w) A (.call (.builtin "getset_descriptor.__get__") ⟨[.builtin "object.__class__",.ref x,tp],[]⟩) R s:=by
 obtain⟨hh,gg,dd,tt,oo⟩:=s
 have L0:=I.looks (M:=model prog w)
 have L1:=PySem.W.looks_mroIn (M:=model prog w) X hm
 refine lO
  KF.slot_gs.plain KF.entry_gs (KF.slot_gs.check _ _ _ _ _ _ _ _
   KF.type_class (KF.args_gs _ _ _) ?_)
 unfold Builtin.«getset_descriptor.__get__»
  descrGet
 rw[dga_obj]
 refine a7 (b9 ?_)
 unfold descrGetter descrCheckInstance
  descrNameAndClass isInstance
 simp only[KF.owner_class]
 repeat lk
 refine⟨Code.quiet_builtin _
  (by decide+kernel),ly KF.entry_class ?_⟩
 unfold Builtin.«object.__class__» shownTypeOf
 repeat lk
 exact h
theorem ExcCls.find{M:Model}{h:Heap}(c:ExcCls K D)(X:K.In h):mD M h (Builtin.ObjectAttr.find (.ref x) (.ref D) "__class__") (.bind (.builtin "getset_descriptor.__get__") (.builtin "object.__class__")):=by
 have L1:=n6 (M:=M) X c.cl
 have L2:mD M h (Builtin.ObjectAttr.getOf (some (.builtin "object.__class__"))) (some (.builtin "getset_descriptor.__get__")):=PySem.W.looks_specialIn X c.gt
 have L3:=PySem.W.looks_takesIn (M:=M) X c.tk
 refine L1.andThen (L2.andThen ?_)
 exact(show mD M h (Builtin.ObjectAttr.dataDescriptor? (some (.builtin "object.__class__")) (some (.builtin "getset_descriptor.__get__"))) (some (.builtin "getset_descriptor.__get__",.builtin "object.__class__"))
  from L3.andThen .now).andThen (mD.tag .now)
theorem PY{Q:Option Value→a9→Prop}(c:ExcCls K D)(X:K.In s.heap)(I:TyAt D x s.heap)(h:Q (some (.ref D)) {s with toks:=s.toks+1}):wpAny (model prog w) A (getAttr? (.ref x) "__class__") Q E s:=by
 obtain⟨hh,g,d,t,os⟩:=s
 have L0:=I.looks (M:=model prog w)
 have L1:=n6 (M:=model prog w) X c.ga
 have L2:=n6 (M:=model prog w) X c.gn
 have L3:=PySem.W.looks_mroIn (M:=model prog w) X c.be
 have L4:=c.find (x:=x) (M:=model prog w) X
 have hb:bindSpecial (.builtin "BaseException.__getattribute__") (.ref x)=pure (.builtin "BaseException.__getattribute__",[.ref x]):=PySem.F.excAttr_ValueError.ga.bind _
 have hk:builtinKind "BaseException.__getattribute__" =some .slot:=by decide+kernel
 have hsplit:splitId "BaseException.__getattribute__" =some ("BaseException","__getattribute__"):=by decide+kernel
 have hx2:(Value.builtin "BaseException.__getattribute__" ==Value.builtin "object.__getattribute__")=false:=by decide+kernel
 unfold getAttr? getAttrBy? getAttrBy
 refine a7 (wpAny_mkText (a7 (mz (je (a7 (L0.at (a7 (L1.at ?_))))))))
 dsimp only
 rw[hx2,qG,if_neg gx]
 unfold getAttrByItsOwn hookBefore
 refine a7 (L2.at ?_)
 refine a7 (mz (je ?_))
 unfold callGetattribute boundAndCalled
 rw[hb]
 show wpAny _ _ (call (.builtin "BaseException.__getattribute__") [.ref x,.str "__class__" t]) _ _ _
 refine pW (lO PySem.F.excAttr_ValueError.ga.plain PySem.F.entry_bexc_ga ?_)
 have ha:=PySem.F.args_bexc_ga (.ref x) (.str "__class__" t)
 simp only[pN,hk,hsplit]
 refine a7 ?_
 unfold isInstance
 refine a7 (L0.at (L3.at ?_))
 rw[if_neg (by decide)]
 refine nY ha ?_
 show wpAny _ _ (typeOf (.ref x)>>=fun tp=>Builtin.ObjectAttr.find (.ref x) tp "__class__" >>=_) _ _ _
 refine a7 (L0.at (a7 (L4.at ?_)))
 show wpAny _ _ ((holding [.builtin "object.__class__"] (call (.builtin "getset_descriptor.__get__") [.builtin "object.__class__",.ref x,.ref D]))>>=ret) _ _ _
 refine a7 (je (pW (Mb (s:=⟨hh,g,d,t+1,os⟩) X I c.ob ?_)))
 exact b9 (b9 (b9 h))
theorem ExcCls.isTy{M:Model}{h:Heap}(c:ExcCls K D)(X:K.In h):mD M h (isType (.ref D)) true:=by
 obtain⟨cd,hc,_⟩:=Option.bind_eq_some_iff.mp (show(pG K D).bind _=some true from c.be)
 unfold pG at hc
 split at hc
 ·rename_i c' d' cd' sl' ho
  intro A' Q' E' s' k q
  unfold isType loadHead
  exact a7 (wpAny_loadPart (k _ _ (X _ _ ho)) (b9 q))
 ·cases hc
theorem Qt(c:ExcCls K D):PySem.W.KitX K (.ref x) (.ref D) (TyAt D x) where
 ty:=fun _ _ _ I=>I.looks
 it:=fun _ _ X _=>c.isTy X
 ne:=fun h tp dd its n sl X htp=>by
  refine pz.mpr fun q=>?_
  have e:D=tp:=Value.ref.inj (beq_iff_eq.mp q)
  subst e
  obtain⟨cd,hc,_⟩:=Option.bind_eq_some_iff.mp (show(pG K D).bind _=some true from c.be)
  unfold pG at hc
  split at hc
  ·rename_i c' d' cd' sl' ho
   have z:=(X _ _ ho).symm.trans htp
   cases z
  ·cases hc
 ca:=fun X I k=>PY c X I k
end
def Xu(D x:Addr):HO:=.ext (TyAt D x)
theorem Mc{X:Cx}{pins:List (Addr×Obj)}{σ:St}{H:Hp}{s:a9}{A:iC}{E:Value→a9→Prop}{Q:Value→a9→Prop}{c:Value}{b:Bool}{D x:Addr}(I:Inv X pins σ H s)(hx:Rd H x (Xu D x))(k:ExcCls X.K D)
  (e:iP X.K (.ref D) c=some b) (h:∀tk,Q (.bool b) {s with toks:=tk}):wpAny (model X.prog X.w) A (call (.builtin "isinstance") [.ref x,c]) Q E s:=by
 obtain⟨p,_,_⟩:=(show ObjOk X.prog X.w H s.heap x (Xu D x) from hx.ok I.hok)
 exact j9 (Qt k) I.kIn p e (fun z=>nomatch z) h
section
variable{X:Cx}{pins:List (Addr×Obj)}{σ:St}{H:Hp}{s:a9}
end
section
variable{X:Cx}{pins pins':List (Addr×Obj)}{σ:St}{H:Hp}{s:a9}{E':Value→a9→Prop}{x:Addr}
end
theorem Fun.okX{P:Program}{w:World}{K:a8}{mg:Str→Option Value}{base:Heap}{x qual:Str}{st:Stmt}{f:Addr}{fd:iI}{N ps:List Str}{k:Nat}{sp:Sp}(F:Fun K x qual st f fd)(S:FnScope N ps (AA st))(len:∀vs H Q E,sp vs H Q E→vs.length=ps.length)
  (hbody:∀(cdv:Value) (A:iC) (outer:List Env) (s:a9) (H:Hp) (vs:List V) (Q:VK) (E:XK),Room k (A.deeper (lE qual (AA st) s.heap.objs.size f cdv))→sp vs H Q E→
   ∃t,PSs (CZ (CXe P w) P w K mg base N qual (AA st) f cdv A outer s H E) (BL st) t∧t {nx:=fun _ H'=>Q .non H',rt:=Q} (start N vs) H):FnOk P w K mg base (CXe P w) (k+1) f fd ps sp:=by
 obtain⟨oc,od,kV,doc,pm,an,cdv,ct,osl,rfl,lk,hcd⟩:=F.ex
 exact aQ lk hcd S len fun A outer s H vs Q E hr hsp=>hbody cdv A outer s H vs Q E hr hsp
section
variable{X:Cx}
def fz(K:a8)(H:Hp)(x:V)(t:Value):Prop:=TyOf K H x t∨∃a D,x=.ref a∧t=.ref D∧Rd H a (Xu D a)∧ExcCls K D
def ah(K:a8):List V→Hp→VK→Prop:=fun vs H Q=>∃x c t cv b,vs=[x,c]∧RelV c cv∧fz K H x t∧iP K t cv=some b∧Q (.bl b) H
theorem Qu:BB X (.builtin "isinstance") (ah X.K):=by
 intro pins s σ H xs us Q I r h
 obtain⟨x,c,t,cv,b,rfl,rc,ty,e,q⟩:=h
 obtain⟨u,w',rfl,rx,rw'⟩:=Np r
 have e2:w'=cv:=by
  cases c with
  |ty n=>exact(show w'=mq n from rw').trans (show cv=mq n from rc).symm
  |ref a=>exact(show w'=Value.ref a from rw').trans (show cv=Value.ref a from rc).symm
  |non=>exact(show w'=kZ from rw').trans (show cv=kZ from rc).symm
  |bl b=>exact(show w'=nP b from rw').trans (show cv=nP b from rc).symm
  |int i=>exact absurd e (by obtain⟨k,rfl⟩:=rc;unfold iP;rcases ty with ty| ⟨_,_,_,rfl,_⟩<;>first| (cases ty<;> (intro z;simp[lF] at z))| (intro z;simp[lF] at z))
  |str i=>exact absurd e (by obtain⟨k,rfl⟩:=rc;unfold iP;rcases ty with ty| ⟨_,_,_,rfl,_⟩<;>first| (cases ty<;> (intro z;simp[lF] at z))| (intro z;simp[lF] at z))
  |byt i=>exact absurd e (by obtain⟨k,rfl⟩:=rc;unfold iP;rcases ty with ty| ⟨_,_,_,rfl,_⟩<;>first| (cases ty<;> (intro z;simp[lF] at z))| (intro z;simp[lF] at z))
  |flt i=>exact absurd e (by obtain⟨k,rfl⟩:=rc;unfold iP;rcases ty with ty| ⟨_,_,_,rfl,_⟩<;>first| (cases ty<;> (intro z;simp[lF] at z))| (intro z;simp[lF] at z))
 subst e2
 rcases ty with ty| ⟨a,D,rfl,rfl,hx,k⟩
 ·exact PQ I rx ty e fun tk=> ⟨.bl b,H,I.tok tk,rfl,q⟩
 ·cases(show u=Value.ref a from rx)
  exact Mc I hx k e fun tk=> ⟨.bl b,H,I.tok tk,rfl,q⟩
def Md:List V→List V→Bool
 | [],[]=>true
 |x::xs,y::ys=>UB x y&&Md xs ys
 |_,_=>false
theorem HG:∀{xs ys:List V},xs.length=ys.length→(iA xs.length).all (fun j=>UB (xs.getD j .non) (ys.getD j .non))=Md xs ys
 | [],[],_=>rfl
 |x::xs,y::ys,h=>by
  have ih:=HG (xs:=xs) (ys:=ys) (by simpa using h)
  rw[iw,List.range_succ_eq_map,List.all_cons,List.all_map]
  show(UB x y&&_)=(UB x y&&Md xs ys)
  rw[←ih]
  rfl
 | [],_::_,h=>by simp at h
 |_::_,[],h=>by simp at h
def eJ(K:a8):R2:=fun x y H Q=>∃a b xs ys,x=.ref a∧y=.ref b∧Cz K H a xs∧Cz K H b ys∧xs.all HC=true∧ys.all HC=true∧xs.length=ys.length∧Q (.bl (!Md xs ys)) H
theorem Xv(hu:X.A.units<cLine):CY X (jB .NotEq) (eJ X.K):=by
 intro pins s σ H x y v u Q I rx ry h
 obtain⟨a,b,xs,ys,rfl,rfl,ha,hb,fx,fy,hl,q⟩:=h
 cases rx;cases ry
 obtain⟨its,r1,p1,z1⟩:=I.list ha
 obtain⟨its2,r2,p2,z2⟩:=I.list hb
 have l1:=r1.length
 have l2:=r2.length
 refine p8.lists (e:=fun j=>UB (xs.getD j .non) (ys.getD j .non)) p1.isList p2.isList (by simp only[iu];omega) hu (fun j h1 h2=>?_) _ _ _ _ ?_
 ·have j1:j<xs.length:=by simp only[iu] at h1;omega
  have j2:j<ys.length:=by omega
  obtain⟨u1,e1,q1⟩:=r1.get (i:=j) (x:=xs[j]) (by simp[j1])
  obtain⟨u2,e2,q2⟩:=r2.get (i:=j) (x:=ys[j]) (by simp[j2])
  have f1:HC xs[j]=true:=jM.mp fx _ (jg _)
  have f2:HC ys[j]=true:=jM.mp fy _ (jg _)
  have d1:xs.getD j .non=xs[j]:=by simp[kc,j1]
  have d2:ys.getD j .non=ys[j]:=by simp[kc,j2]
  show jS _ _ its.toArray[j] its2.toArray[j] (UB (xs.getD j .non) (ys.getD j .non))
  rw[d1,d2]
  have g1:its.toArray[j]=u1:=by
   have:its[j]'(by omega)=u1:=i8.inj (by rw[←e1];simp)
   simpa using this
  have g2:its2.toArray[j]=u2:=by
   have:its2[j]'(by omega)=u2:=i8.inj (by rw[←e2];simp)
   simpa using this
  rw[g1,g2]
  exact Xj q1 q2 f1 f2
 ·refine⟨.bl _,H,I,rfl,?_⟩
  have e:(iA its.toArray.size).all (fun j=>UB (xs.getD j .non) (ys.getD j .non))=Md xs ys:=by
   rw[iu,←l1];exact HG hl
  rw[e]
  exact q
end
end L2
namespace StT
local macro_rules | `(tactic| omega) => `(tactic| first | lia | omega)
open PySem PySem.SetTable
theorem Me:∀(m:Nat) (l:List Nat),(∀e,e<m→e∈l)→m≤l.length
 |0,_,_=>jl _
 |m+1,l,h=>by
  have hm:m∈l:=h m (k4 m)
  have ih:=Me m (l.erase m) fun e he=>by
   rw[List.mem_erase_of_ne (iL he)]
   exact h e (jO he)
  rw[List.length_erase_of_mem hm] at ih
  have:0<l.length:=nF hm
  omega
theorem Cm:∀(n:Nat) (l:List Nat),l.Nodup→(∀x∈l,x<n)→l.length≤n
 |0,[],_,_=>hC _
 |0,x::_,_,h=>absurd (h x iV) (my _)
 |n+1,l,nd,h=>by
  have ih:=Cm n (l.erase n) (nd.erase n) fun x hx=>by
   have h1:=h x (List.mem_of_mem_erase hx)
   have h2:x≠n:=fun e=>by
    subst e
    exact absurd hx (List.Nodup.not_mem_erase nd)
   omega
  by_cases hn:n∈l
  ·rw[List.length_erase_of_mem hn] at ih
   omega
  ·rw[List.erase_of_not_mem hn] at ih
   omega
def Qv(xs:Array Nat):Prop:=xs.toList.Pairwise (· < ·)
theorem HH{xs:Array Nat}(r:Qv xs){i j:Nat}{x y:Nat}(hi:xs[i]?=some x)(hj:xs[j]?=some y)(h:i<j):x<y:=by
 obtain⟨h1,rfl⟩:=jw.mp hi
 obtain⟨h2,rfl⟩:=jw.mp hj
 have:=jn.mp r i j (by simpa using h1) (by simpa using h2) h
 simpa using this
theorem Jh{xs:Array Nat}{j:Nat}:∀(fuel lo hi:Nat),hi-lo≤fuel→lo≤hi→hi≤xs.size→(∀i x,i<lo→xs[i]?=some x→x<j)→(∀i x,hi≤i→xs[i]?=some x→j≤x)→Qv xs→
  (su xs j fuel lo hi≤xs.size)∧(∀i x,i<su xs j fuel lo hi→xs[i]?=some x→x<j)∧∀i x,su xs j fuel lo hi≤i→xs[i]?=some x→j≤x
 |0,lo,hi,hf,hlo,hhi,h1,h2,r=>by
  have:lo=hi:=by omega
  subst this
  exact⟨hhi,h1,h2⟩
 |fuel+1,lo,hi,hf,hlo,hhi,h1,h2,r=>by
  unfold su
  by_cases hl:lo<hi
  ·rw[if_pos hl]
   have hm:(lo+hi)/2<xs.size:=by omega
   have em:xs[(lo+hi)/2]?=some xs[(lo+hi)/2]:=by simp[hm]
   have eg:xs.getD ((lo+hi)/2) j=xs[(lo+hi)/2]:=by simp[oW,hm]
   dsimp only
   rw[eg]
   by_cases hc:xs[(lo+hi)/2]<j
   ·rw[if_pos hc]
    refine Jh fuel _ _ (by omega) (by omega) hhi (fun i x hi' e=>?_) h2 r
    by_cases hx:i=(lo+hi)/2
    ·subst hx
     rw[em] at e;cases e
     exact hc
    ·exact rN (HH r e em (by omega)) hc
   ·rw[if_neg hc]
    refine Jh fuel _ _ (by omega) (by omega) (by omega) h1 (fun i x hi' e=>?_) r
    by_cases hx:i=(lo+hi)/2
    ·subst hx
     rw[em] at e;cases e
     omega
    ·have:=HH r em e (by omega)
     omega
  ·rw[if_neg hl]
   have:lo=hi:=by omega
   subst this
   exact⟨hhi,h1,h2⟩
theorem DB{xs:Array Nat}{j:Nat}(r:Qv xs):(below xs j≤xs.size)∧(∀i x,i<below xs j→xs[i]?=some x→x<j)∧∀i x,below xs j≤i→xs[i]?=some x→j≤x:=
 Jh _ _ _ (by omega) (by omega) (hC _) (fun i x h=>absurd h (my _)) (fun i x h e=>by
  have:=(jw.mp e).1
  omega) r
theorem CD{xs:Array Nat}{i j:Nat}(r:Qv xs)(h:xs[i]?=some j):below xs j=i:=by
 obtain⟨b1,b2,b3⟩:=DB (j:=j) r
 have hi:i<xs.size:=(jw.mp h).1
 apply Nat.le_antisymm
 ·apply nQ
  intro hc
  exact absurd (b2 i j hc h) (jD _)
 ·apply nQ
  intro hc
  have e:xs[below xs j]?=some xs[below xs j]:=by simp[rN hc hi]
  have h1:=b3 _ _ (hC _) e
  have h2:=HH r e h hc
  omega
theorem BX{α:Type}(xs:Array α)(p:Nat)(x:α):(kW xs p x).toList=xs.toList.take p++x::xs.toList.drop p:=by
 unfold kW
 simp
 rw[List.take_of_length_le (by simp)]
theorem getElem?_insertAt{α:Type}(xs:Array α)(p:Nat)(x:α)(hp:p≤xs.size)(i:Nat):(kW xs p x)[i]?=if i<p then xs[i]? else if i=p then some x else xs[i-1]?:=by
 have e:(kW xs p x)[i]?=(kW xs p x).toList[i]?:=by simp
 rw[e,BX]
 have hl:(xs.toList.take p).length=p:=by simp[hp]
 by_cases h1:i<p
 ·rw[if_pos h1,iY (by omega),lX h1]
  simp
 ·rw[if_neg h1,iG (by omega),hl]
  by_cases h2:i=p
  ·subst h2
   simp
  ·rw[if_neg h2]
   have:i-p=(i-p-1)+1:=by omega
   rw[this,lu,jT]
   have:p+(i-p-1)=i-1:=by omega
   rw[this]
   simp
theorem EV{α:Type}(xs:Array α)(p:Nat)(x:α)(hp:p≤xs.size):(kW xs p x).size=xs.size+1:=by
 rw[←iq,BX]
 simp
 omega
theorem Mf{xs:Array Nat}{j:Nat}(r:Qv xs)(hj:∀i:Nat,xs[i]?≠some j):Qv (kW xs (below xs j) j):=by
 obtain⟨b1,b2,b3⟩:=DB (j:=j) r
 unfold Qv
 rw[BX]
 have lt:∀y∈xs.toList.take (below xs j),y<j:=fun y hy=>by
  obtain⟨i,hi⟩:=jm hy
  have hlt:i<below xs j:=by
   have:=(ie.mp hi).1
   simp at this;omega
  rw[lX hlt] at hi
  exact b2 i y hlt (by simpa using hi)
 have gt:∀y∈xs.toList.drop (below xs j),j<y:=fun y hy=>by
  obtain⟨i,hi⟩:=jm hy
  rw[jT] at hi
  have hi':xs[below xs j+i]?=some y:=by simpa using hi
  have h1:=b3 _ y (Nat.le_add_right _ _) hi'
  have h2:y≠j:=fun e=>hj _ (e▸hi')
  omega
 refine n8.mpr ⟨iZ.sublist (lS _ _) r,mx.mpr ⟨gt,iZ.sublist (pj _ _) r⟩,fun a ha b hb=>?_⟩
 rcases ic.mp hb with rfl|hb
 ·exact lt a ha
 ·exact rN (lt a ha) (gt b hb)
def adv(m:Nat)(p:Probe):Probe:=(jN.mk m #[] #[] 0 false 0 false).advance p
theorem HI(t:jN)(p:Probe):t.advance p=adv t.mask p:=rfl
theorem HJ{m:Nat}{p:Probe}(h:0<p.more):adv m p=⟨p.j+1,p.more-1,p.i,p.perturb,p.dummy⟩:=by
 unfold adv advance
 exact if_pos h
theorem HK{m:Nat}{p:Probe}(h:¬0<p.more):adv m p=⟨(leap m p.i p.perturb).1,mJ m (leap m p.i p.perturb).1- (leap m p.i p.perturb).1,(leap m p.i p.perturb).1,(leap m p.i p.perturb).2,p.dummy⟩:=by
 unfold adv advance
 exact if_neg h
def advN(m:Nat):Nat→Probe→Probe
 |0,p=>p
 |n+1,p=>advN m n (adv m p)
theorem CF(m:Nat):∀(a b:Nat) (p:Probe),advN m (a+b) p=advN m b (advN m a p)
 |0,b,p=>by rw[k8];rfl
 |a+1,b,p=>by
  rw[rM]
  exact CF m a b (adv m p)
theorem Ij(m n:Nat)(p:Probe):advN m (n+1) p=adv m (advN m n p):=CF m n 1 p
def st(m:Nat)(x:Nat×Nat)(d:Option Nat):Probe:={j:=x.1,more:=mJ m x.1-x.1,i:=x.1,perturb:=x.2,dummy:=d}
theorem Qw(t:jN)(h:Int):t.probeStart h=st t.mask (bits h%(t.mask+1),bits h) none:=rfl
def Mh(m:Nat):Nat→Nat×Nat→Nat×Nat
 |0,x=>x
 |n+1,x=>Mh m n (leap m x.1 x.2)
theorem Fc(m i:Nat)(h:i≤m):i+(mJ m i-i)≤m∧mJ m i-i≤9:=by
 unfold mJ
 split<;>omega
theorem Ji(m:Nat):∀(k:Nat) (p:Probe),k≤p.more→advN m k p={p with j:=p.j+k,more:=p.more-k}
 |0,p,_=>rfl
 |k+1,p,h=>by
  show advN m k (adv m p)=_
  have e:adv m p={p with j:=p.j+1,more:=p.more-1}:=HJ (by omega)
  rw[e,Ji m k _ (by show k≤p.more-1;omega)]
  show({p with j:=p.j+1+k,more:=p.more-1-k}:Probe)={p with j:=p.j+(k+1),more:=p.more- (k+1)}
  rw[show p.j+1+k=p.j+(k+1) by omega,show p.more-1-k=p.more- (k+1) by omega]
theorem HL(m:Nat)(p:Probe):advN m (p.more+1) p=st m (leap m p.i p.perturb) p.dummy:=by
 rw[Ij,Ji m p.more p (hC _)]
 rw[HK (by show¬0<p.more-p.more;omega)]
 rfl
theorem HM(m:Nat):∀(L:Nat) (x:Nat×Nat),x.1≤m→(Mh m L x).1≤m
 |0,_,h=>h
 |L+1,x,_=>HM m L _ (by show(x.1*5+1+x.2/32)%(m+1)≤m;have:=rm (x.1*5+1+x.2/32) (show 0<m+1 by omega);omega)
theorem Qx(m:Nat):∀(L:Nat) (x:Nat×Nat) (d:Option Nat),x.1≤m→∃n,n≤10*L∧advN m n (st m x d)=st m (Mh m L x) d
 |0,x,d,_=> ⟨0,by omega,rfl⟩
 |L+1,x,d,h=>by
  have hl:(leap m x.1 x.2).1≤m:=HM m 1 x h
  obtain⟨n,hn,e⟩:=Qx m L (leap m x.1 x.2) d hl
  have h9:=(Fc m x.1 h).2
  refine⟨(st m x d).more+1+n,?_,?_⟩
  ·show mJ m x.1-x.1+1+n≤_;omega
  ·rw[CF,HL]
   exact e
theorem Nz(m:Nat):∀(a b:Nat) (x:Nat×Nat),Mh m (a+b) x=Mh m b (Mh m a x)
 |0,b,x=>by rw[k8];rfl
 |a+1,b,x=>by rw[rM];exact Nz m a b _
theorem OA(m:Nat):∀(L:Nat) (x:Nat×Nat),(Mh m L x).2=x.2/32^L
 |0,x=>by simp[Mh]
 |L+1,x=>by
  show(Mh m L (leap m x.1 x.2)).2=_
  rw[OA m L]
  show x.2/32/32^L=x.2/32^(L+1)
  rw[Nat.div_div_eq_div_mul,Nat.pow_succ,Nat.mul_comm]
def Zp(m:Nat):Nat→Nat→List Nat
 |0,_=> []
 |n+1,i=>i::Zp m n ((i*5+1)%(m+1))
def fN(m:Nat):Nat→Nat→Nat
 |0,i=>i
 |n+1,i=>fN m n ((i*5+1)%(m+1))
theorem ai(m:Nat):∀(L i:Nat),Mh m L (i,0)=(fN m L i,0)
 |0,_=>rfl
 |L+1,i=>by
  show Mh m L ((i*5+1+0/32)%(m+1),0/32)=_
  rw[Nat.zero_div,rO]
  exact ai m L _
theorem Jj(m:Nat):∀(a b x:Nat),fN m (a+b) x=fN m b (fN m a x)
 |0,b,x=>by rw[k8];rfl
 |a+1,b,x=>by rw[rM];exact Jj m a b _
theorem Jk(m:Nat):∀(n i e:Nat),e∈Zp m n i→∃k,k<n∧fN m k i=e
 |0,_,_,h=>by simp[Zp] at h
 |n+1,i,e,h=>by
  rcases ic.mp h with rfl|h
  ·exact⟨0,oB _,rfl⟩
  ·obtain⟨k,hk,hf⟩:=Jk m n _ e h
   exact⟨k+1,by omega,hf⟩
def CG(m:Nat):Prop:=m=7∨m=31∨m=127∨m=511
theorem eK{m:Nat}(h:CG m):fN m (m+1) 0=0∧∀e,e≤m→e∈Zp m (m+1) 0:=by
 have all:∀k,((iA (k+1)).all fun e=> (Zp k (k+1) 0).contains e)=true→∀e,e≤k→e∈Zp k (k+1) 0:=fun k hk e he=>by
  have:=jM.mp hk e (iM.mpr (Nat.lt_succ_of_le he))
  exact List.contains_iff_mem.mp this
 rcases h with rfl|rfl|rfl|rfl
 ·exact⟨by decide+kernel,all 7 (by decide+kernel)⟩
 ·exact⟨by decide+kernel,all 31 (by decide+kernel)⟩
 ·exact⟨by decide+kernel,all 127 (by decide+kernel)⟩
 ·exact⟨by decide+kernel,all 511 (by decide+kernel)⟩
theorem OB{m:Nat}(h:CG m){i e:Nat}(hi:i≤m)(he:e≤m):∃k,k≤m∧fN m k i=e:=by
 obtain⟨c0,call⟩:=eK h
 obtain⟨a,ha,ea⟩:=Jk m _ _ _ (call i hi)
 obtain⟨b,hb,eb⟩:=Jk m _ _ _ (call e he)
 by_cases hab:a≤b
 ·refine⟨b-a,by omega,?_⟩
  rw[←ea,←Jj,show a+(b-a)=b by omega]
  exact eb
 ·refine⟨m+1-a+b,by omega,?_⟩
  rw[←ea,←Jj,show a+(m+1-a+b)=(m+1)+b by omega,Jj,c0]
  exact eb
structure Pr(m:Nat)(p:Probe):Prop where
 ij:p.j+p.more≤m
 more:p.more≤9
 i:p.i≤m
 pert:p.perturb<2^64
theorem Pr.st{m:Nat}{x:Nat×Nat}{d:Option Nat}(h1:x.1≤m)(h2:x.2<2^64):Pr m (st m x d):=⟨(Fc m x.1 h1).1,(Fc m x.1 h1).2,h1,h2⟩
theorem Pr.adv{m:Nat}{p:Probe}(h:Pr m p):Pr m (adv m p):=by
 by_cases hm:0<p.more
 ·rw[HJ hm]
  exact⟨by have:=h.ij;show p.j+1+(p.more-1)≤m;omega,by have:=h.more;show p.more-1≤9;omega,h.i,h.pert⟩
 ·rw[HK hm]
  have hl:(leap m p.i p.perturb).1≤m:=HM m 1 (p.i,p.perturb) h.i
  exact⟨(Fc m _ hl).1,(Fc m _ hl).2,hl,oQ (Nat.div_le_self _ _) h.pert⟩
theorem Pr.advN{m:Nat}:∀{n:Nat} {p:Probe},Pr m p→Pr m (advN m n p)
 |0,_,h=>h
 |n+1,_,h=>Pr.advN (n:=n) h.adv
theorem Pr.j{m:Nat}{p:Probe}(h:Pr m p):p.j≤m:=by have:=h.ij;omega
theorem OC(h:Int):bits h<2^64:=by
 unfold bits
 have h1:=lN h (show(2^64:Int)≠0 by decide)
 have h2:=k7 h (show(0:Int)<2^64 by decide)
 have h3:((2:Nat)^64:Nat)=18446744073709551616:=by decide
 omega
def start(m:Nat)(h:Int):Probe:=st m (bits h%(m+1),bits h) none
theorem Pr.start(m:Nat)(h:Int):Pr m (start m h):=Pr.st (by show bits h%(m+1)≤m;have:=rm (bits h) (show 0<m+1 by omega);omega) (OC h)
theorem aj{q:Nat}(h:q<2^64):q/32^13=0:=Nat.div_eq_of_lt (iJ h (by decide))
theorem WV{m:Nat}(hm:CG m){x:Nat×Nat}(h1:x.1≤m)(h2:x.2<2^64){e:Nat}(he:e≤m):∃L,L≤m+13∧(Mh m L x).1=e:=by
 have e13:Mh m 13 x=((Mh m 13 x).1,0):=by
  have:=OA m 13 x
  rw[aj h2] at this
  rw[←this]
 obtain⟨k,hk,ek⟩:=OB hm (HM m 13 x h1) he
 refine⟨13+k,by omega,?_⟩
 rw[Nz,e13,ai]
 exact ek
theorem WX{m:Nat}(hm:CG m){p:Probe}(h:Pr m p){e:Nat}(he:e≤m):∃n,n<10*(m+15)∧(advN m n p).j=e:=by
 have hl:(leap m p.i p.perturb).1≤m:=HM m 1 (p.i,p.perturb) h.i
 obtain⟨L,hL,eL⟩:=WV hm (x:=leap m p.i p.perturb) hl (oQ (Nat.div_le_self _ _) h.pert) he
 obtain⟨n,hn,en⟩:=Qx m L (leap m p.i p.perturb) p.dummy hl
 refine⟨p.more+1+n,by have:=h.more;omega,?_⟩
 rw[CF,HL,en]
 exact eL
theorem PZ(m:Nat)(p:Probe):(adv m p).dummy=p.dummy:=by
 by_cases h:0<p.more
 ·rw[HJ h]
 ·rw[HK h]
theorem EY(m:Nat):∀(n:Nat) (p:Probe),(advN m n p).dummy=p.dummy
 |0,_=>rfl
 |n+1,p=> (EY m n _).trans (PZ m p)
end StT
namespace StT
local macro_rules | `(tactic| omega) => `(tactic| first | lia | omega)
open PySem PySem.SetTable
def Kz(t:jN)(j:Nat):Prop:=∃i:Nat,t.place[i]?=some j
structure Tb(t:jN)(hs:List Int):Prop where
 mask:CG t.mask
 dum:t.dummies= #[]
 ris:Qv t.place
 le:∀i j:Nat,t.place[i]?=some j→j≤t.mask
 size:t.place.size=hs.length
 fnd:∀(i j:Nat) (h:Int),t.place[i]?=some j→hs[i]?=some h→∃n,(advN t.mask n (start t.mask h)).j=j∧∀k,k<n→Kz t (advN t.mask k (start t.mask h)).j
section
variable{t:jN}{hs:List Int}
theorem Tb.odd(T:Tb t hs):t.mask%2=1:=by rcases T.mask with h|h|h|h<;>rw[h]
theorem Tb.low(T:Tb t hs):7≤t.mask:=by rcases T.mask with h|h|h|h<;>omega
theorem Tb.live(T:Tb t hs){i j:Nat}(h:t.place[i]?=some j):t.slot j=.live i:=by
 unfold slot
 rw[CD T.ris h]
 simp only[h,beq_self_eq_true,if_true]
theorem Tb.empty(T:Tb t hs){j:Nat}(h:¬Kz t j):t.slot j=.empty:=by
 unfold slot
 have h1:(t.place[below t.place j]?==some j)=false:=by
  rw[beq_eq_false_iff_ne]
  exact fun e=>h ⟨_,e⟩
 have h2:has t.dummies j=false:=by
  unfold has
  rw[T.dum]
  rfl
 simp only[h1,h2,iK,if_false]
theorem Tb.room(T:Tb t hs)(h:hs.length≤t.mask):∃e,e≤t.mask∧¬Kz t e:=by
 apply kv
 intro hn
 have:=Me (t.mask+1) t.place.toList fun e he=>by
  have:Kz t e:=kv fun hc=>hn ⟨e,by omega,hc⟩
  obtain⟨i,hi⟩:=this
  exact hZ (i:=i) (by simpa using hi)
 rw[iq,T.size] at this
 omega
theorem UZ(T:Tb t hs){hashAt:Nat→Int}{h:Int}{p:Probe}{i:Nat}(fuel:Nat)(h1:t.place[i]?=some p.j)(h2:hashAt i≠h):nZ t hashAt h (fuel+1) p=nZ t hashAt h fuel (adv t.mask p):=by
 rw[nZ,T.live h1]
 simp only[beq_iff_eq,if_neg h2,HI]
theorem LA(T:Tb t hs){hashAt:Nat→Int}{h:Int}:∀(n fuel:Nat) (p:Probe),(∀k,k<n→∃i,t.place[i]?=some (advN t.mask k p).j∧hashAt i≠h)→nZ t hashAt h (fuel+n) p=nZ t hashAt h fuel (advN t.mask n p)
 |0,_,_,_=>rfl
 |n+1,fuel,p,hk=>by
  obtain⟨i,h1,h2⟩:=hk 0 (oB _)
  have h1:t.place[i]?=some p.j:=h1
  rw[←qW,UZ T _ h1 h2]
  exact LA T n fuel _ fun k hk'=>hk (k+1) (Nat.succ_lt_succ hk')
theorem Qy(T:Tb t hs){hashAt:Nat→Int}{h:Int}{p:Probe}{fuel:Nat}(h1:¬Kz t p.j):nZ t hashAt h (fuel+1) p=some (.empty p.j p.dummy):=by
 rw[nZ,T.empty h1]
theorem Xw(T:Tb t hs){hashAt:Nat→Int}{h:Int}{p:Probe}{fuel i:Nat}(h1:t.place[i]?=some p.j)(h2:hashAt i=h):nZ t hashAt h (fuel+1) p=some (.candidate p.j i (adv t.mask p)):=by
 rw[nZ,T.live h1]
 simp only[beq_iff_eq,if_pos h2,HI]
theorem least{S:Nat→Prop}:∀(n:Nat),S n→∃m,m≤n∧S m∧∀k,k<m→¬S k:=by
 intro n
 induction n using qh with
 |ind n ih=>
  intro hn
  by_cases h:∃k,k<n∧S k
  ·obtain⟨k,hk,sk⟩:=h
   obtain⟨m,h1,h2,h3⟩:=ih k hk sk
   exact⟨m,by omega,h2,h3⟩
  ·exact⟨n,hC _,hn,fun k hk sk=>h ⟨k,hk,sk⟩⟩
theorem LB(T:Tb t hs)(hl:hs.length≤t.mask){p:Probe}(pr:Pr t.mask p)(hashAt:Nat→Int)(h:Int):∃n,(∀k,k<n→∃i,t.place[i]?=some (advN t.mask k p).j∧hashAt i≠h)∧
  ((¬Kz t (advN t.mask n p).j∧t.probe hashAt h p=some (.empty (advN t.mask n p).j p.dummy))∨∃i,t.place[i]?=some (advN t.mask n p).j∧hashAt i=h∧t.probe hashAt h p=some (.candidate (advN t.mask n p).j i (advN t.mask (n+1) p))):=by
 obtain⟨e,he,hne⟩:=T.room hl
 obtain⟨n0,hn0,en0⟩:=WX T.mask pr he
 obtain⟨n,hn,sn,ln⟩:=least (S:=fun n=>¬Kz t (advN t.mask n p).j∨∃i,t.place[i]?=some (advN t.mask n p).j∧hashAt i=h) n0 (.inl (by rw[en0];exact hne))
 have pre:∀k,k<n→∃i,t.place[i]?=some (advN t.mask k p).j∧hashAt i≠h:=fun k hk=>by
  have:=ln k hk
  have ho:Kz t (advN t.mask k p).j:=kv fun hc=>this (.inl hc)
  obtain⟨i,hi⟩:=ho
  exact⟨i,hi,fun z=>this (.inr ⟨i,hi,z⟩)⟩
 have hfuel:10*turns t.mask=(10*(t.mask+15)-n-1+1)+n:=by unfold turns;omega
 refine⟨n,pre,?_⟩
 unfold probe
 rw[hfuel,LA T n _ p pre]
 rcases sn with sn| ⟨i,h1,h2⟩
 ·exact .inl ⟨sn,by rw[Qy T sn,EY]⟩
 ·exact .inr ⟨i,h1,h2,by rw[Xw T h1 h2,Ij]⟩
theorem Tb.put(T:Tb t hs){h:Int}{n:Nat}(hfree:¬Kz t (advN t.mask n (start t.mask h)).j)(hway:∀k,k<n→Kz t (advN t.mask k (start t.mask h)).j):
  Tb (t.put (advN t.mask n (start t.mask h)).j).1 (hs.take (t.put (advN t.mask n (start t.mask h)).j).2++h::hs.drop (t.put (advN t.mask n (start t.mask h)).j).2)∧(t.put (advN t.mask n (start t.mask h)).j).2≤hs.length∧
   (t.put (advN t.mask n (start t.mask h)).j).1.mask=t.mask∧(t.put (advN t.mask n (start t.mask h)).j).1.plain=t.plain∧(t.put (advN t.mask n (start t.mask h)).j).1.led=t.led∧(t.put (advN t.mask n (start t.mask h)).j).1.moves=t.moves:=by
 have hj:(advN t.mask n (start t.mask h)).j≤t.mask:=(Pr.start t.mask h).advN.j
 generalize hJ:(advN t.mask n (start t.mask h)).j=J at*
 have hd:has t.dummies J=false:=by
  unfold has
  rw[T.dum]
  rfl
 have hnot:∀i:Nat,t.place[i]?≠some J:=fun i e=>hfree ⟨i,e⟩
 have hb:=(DB (j:=J) T.ris).1
 have e1:(t.put J).1={t with place:=kW t.place (below t.place J) J}:=by
  unfold jN.put
  simp only[hd,iK,if_false]
 have e2:(t.put J).2=below t.place J:=rfl
 rw[e1,e2]
 have ix:=getElem?_insertAt t.place (below t.place J) J hb
 have hl:(hs.take (below t.place J)).length=below t.place J:=by rw[iH,←T.size];omega
 have ih:∀i:Nat,(hs.take (below t.place J)++h::hs.drop (below t.place J))[i]?=if i<below t.place J then hs[i]? else if i=below t.place J then some h else hs[i-1]?:=fun i=>by
  by_cases h1:i<below t.place J
  ·rw[if_pos h1,iY (by omega),lX h1]
  ·rw[if_neg h1,iG (by omega),hl]
   by_cases h2:i=below t.place J
   ·subst h2;simp
   ·rw[if_neg h2,show i-below t.place J=(i-below t.place J-1)+1 by omega,lu,jT]
    rw[show below t.place J+(i-below t.place J-1)=i-1 by omega]
 have occ:∀x,Kz t x→Kz {t with place:=kW t.place (below t.place J) J} x:=fun x ⟨i,hi⟩=>by
  by_cases h1:i<below t.place J
  ·exact⟨i,by show(kW t.place (below t.place J) J)[i]?=some x;rw[ix,if_pos h1];exact hi⟩
  ·exact⟨i+1,by show(kW t.place (below t.place J) J)[i+1]?=some x;rw[ix,if_neg (by omega),if_neg (by omega)];exact hi⟩
 refine⟨⟨T.mask,T.dum,Mf T.ris hnot,fun i j e=>?_,?_,fun i j h' e eh=>?_⟩,by rw[←T.size];exact hb,rfl,rfl,rfl,rfl⟩
 ·have e:(kW t.place (below t.place J) J)[i]?=some j:=e
  rw[ix] at e
  by_cases h1:i<below t.place J
  ·rw[if_pos h1] at e;exact T.le i j e
  ·rw[if_neg h1] at e
   by_cases h2:i=below t.place J
   ·rw[if_pos h2] at e;cases e;exact hj
   ·rw[if_neg h2] at e;exact T.le _ j e
 ·show(kW t.place (below t.place J) J).size=_
  rw[EV _ _ _ hb,T.size]
  have hb':below t.place J≤hs.length:=by rw[←T.size];exact hb
  rw[iB,hl,iw,jx]
  omega
 ·have e:(kW t.place (below t.place J) J)[i]?=some j:=e
  rw[ix] at e
  rw[ih] at eh
  by_cases h1:i<below t.place J
  ·rw[if_pos h1] at e eh
   obtain⟨k,ek,wk⟩:=T.fnd i j h' e eh
   exact⟨k,ek,fun k' hk=>occ _ (wk k' hk)⟩
  ·rw[if_neg h1] at e eh
   by_cases h2:i=below t.place J
   ·rw[if_pos h2] at e eh
    cases e;cases eh
    exact⟨n,hJ,fun k hk=>occ _ (hway k hk)⟩
   ·rw[if_neg h2] at e eh
    obtain⟨k,ek,wk⟩:=T.fnd _ j h' e eh
    exact⟨k,ek,fun k' hk=>occ _ (wk k' hk)⟩
theorem Tb.fresh(f mv:Nat)(led:Bool):Tb (jN.fresh f mv led) []:=by
 refine⟨.inl rfl,rfl,lT,fun i j e=>?_,rfl,fun i j h e=>?_⟩
 ·have e:(#[]:Array Nat)[i]?=some j:=e
  simp at e
 ·have e:(#[]:Array Nat)[i]?=some j:=e
  simp at e
end
end StT
namespace StT
local macro_rules | `(tactic| omega) => `(tactic| first | lia | omega)
open PySem PySem.SetTable
structure LC(m:Nat)(owner:Array (Option Nat))(hs:List Int):Prop where
 size:owner.size=m+1
 put:∀(r:Nat) (h:Int),hs[r]?=some h→∃j,j≤m∧owner[j]?=some (some r)∧∃n,(advN m n (start m h)).j=j∧∀k,k<n→∃r',owner[(advN m k (start m h)).j]?=some (some r')
 lt:∀j r:Nat,owner[j]?=some (some r)→r<hs.length
 inj:∀j j' r:Nat,owner[j]?=some (some r)→owner[j']?=some (some r)→j=j'
section
variable{m:Nat}{owner:Array (Option Nat)}{hs:List Int}
theorem Jl(hz:owner.size=m+1){x:Nat}(hx:x≤m):owner.getD x (some 0)=owner[x]'(by omega)∧owner[x]?=some (owner[x]'(by omega)):=by
 have hx':x<owner.size:=by omega
 exact⟨by simp[oW,hx'],by simp[hx']⟩
theorem WY(hz:owner.size=m+1){x:Nat}(hx:x≤m)(h:(owner.getD x (some 0)).isNone=false):∃r,owner[x]?=some (some r):=by
 obtain⟨h1,h2⟩:=Jl hz hx
 rw[h1] at h
 cases e:owner[x]'(by omega) with
 |none=>rw[e] at h;cases h
 |some r=>exact⟨r,by rw[h2,e]⟩
theorem Ua(hz:owner.size=m+1){x:Nat}(hx:x≤m)(h:(owner.getD x (some 0)).isNone=true):owner[x]?=some none:=by
 obtain⟨h1,h2⟩:=Jl hz hx
 rw[h1] at h
 cases e:owner[x]'(by omega) with
 |none=>rw[h2,e]
 |some r=>rw[e] at h;cases h
theorem Mi{i q k:Nat}(hk:k≤mJ m i-i):(advN m k (st m (i,q) none)).j=i+k:=by
 rw[Ji m k _ hk]
 rfl
theorem Ik(m i:Nat):i≤mJ m i:=by
 unfold mJ
 split<;>omega
theorem Il(hz:owner.size=m+1){j:Nat}:∀(fuel i q:Nat),i≤m→layClean.free m owner fuel i q=some j→
  ∃n,(advN m n (st m (i,q) none)).j=j∧(∀k,k<n→∃r,owner[(advN m k (st m (i,q) none)).j]?=some (some r))∧owner[j]?=some none∧j≤m
 |0,i,q,_,e=>by simp[layClean.free] at e
 |fuel+1,i,q,hi,e=>by
  have hr:=Fc m i hi
  have hge:=Ik m i
  rw[layClean.free] at e
  cases hf:(iA (mJ m i+1-i)).find? fun k=> (owner.getD (i+k) (some 0)).isNone with
  |some k=>
   rw[hf] at e
   cases e
   have hk1:(owner.getD (i+k) (some 0)).isNone=true:=by simpa using List.find?_some hf
   have hkm:k<mJ m i+1-i:=iM.mp (List.mem_of_find?_eq_some hf)
   refine⟨k,Mi (by omega),fun k' hk'=>?_,Ua hz (by omega) hk1,by omega⟩
   rw[Mi (by omega)]
   refine WY hz (by omega) ?_
   have:=List.find?_range_eq_some.mp hf
   have h3:=this.2.2 k' hk'
   simpa using h3
  |none=>
   rw[hf] at e
   have hl:(leap m i q).1≤m:=HM m 1 (i,q) hi
   obtain⟨n,h1,h2,h3⟩:=Il hz fuel _ _ hl e
   have all:∀k,k≤mJ m i-i→∃r,owner[(advN m k (st m (i,q) none)).j]?=some (some r):=fun k hk=>by
    rw[Mi hk]
    refine WY hz (by omega) ?_
    have:=List.find?_eq_none.mp hf k (iM.mpr (by omega))
    exact pz.mpr this
   have hleap:advN m (mJ m i-i+1) (st m (i,q) none)=st m (leap m i q) none:=HL m (st m (i,q) none)
   refine⟨(mJ m i-i+1)+n,?_,fun k hk=>?_,h3⟩
   ·rw[CF,hleap]
    exact h1
   ·by_cases hk':k≤mJ m i-i
    ·exact all k hk'
    ·have e2:k=(mJ m i-i+1)+(k- (mJ m i-i+1)):=by omega
     rw[e2,CF,hleap]
     exact h2 _ (by omega)
theorem Im(hz:owner.size=m+1){e:Nat}(he:owner[e]?=some none)(hem:e≤m):∀(fuel L i q:Nat),i≤m→L<fuel→(Mh m L (i,q)).1=e→layClean.free m owner fuel i q≠none
 |0,L,_,_,_,h,_=>absurd h (my _)
 |fuel+1,L,i,q,hi,hL,eL=>by
  rw[layClean.free]
  have hge:=Ik m i
  cases hf:(iA (mJ m i+1-i)).find? fun k=> (owner.getD (i+k) (some 0)).isNone with
  |some k=>simp
  |none=>
   cases L with
   |zero=>
    have eL:i=e:=eL
    subst eL
    have:=List.find?_eq_none.mp hf 0 (iM.mpr (by omega))
    obtain⟨h1,h2⟩:=Jl hz hem
    rw[he] at h2
    have h2:=i8.inj h2
    rw[rO,h1,←h2] at this
    exact absurd rfl this
   |succ L=>
    exact Im hz he hem fuel L _ _ (HM m 1 (i,q) hi) (by omega) eL
def Ey(m:Nat)(acc:Option (Array (Option Nat)×Nat))(h:Int):Option (Array (Option Nat)×Nat):=do
 let(owner,k)←acc
 let j←layClean.free m owner (turns m) (bits h%(m+1)) (bits h)
 pure (owner.setIfInBounds j (some k),k+1)
theorem LD(m:Nat)(hs:Array Int):layClean m hs=(hs.toList.foldl (Ey m) (some (qo (m+1) none,0))).map (·.1):=by
 unfold layClean
 rw[Array.foldl_toList]
 rfl
theorem LC.room(c:LC m owner hs)(h:hs.length≤m):∃e,e≤m∧owner[e]?=some none:=by
 apply kv
 intro hn
 have all:∀e,e≤m→∃r,owner[e]?=some (some r):=fun e he=>by
  have hz:=c.size
  cases q:owner[e]'(by omega) with
  |none=>exact absurd ⟨e,he,by rw[←q];simp[show e<owner.size by omega]⟩ hn
  |some r=>exact⟨r,by rw[←q];simp[show e<owner.size by omega]⟩
 have hf:∀e,∃r,e≤m→owner[e]?=some (some r):=fun e=>by
  by_cases he:e≤m
  ·obtain⟨r,hr⟩:=all e he;exact⟨r,fun _=>hr⟩
  ·exact⟨0,fun z=>absurd z he⟩
 obtain⟨f,hf⟩:=Classical.axiomOfChoice hf
 have hl:=Cm hs.length ((iA (m+1)).map f) (by
  refine pk f (R:=fun a b=>a≠b∧a≤m∧b≤m) (fun a b hab e=>?_) ?_
  ·have h1:=hf a hab.2.1
   have h2:=hf b hab.2.2
   rw[e] at h1
   exact hab.1 (c.inj a b _ h1 h2)
  ·refine k9 (fun{a b} ha hb h=> ⟨iL h,?_,?_⟩) (jP (n:=m+1))
   ·have:=iM.mp ha;omega
   ·have:=iM.mp hb;omega) (fun x hx=>by
  obtain⟨e,he,rfl⟩:=ig.mp hx
  exact c.lt e _ (hf e (by have:=iM.mp he;omega)))
 rw[c9,jQ] at hl
 omega
theorem LC.step(hm:CG m)(c:LC m owner hs)(hl:hs.length≤m)(h:Int):∃o',Ey m (some (owner,hs.length)) h=some (o',hs.length+1)∧LC m o' (hs++[h]):=by
 obtain⟨e,he,hne⟩:=c.room hl
 have hb:bits h%(m+1)≤m:=by have:=rm (bits h) (show 0<m+1 by omega);omega
 obtain⟨L,hL,eL⟩:=WV hm (x:=(bits h%(m+1),bits h)) hb (OC h) he
 have hs':=Im c.size hne he (turns m) L _ _ hb (by unfold turns;omega) eL
 cases hf:layClean.free m owner (turns m) (bits h%(m+1)) (bits h) with
 |none=>exact absurd hf hs'
 |some j=>
  obtain⟨n,h1,h2,h3,h4⟩:=Il c.size _ _ _ hb hf
  have hj:j<owner.size:=by rw[c.size];omega
  refine⟨owner.setIfInBounds j (some hs.length),?_,?_⟩
  ·unfold Ey
   show(layClean.free m owner (turns m) (bits h%(m+1)) (bits h)>>=_)=_
   rw[hf]
   rfl
  ·have at_:∀x:Nat,(owner.setIfInBounds j (some hs.length))[x]?=if x=j then some (some hs.length) else owner[x]?:=fun x=>by
    rw[Array.getElem?_setIfInBounds]
    by_cases hx:x=j
    ·subst hx;simp[hj]
    ·rw[if_neg (Ne.symm hx),if_neg hx]
   have occ:∀x r:Nat,owner[x]?=some (some r)→∃r',(owner.setIfInBounds j (some hs.length))[x]?=some (some r'):=fun x r hr=>by
    rw[at_]
    by_cases hx:x=j
    ·exact⟨_,if_pos hx⟩
    ·exact⟨r,by rw[if_neg hx];exact hr⟩
   refine⟨by simpa using c.size,fun r h' e'=>?_,fun x r hr=>?_,fun x y r hx hy=>?_⟩
   ·by_cases hr:r<hs.length
    ·rw[iY hr] at e'
     obtain⟨x,q1,q2,n',q3,q4⟩:=c.put r h' e'
     refine⟨x,q1,?_,n',q3,fun k hk=>?_⟩
     ·rw[at_,if_neg];exact q2
      rintro rfl
      rw[h3] at q2;cases q2
     ·obtain⟨r',hr'⟩:=q4 k hk
      exact occ _ r' hr'
    ·rw[iG (by omega)] at e'
     have hr0:r-hs.length=0:=by
      have:=(ie.mp e').1
      simp at this;omega
     rw[hr0] at e'
     cases e'
     have:r=hs.length:=by omega
     subst this
     refine⟨j,h4,by rw[at_,if_pos rfl],n,h1,fun k hk=>?_⟩
     obtain⟨r',hr'⟩:=h2 k hk
     exact occ _ r' hr'
   ·rw[at_] at hr
    rw[iB]
    by_cases hx:x=j
    ·rw[if_pos hx] at hr;cases hr;simp
    ·rw[if_neg hx] at hr
     have:=c.lt x r hr
     omega
   ·rw[at_] at hx hy
    by_cases h1:x=j
    ·rw[if_pos h1] at hx
     cases hx
     by_cases h2:y=j
     ·rw[h1,h2]
     ·rw[if_neg h2] at hy
      exact absurd (c.lt y _ hy) (jD _)
    ·rw[if_neg h1] at hx
     by_cases h2:y=j
     ·rw[if_pos h2] at hy
      cases hy
      exact absurd (c.lt x _ hx) (jD _)
     ·rw[if_neg h2] at hy
      exact c.inj x y r hx hy
theorem LC.steps(hm:CG m):∀(rest hs:List Int) (owner:Array (Option Nat)),LC m owner hs→hs.length+rest.length≤m+1→∃o',rest.foldl (Ey m) (some (owner,hs.length))=some (o',hs.length+rest.length)∧LC m o' (hs++rest)
 | [],hs,owner,c,_=> ⟨owner,rfl,by rw[jV];exact c⟩
 |h::rest,hs,owner,c,hl=>by
  simp only[iw] at hl
  obtain⟨o1,e1,c1⟩:=c.step hm (by omega) h
  obtain⟨o2,e2,c2⟩:=LC.steps hm rest (hs++[h]) o1 c1 (by rw[iB];simp;omega)
  refine⟨o2,?_,by rw[jR] at c2;exact c2⟩
  rw[qk,e1]
  have:(hs++[h]).length=hs.length+1:=by simp
  rw[this] at e2
  rw[e2]
  simp only[iw]
  congr 2
  omega
theorem LF(hm:CG m)(hs:Array Int)(hl:hs.size≤m+1):∃owner,layClean m hs=some owner∧LC m owner hs.toList:=by
 have c0:LC m (qo (m+1) none) []:=⟨by simp,fun r h e=>by simp at e,fun j r e=>by
  rw[Array.getElem?_replicate] at e;split at e<;>simp at e,fun j j' r e=>by
  rw[Array.getElem?_replicate] at e;split at e<;>simp at e⟩
 obtain⟨o,e,c⟩:=LC.steps hm hs.toList [] _ c0 (by simpa using hl)
 refine⟨o,?_,by simpa using c⟩
 rw[LD]
 have e':hs.toList.foldl (Ey m) (some (qo (m+1) none,0))=_:=e
 rw[e']
 rfl
end
end StT
namespace StT
open PySem PySem.SetTable
section
variable{m:Nat}
theorem Ub(hm:CG m)(hs:Array Int)(hl:hs.size≤m+1)(f mv:Nat)(led plain:Bool):∃t' order,laid m f mv led plain hs=some (t',order)∧t'.mask=m∧t'.led=led∧t'.plain=plain∧t'.moves=mv∧order.size=hs.size∧
  (∀i r:Nat,order[i]?=some r→r<hs.size)∧(∀i i' r:Nat,order[i]?=some r→order[i']?=some r→i=i')∧(∀r,r<hs.size→∃i:Nat,order[i]?=some r)∧Tb t' (order.toList.map fun r=>hs.getD r 0):=by
 obtain⟨owner,e,c⟩:=LF hm hs hl
 generalize hlive:(iA (m+1)).filterMap (fun j=> (owner.getD j none).map (j,·))=live
 have mem:∀j r,(j,r)∈live↔j≤m∧owner[j]?=some (some r):=fun j r=>by
  rw[←hlive,k6]
  constructor
  ·rintro⟨x,hx,ex⟩
   have hx:=iM.mp hx
   have hxo:x<owner.size:=by rw[c.size];exact hx
   have eg:owner.getD x none=owner[x]:=by simp[oW,hxo]
   rw[eg] at ex
   cases q:owner[x] with
   |none=>rw[q] at ex;cases ex
   |some r'=>
    rw[q] at ex
    cases ex
    exact⟨by omega,by rw[←q];simp[hxo]⟩
  ·rintro⟨h1,h2⟩
   obtain⟨hxo,q⟩:=jw.mp h2
   refine⟨j,iM.mpr (by omega),?_⟩
   have eg:owner.getD j none=owner[j]:=by simp[oW,hxo]
   rw[eg,q]
   rfl
 have pw:live.Pairwise fun a b=>a.1<b.1:=by
  rw[←hlive,List.pairwise_filterMap]
  refine iZ.imp (fun{a b} h x hx y hy=>?_) (jP (n:=m+1))
  cases q1:owner.getD a none with
  |none=>rw[q1] at hx;cases hx
  |some r1=>
   cases q2:owner.getD b none with
   |none=>rw[q2] at hy;cases hy
   |some r2=>
    rw[q1] at hx;rw[q2] at hy
    cases hx;cases hy
    exact h
 have lt:∀j r,(j,r)∈live→r<hs.size:=fun j r h=>by have:=c.lt j r ((mem j r).mp h).2;simpa using this
 have pwr:live.Pairwise fun a b=>a.2≠b.2:=by
  refine k9 (fun{a b} ha hb h e=>?_) pw
  obtain⟨a1,a2⟩:=a
  obtain⟨b1,b2⟩:=b
  have h1:=(mem _ _).mp ha
  have h2:=(mem _ _).mp hb
  have e:a2=b2:=e
  subst e
  have:=c.inj _ _ _ h1.2 h2.2
  have h:a1<b1:=h
  omega
 have nd:(live.map (·.2)).Nodup:=pk _ (fun _ _ h=>h) pwr
 have all:∀r,r<hs.size→∃j,(j,r)∈live:=fun r hr=>by
  obtain⟨j,h1,h2,_⟩:=c.put r (hs[r]) (by simp[hr])
  exact⟨j,(mem j r).mpr ⟨h1,h2⟩⟩
 have len:live.length=hs.size:=by
  apply Nat.le_antisymm
  ·have:=Cm hs.size (live.map (·.2)) nd fun x hx=>by
    obtain⟨⟨j,r⟩,h1,rfl⟩:=ig.mp hx
    exact lt j r h1
   simpa using this
  ·have:=Me hs.size (live.map (·.2)) fun r hr=>by
    obtain⟨j,hj⟩:=all r hr
    exact ig.mpr ⟨_,hj,rfl⟩
   simpa using this
 refine⟨{mask:=m,place:=(live.map (·.1)).toArray,dummies:=#[],finger:=f,led:=led,moves:=mv,plain:=plain},(live.map (·.2)).toArray,?_,rfl,rfl,rfl,rfl,by simpa using len,fun i r h=>?_,fun i i' r h h'=>?_,fun r hr=>?_,?_⟩
 ·unfold laid
  rw[e]
  show some _=some _
  rw[hlive]
 ·have h:(live.map (·.2))[i]?=some r:=by simpa using h
  rw[e7] at h
  cases q:live[i]? with
  |none=>rw[q] at h;cases h
  |some x=>rw[q] at h;cases h;exact lt x.1 x.2 (hZ q)
 ·have h:(live.map (·.2))[i]?=some r:=by simpa using h
  have h':(live.map (·.2))[i']?=some r:=by simpa using h'
  obtain⟨l1,e1⟩:=ie.mp h
  obtain⟨l2,e2⟩:=ie.mp h'
  rcases lR i i' with hlt|heq|hgt
  ·exact absurd (e1.trans e2.symm) (jn.mp nd i i' l1 l2 hlt)
  ·exact heq
  ·exact absurd (e2.trans e1.symm) (jn.mp nd i' i l2 l1 hgt)
 ·obtain⟨j,hj⟩:=all r hr
  obtain⟨i,hi⟩:=jm hj
  exact⟨i,by simp[hi]⟩
 ·have at_:∀i j:Nat,(live.map (·.1)).toArray[i]?=some j→∃r,live[i]?=some (j,r):=fun i j h=>by
   have h:(live.map (·.1))[i]?=some j:=by simpa using h
   rw[e7] at h
   cases q:live[i]? with
   |none=>rw[q] at h;cases h
   |some x=>
    rw[q] at h
    cases h
    exact⟨x.2,rfl⟩
  refine⟨hm,rfl,?_,fun i j h=>?_,by simp,fun i j h e1 e2=>?_⟩
  ·show(live.map (·.1)).toArray.toList.Pairwise (· < ·)
   exact pk _ (fun _ _ h=>h) pw
  ·obtain⟨r,hr⟩:=at_ i j h
   exact((mem j r).mp (hZ hr)).1
  ·obtain⟨r,hr⟩:=at_ i j e1
   have hrlt:=lt j r (hZ hr)
   have e2:((live.map (·.2)).map fun r=>hs.getD r 0)[i]?=some h:=by simpa using e2
   rw[e7,e7,hr] at e2
   have e2:hs.getD r 0=h:=i8.inj e2
   have eh:hs.toList[r]?=some h:=by
    rw[←e2]
    simp[oW,hrlt]
   obtain⟨j2,q1,q2,n,q3,q4⟩:=c.put r h eh
   have ej:=c.inj j2 j r q2 ((mem j r).mp (hZ hr)).2
   subst ej
   refine⟨n,q3,fun k hk=>?_⟩
   obtain⟨r',hr'⟩:=q4 k hk
   have hk':(advN m k (start m h)).j≤m:=(Pr.start m h).advN.j
   obtain⟨i',hi'⟩:=jm ((mem _ r').mpr ⟨hk',hr'⟩)
   refine⟨i',?_⟩
   show(live.map (·.1)).toArray[i']?=_
   simp[hi']
theorem Pa{n:Nat}(h:CG m)(h1:n*5<m*3)(h2:m*3≤(n+1)*5)(h3:n<300):CG (qI (grown (n+1))-1)∧n+1≤qI (grown (n+1))-1∧(n+1)*5< (qI (grown (n+1))-1)*3∧qI (grown (n+1))≤512:=by
 rcases h with rfl|rfl|rfl|rfl
 ·have:n=4:=by omega
  subst this
  refine⟨.inr (.inl (by decide)),by decide,by decide,by decide⟩
 ·have:n=18:=by omega
  subst this
  refine⟨.inr (.inr (.inl (by decide))),by decide,by decide,by decide⟩
 ·have:n=76:=by omega
  subst this
  refine⟨.inr (.inr (.inr (by decide))),by decide,by decide,by decide⟩
 ·omega
theorem DC{α:Type}(es:Array α):∀(l:List Nat),(∀r∈l,r<es.size)→∀i:Nat,(l.filterMap fun r=>es[r]?)[i]?=(l[i]?).bind fun r=>es[r]?
 | [],_,i=>by simp
 |r::l,h,i=>by
  have hr:=h r iV
  have e:es[r]?=some es[r]:=by simp[hr]
  rw[jU,e]
  cases i with
  |zero=>simp
  |succ i=>
   simp only[lu]
   exact DC es l (fun x hx=>h x (iy _ hx)) i
theorem Ca{α:Type}(es:Array α):∀(l:List Nat),(∀r∈l,r<es.size)→(l.filterMap fun r=>es[r]?).length=l.length
 | [],_=>rfl
 |r::l,h=>by
  have hr:=h r iV
  have e:es[r]?=some es[r]:=by simp[hr]
  rw[jU,e]
  simp[Ca es l (fun x hx=>h x (iy _ hx))]
end
open PyProof.Rows
section
variable{prog:Program}{w:World}{A:iC}{E:Value→a9→Prop}{s:a9}
abbrev IK(prog:Program)(w:World)(h:Heap)(k:List Int)(a:Addr):Prop:=IsTupleKey (intKind prog w) h k a
abbrev tk(prog:Program)(w:World):HeapKind prog w (List Int):=tupleKind (intKind prog w)
theorem Fd{n:Int}{v:Value}(h:(intKind prog w).is n v=true):∃t,v=.int n t:=by
 cases v with
 |int m t=>
  have h2:(intKind prog w).is m (.int m t)=true:=intKind_is _ _ _ _
  have e:=(intKind prog w).inj _ _ _ h h2
  subst e
  exact⟨t,rfl⟩
 |_=>exact absurd h (by simp[intKind,Value.isInt])
theorem HN{ks:List Int}{vs:List Value}(h:ItemsAre (intKind prog w) ks vs):∀v∈vs,∃n t,v=.int n t:=by
 induction h with
 |nil=>intro v hv;simp at hv
 |cons h1 _ ih=>
  intro v hv
  rcases ic.mp hv with rfl|hv
  ·obtain⟨t,e⟩:=Fd h1
   exact⟨_,t,e⟩
  ·exact ih v hv
theorem ak{k:List Int}{a:Addr}{Q:Bool→a9→Prop}(hk:IK prog w s.heap k a)(h:Q true s):wpAny (model prog w) A (hashByValue 8 (.ref a)) Q E s:=by
 have hT:=hk.typeIs
 obtain⟨o,items,n,ho,_,hd,hi⟩:=hk
 have hints:=HN hi
 unfold hashByValue
 refine a7 (wpAny_specialOf hT PySem.F.slot_tuple_hash.lookup ?_)
 dsimp only
 refine a7 (j8 ho hd ?_)
 show wpAny _ _ ((forIn items _ _)>>=_) _ _ s
 rw[←Array.forIn_toList]
 refine a7 (nM _ (fun rest r s'=>r.1=none∧s'=s∧∀v∈rest,∃n t,v=pO n t) _ ?_ ?_ _ _ ⟨rfl,rfl,hints⟩)
 ·rintro v rest r s' ⟨hr,rfl,hall⟩
  obtain⟨n,t,rfl⟩:=hall v iV
  refine a7 (b9 ?_)
  simp only[m8,iK,if_false]
  exact b9 ⟨rfl,rfl,fun u hu'=>hall u (iy _ hu')⟩
 ·rintro⟨r1,r2⟩ s' ⟨hr,rfl,_⟩
  simp only at hr
  subst hr
  exact b9 h
theorem OD{k:List Int}{a:Addr}{Q:Bool→a9→Prop}(hk:IK prog w s.heap k a)(h:Q false s):wpAny (model prog w) A (o6 8 (.ref a)) Q E s:=by
 have hT:=hk.typeIs
 obtain⟨o,items,n,ho,hc,hd,hi⟩:=hk
 have hints:=HN hi
 unfold o6
 refine a7 (nz hT ?_)
 dsimp only
 rw[if_pos (by decide)]
 refine a7 (b9 ?_)
 simp only[m8,iK,if_false]
 refine a7 (j8 ho hd ?_)
 show wpAny _ _ ((forIn items _ _)>>=_) _ _ s
 rw[←Array.forIn_toList]
 refine a7 (nM _ (fun rest r s'=>r.1=none∧s'=s∧∀v∈rest,∃n t,v=pO n t) _ ?_ ?_ _ _ ⟨rfl,rfl,hints⟩)
 ·rintro v rest r s' ⟨hr,rfl,hall⟩
  obtain⟨n,t,rfl⟩:=hall v iV
  unfold o6
  refine a7 (b9 ?_)
  simp only[iK,if_false]
  exact b9 ⟨rfl,rfl,fun u hu'=>hall u (iy _ hu')⟩
 ·rintro⟨r1,r2⟩ s' ⟨hr,rfl,_⟩
  simp only at hr
  subst hr
  exact b9 h
theorem Uc{k:List Int}{a:Addr}{Q:Bool→a9→Prop}{l:List Value}(hk:IK prog w s.heap k a)(hl:∀v∈l,∃k' b,v=.ref b∧IK prog w s.heap k' b)(h:Q false s):wpAny (model prog w) A (searchCouldBeSeen (.ref a) l) Q E s:=by
 unfold searchCouldBeSeen
 refine a7 (nM _ (fun rest r s'=>r.1=none∧s'=s∧∀v∈rest,∃k' b,v=Value.ref b∧IK prog w s.heap k' b) _ ?_ ?_ _ _ ⟨rfl,rfl,hl⟩)
 ·rintro v rest r s' ⟨hr,rfl,hall⟩
  obtain⟨k',b,rfl,hb⟩:=hall v iV
  have go:∀u∈rest,∃k' b,u=Value.ref b∧IK prog w s'.heap k' b:=fun u hu'=>hall u (iy _ hu')
  dsimp only
  split
  ·exact b9 ⟨rfl,rfl,go⟩
  ·refine a7 (wpAny_eqIsQuiet_tuple hk ?_)
   simp only[m8,iK,if_false]
   refine a7 (wpAny_eqIsQuiet_tuple hb ?_)
   simp only[m8,iK,if_false]
   refine a7 (OD hk ?_)
   simp only[iK,if_false]
   refine a7 (OD hb ?_)
   simp only[iK,if_false]
   exact b9 ⟨rfl,rfl,go⟩
 ·rintro⟨r1,r2⟩ s' ⟨hr,rfl,_⟩
  simp only at hr
  subst hr
  exact b9 h
end
local macro_rules | `(tactic| omega) => `(tactic| first | lia | omega)
open PySem PySem.SetTable PyProof.Rows
section
variable{prog:Program}{w:World}{A:iC}{E:Value→a9→Prop}{s:a9}
def Pb(xs:List (List Int×Addr))(prog:Program)(w:World):List (Int×Value):=xs.map fun p=> ((tk prog w).hash p.1,Value.ref p.2)
structure SetD(prog:Program)(w:World)(h:Heap)(a:Addr)(xs:List (List Int×Addr))(o:Obj)(es:Array (Int×Value))(ep:Nat)(t:jN):Prop where
 get:h.get? a=some o
 ex:o.ExactSet
 dat:o.data=.set es ep t
 es:es.toList=Pb xs prog w
 key:∀(i:Nat) (k:List Int) (x:Addr),xs[i]?=some (k,x)→IK prog w h k x
 nd:(xs.map (·.1)).Nodup
 tb:Tb t (xs.map fun p=> (tk prog w).hash p.1)
 pl:t.plain=true
 room:xs.length*5<t.mask*3
 led:t.led=!w.params.followText "set-order"
variable{a:Addr}{xs:List (List Int×Addr)}{o:Obj}{es:Array (Int×Value)}{ep:Nat}{t:jN}
theorem SetD.size(S:SetD prog w s.heap a xs o es ep t):es.size=xs.length:=by
 rw[←iq,S.es];simp[Pb]
theorem SetD.fits(S:SetD prog w s.heap a xs o es ep t):t.fits es.size=true:=by
 have h1:=S.tb.size
 have h2:=S.room
 have h3:t.fill=t.place.size:=by unfold qS;rw[S.tb.dum];rfl
 rw[c9] at h1
 unfold jN.fits
 rw[h3,S.size,h1]
 simp only[beq_self_eq_true,qY,decide_eq_true_eq]
 omega
theorem SetD.len(S:SetD prog w s.heap a xs o es ep t):(xs.map fun p=> (tk prog w).hash p.1).length≤t.mask:=by
 have:=S.room
 rw[c9];omega
theorem SetD.at(S:SetD prog w s.heap a xs o es ep t){i:Nat}{k:List Int}{x:Addr}(h:xs[i]?=some (k,x)):es[i]?=some ((tk prog w).hash k,.ref x):=by
 have:es[i]?=es.toList[i]?:=by simp
 rw[this,S.es,Pb,e7,h]
 rfl
theorem SetD.of_at(S:SetD prog w s.heap a xs o es ep t){i:Nat}(h:i<xs.length):∃k x,xs[i]?=some (k,x):=⟨_,_,by simp[h];rfl⟩
abbrev GV:Array (Int×Value)→Nat→Int:=PySem.W.hashAt
theorem SetD.hash(S:SetD prog w s.heap a xs o es ep t){i:Nat}{k:List Int}{x:Addr}(h:xs[i]?=some (k,x)):GV es i=(tk prog w).hash k:=by
 show((es[i]?).map kI).getD 0=_
 rw[S.at h]
 rfl
theorem LG(S:SetD prog w s.heap a xs o es ep t)(hu:A.units<cLine){k:List Int}{x:Addr}(hk:IK prog w s.heap k x){Q:SetFound→a9→Prop}
  (hT:∀(i:Nat) (y:Addr),xs[i]?=some (k,y)→Q (.there none) s)
  (hF:(∀(i:Nat) (y:Addr),xs[i]?≠some (k,y))→∀n,¬Kz t (advN t.mask n (start t.mask ((tk prog w).hash k))).j→(∀c,c<n→Kz t (advN t.mask c (start t.mask ((tk prog w).hash k))).j)→Q (.free (advN t.mask n (start t.mask ((tk prog w).hash k))).j false) s):
  ∀(fuel c:Nat) (stand:Option Probe),stand.getD (t.probeStart ((tk prog w).hash k))=advN t.mask c (start t.mask ((tk prog w).hash k))→
   (∀c',c'<c→Kz t (advN t.mask c' (start t.mask ((tk prog w).hash k))).j∧∀(i:Nat) (y:Addr),t.place[i]?=some (advN t.mask c' (start t.mask ((tk prog w).hash k))).j→xs[i]?≠some (k,y))→
   (∃N,c≤N∧¬Kz t (advN t.mask N (start t.mask ((tk prog w).hash k))).j∧N-c<fuel)→
   wpAny (model prog w) A (setSearchFrom a (.ref x) ((tk prog w).hash k) true fuel stand) Q E s:=by
 intro fuel
 induction fuel with
 |zero=>rintro c stand _ _ ⟨N,_,_,h⟩;exact absurd h (my _)
 |succ fuel ih=>
  rintro c stand hst hpre ⟨N,hcN,hN,hfu⟩
  have hsz:t.place.size=xs.length:=by have:=S.tb.size;rwa[c9] at this
  unfold setSearchFrom
  refine a7 (ki S.get S.dat S.fits ?_)
  dsimp only
  have hgw:t.gaveWay=false:=by unfold jN.gaveWay;rw[S.tb.odd];rfl
  rw[hgw]
  simp only[iK,if_false]
  obtain⟨n,hn,hstop⟩:=LB S.tb S.len (p:=advN t.mask c (start t.mask ((tk prog w).hash k))) (Pr.start _ _).advN (GV es) ((tk prog w).hash k)
  rw[hst]
  have hadd:∀m,advN t.mask m (advN t.mask c (start t.mask ((tk prog w).hash k)))=advN t.mask (c+m) (start t.mask ((tk prog w).hash k)):=fun m=> (CF _ _ _ _).symm
  have pre2:∀c',c'<c+n→Kz t (advN t.mask c' (start t.mask ((tk prog w).hash k))).j∧∀(i:Nat) (y:Addr),t.place[i]?=some (advN t.mask c' (start t.mask ((tk prog w).hash k))).j→xs[i]?≠some (k,y):=fun c' hc'=>by
   by_cases hlt:c'<c
   ·exact hpre c' hlt
   ·obtain⟨i,h1,h2⟩:=hn (c'-c) (by omega)
    rw[hadd,show c+(c'-c)=c' by omega] at h1
    refine⟨⟨i,h1⟩,fun i' y h1' e=>?_⟩
    have:i'=i:=by
     rw[←CD S.tb.ris h1',←CD S.tb.ris h1]
    subst this
    exact h2 (S.hash e)
  obtain⟨met,hmet⟩:∃met,t.probe (GV es) ((tk prog w).hash k) (advN t.mask c (start t.mask ((tk prog w).hash k)))=some met:=by
   rcases hstop with⟨_,hp⟩| ⟨_,_,_,hp⟩<;>exact⟨_,hp⟩
  split
  case h_2 heq=>exact absurd hmet (heq met)
  rename_i met' heq
  have heq:t.probe (GV es) ((tk prog w).hash k) (advN t.mask c (start t.mask ((tk prog w).hash k)))=some met':=heq
  rcases hstop with⟨hf,hp⟩| ⟨i,h1,h2,hp⟩
  ·rw[hp] at heq
   cases heq
   dsimp only
   rw[EY]
   show wpAny _ _ (pure _) _ _ s
   rw[hadd] at hf ⊢
   refine b9 (hF (fun i y e=>?_) (c+n) hf fun c' hc'=> (pre2 c' hc').1)
   have hi:i<xs.length:=(ie.mp e).1
   have hpl:t.place[i]?=some (t.place[i]'(by omega)):=by simp[show i<t.place.size by omega]
   obtain⟨n',e1,w1⟩:=S.tb.fnd i _ ((tk prog w).hash k) hpl (by rw[e7,e];rfl)
   by_cases hlt:n'<c+n
   ·exact(pre2 n' hlt).2 i y (by rw[e1];exact hpl) e
   ·by_cases heq:n'=c+n
    ·subst heq
     exact hf ⟨i,by rw[e1];exact hpl⟩
    ·exact hf (w1 (c+n) (by omega))
  ·rw[hp] at heq
   cases heq
   dsimp only
   rw[hadd] at h1
   have hi:i<xs.length:=by rw[←hsz];exact(jw.mp h1).1
   obtain⟨k',y,ek⟩:=S.of_at hi
   have hky:=S.key i k' y ek
   have seen:∀v,v∈(es.filter fun e=>e.1==(tk prog w).hash k).toList.map (·.2)→∃k' b,v=Value.ref b∧IK prog w s.heap k' b:=fun v hv=>by
    obtain⟨⟨h',v'⟩,hm,rfl⟩:=ig.mp hv
    have hm:(h',v')∈es.toList:=by
     have:=hm
     simp only[Array.toList_filter] at this
     exact(iX.mp this).1
    rw[S.es,Pb] at hm
    obtain⟨⟨k2,b⟩,hb,eb⟩:=ig.mp hm
    cases eb
    obtain⟨j,hj⟩:=jm hb
    exact⟨k2,b,rfl,S.key j k2 b hj⟩
   cases hled:t.led with
   |true=>
    simp only[m8,iK,if_false]
    rw[S.at ek]
    dsimp only
    refine a7 (je (wpAny_eqBool_tuple hu hky hk ?_))
    refine a7 (ki S.get S.dat S.fits ?_)
    dsimp only
    by_cases hkk:k'=k
    ·subst hkk
     rw[decide_eq_true rfl]
     exact b9 (hT i y ek)
    ·rw[decide_eq_false hkk]
     have hsm:t.sameMemory t.moves t.mask=some true:=by unfold jN.sameMemory;rw[if_pos (by simp)]
     rw[hsm]
     simp only[qG,iK,if_false,if_true]
     rw[hadd,S.tb.live h1]
     dsimp only
     rw[S.at ek]
     dsimp only
     have hss:isSame (Value.ref y) (Value.ref y)=pure true:=by
      show(if(y==y)=true then _ else _)=_
      rw[if_pos (beq_self_eq_true y)]
     rw[hss]
     refine a7 (b9 ?_)
     simp only[if_true]
     refine a7 (b9 ?_)
     dsimp only
     rw[hadd]
     refine ih (c+n+1) _ rfl (fun c' hc'=>?_) ?_
     ·by_cases hlt:c'<c+n
      ·exact pre2 c' hlt
      ·have:c'=c+n:=by omega
       subst this
       refine⟨⟨i,h1⟩,fun i' y' h1' e=>?_⟩
       have:i'=i:=by
        rw[←CD S.tb.ris h1',←CD S.tb.ris h1]
       subst this
       rw[ek] at e
       exact hkk (congrArg kI (i8.inj e))
     ·have hle:c+n<N:=by
       rcases lR (c+n) N with hlt|heq|hgt
       ·exact hlt
       ·exact absurd ⟨i,by rw[←heq];exact h1⟩ hN
       ·exact absurd (pre2 N hgt).1 hN
      exact⟨N,by omega,hN,by omega⟩
   |false=>
    simp only[qF,if_true]
    refine a7 (Uc hk seen ?_)
    simp only[iK,if_false]
    rw[S.at ek]
    dsimp only
    refine a7 (je (wpAny_eqBool_tuple hu hky hk ?_))
    refine a7 (ki S.get S.dat S.fits ?_)
    dsimp only
    by_cases hkk:k'=k
    ·subst hkk
     rw[decide_eq_true rfl]
     exact b9 (hT i y ek)
    ·rw[decide_eq_false hkk]
     have hsm:t.sameMemory t.moves t.mask=some true:=by unfold jN.sameMemory;rw[if_pos (by simp)]
     rw[hsm]
     simp only[qG,iK,if_false,if_true]
     rw[hadd,S.tb.live h1]
     dsimp only
     rw[S.at ek]
     dsimp only
     have hss:isSame (Value.ref y) (Value.ref y)=pure true:=by
      show(if(y==y)=true then _ else _)=_
      rw[if_pos (beq_self_eq_true y)]
     rw[hss]
     refine a7 (b9 ?_)
     simp only[if_true]
     refine a7 (b9 ?_)
     dsimp only
     rw[hadd]
     refine ih (c+n+1) _ rfl (fun c' hc'=>?_) ?_
     ·by_cases hlt:c'<c+n
      ·exact pre2 c' hlt
      ·have:c'=c+n:=by omega
       subst this
       refine⟨⟨i,h1⟩,fun i' y' h1' e=>?_⟩
       have:i'=i:=by
        rw[←CD S.tb.ris h1',←CD S.tb.ris h1]
       subst this
       rw[ek] at e
       exact hkk (congrArg kI (i8.inj e))
     ·have hle:c+n<N:=by
       rcases lR (c+n) N with hlt|heq|hgt
       ·exact hlt
       ·exact absurd ⟨i,by rw[←heq];exact h1⟩ hN
       ·exact absurd (pre2 N hgt).1 hN
      exact⟨N,by omega,hN,by omega⟩
end
end StT
namespace StT
local macro_rules | `(tactic| omega) => `(tactic| first | lia | omega)
open PySem PySem.SetTable PyProof.Rows
section
variable{prog:Program}{w:World}{A:iC}{E:Value→a9→Prop}{s:a9}
variable{a:Addr}{xs:List (List Int×Addr)}{o:Obj}{es:Array (Int×Value)}{ep:Nat}{t:jN}
def SetX(prog:Program)(w:World)(h:Heap)(a:Addr)(xs:List (List Int×Addr)):Prop:=∃o es ep t,SetD prog w h a xs o es ep t
theorem Qz{h:Heap}{k:List Int}{x:Addr}(hk:IK prog w h k x)(hg:h.get? a=some o)(he:o.ExactSet):x≠a:=by
 rintro rfl
 obtain⟨o',items,n,ho,hc,_⟩:=hk
 rw[hg] at ho
 cases ho
 rw[he.1] at hc
 exact absurd hc (by decide)
theorem DD{h h':Heap}{k:List Int}{x:Addr}(hk:IK prog w h k x)(hs:∀u,h.get? x=some u→h'.get? x=some u):IK prog w h' k x:=by
 obtain⟨o',items,n,ho,hc,hd,hi⟩:=hk
 exact⟨o',items,n,hs _ ho,hc,hd,hi⟩
theorem Io(hg:s.heap.get? a=some o)(hd:o.data=.set es ep t)(es':Array (Int×Value))(t':jN):(s.heap.update a (oP es' t')).get? a=some {o with data:=.set es' (ep+1) t'}:=by
 have:=lJ (oP es' t') hg (by rw[putSet_of es' t' hd];rfl)
 rw[putSet_of es' t' hd] at this;exact this
theorem Mj:(Pb xs prog w).length=xs.length:=by simp[Pb]
theorem RA{n:Nat}(hg:s.heap.get? a=some o)(he:o.ExactSet)(hd:o.data=.set es ep t)(hes:es.toList=Pb xs prog w)(hkey:∀(i:Nat) (k:List Int) (x:Addr),xs[i]?=some (k,x)→IK prog w s.heap k x)
  (hnd:(xs.map (·.1)).Nodup) (htb:Tb t (xs.map fun p=> (tk prog w).hash p.1)) (hpl:t.plain=true) (hled:t.led=!w.params.followText "set-order") (hn:xs.length=n+1) (h1:n*5<t.mask*3) (h2:t.mask*3≤(n+1)*5) (h3:n<300) {Q:Unit→a9→Prop}
  (h:∀h' xs',kO a s.heap h'→SetX prog w h' a xs'→(∀p,p∈xs'↔p∈xs)→xs'.length=xs.length→Q () {s with heap:=h'}):wpAny (model prog w) A (setRelay a (grown (n+1))) Q E s:=by
 obtain⟨m1,m2,m3,m4⟩:=Pa htb.mask h1 h2 h3
 have hsz:es.size=n+1:=by rw[←iq,hes,Mj,hn]
 have hfill:t.fill=t.place.size:=by unfold qS;rw[htb.dum];rfl
 have hps:t.place.size=n+1:=by have:=htb.size;rw[c9,hn] at this;exact this
 have hlow:=htb.low
 have hfit:t.fits es.size=true:=by
  unfold jN.fits
  rw[hfill,hsz,hps]
  simp only[beq_self_eq_true,qY,decide_eq_true_eq]
  omega
 unfold setRelay
 refine a7 (ki hg hd hfit ?_)
 dsimp only
 rw[if_neg (by rw[jC];omega)]
 refine a7 ?_
 obtain⟨t',order,el,q1,q2,q3,q4,q5,q6,q7,q8,q9⟩:=Ub m1 (es.map (·.1)) (by rw[Array.size_map,hsz];omega) t.finger (t.movedTo (qI (grown (n+1))-1)) t.led t.plain
 rw[Array.size_map] at q5 q6 q8
 have el':t.relaid (es.map (·.1)) (grown (n+1))=some (t',order):=el
 rw[el']
 have hfm:(order.filterMap (es[·]?)).toList=order.toList.filterMap fun r=>es[r]?:=by simp
 have hmem:∀r∈order.toList,r<es.size:=fun r hr=>by
  obtain⟨i,hi⟩:=jm hr
  exact q6 i r (by simpa using hi)
 have hes':(order.filterMap (es[·]?)).size=es.size:=by
  rw[←iq,hfm,Ca es _ hmem,iq,q5]
 show wpAny _ _ (if((order.filterMap fun r=>es[r]?).size !=es.size)=true then _ else pure (order.filterMap fun r=>es[r]?,t')) _ _ s
 rw[if_neg (by rw[hes'];simp)]
 refine b9 ?_
 dsimp only
 refine wpAny_storeSet_of hg hd ?_ (by rw[hes',hsz,jC];omega)
 generalize hE:order.filterMap (es[·]?)=es' at*
 have hxs:∀r,r<es.size→∃p,xs[r]?=some p:=fun r hr=> ⟨_,by simp[show r<xs.length by rw[hn];omega];rfl⟩
 have hfx:(order.toList.filterMap fun r=>xs[r]?).length=es.size:=by
  have:=Ca xs.toArray order.toList (fun r hr=>by rw[iu,hn];have:=hmem r hr;omega)
  simp only[List.getElem?_toArray] at this
  rw[this,iq,q5]
 have at_:∀i:Nat,(order.toList.filterMap fun r=>xs[r]?)[i]?=(order.toList[i]?).bind fun r=>xs[r]?:=fun i=>by
  have:=DC xs.toArray order.toList (fun r hr=>by rw[iu,hn];have:=hmem r hr;omega) i
  simpa only[List.getElem?_toArray] using this
 have mem:∀p,p∈(order.toList.filterMap fun r=>xs[r]?)↔p∈xs:=fun p=>by
  rw[k6]
  constructor
  ·rintro⟨r,_,e⟩;exact hZ e
  ·intro hp
   obtain⟨r,hr⟩:=jm hp
   have hrl:r<es.size:=by rw[hsz,←hn];exact(ie.mp hr).1
   obtain⟨i,hi⟩:=q8 r hrl
   exact⟨r,hZ (i:=i) (by simpa using hi),hr⟩
 have hesx:∀i:Nat,es[i]?=(xs[i]?).map fun p=> ((tk prog w).hash p.1,Value.ref p.2):=fun i=>by
  have:es[i]?=es.toList[i]?:=by simp
  rw[this,hes,Pb,e7]
 refine h _ (order.toList.filterMap fun r=>xs[r]?) (md ..) ⟨_,es',ep+1,t',⟨Io hg hd es' t',he,rfl,?_,fun i k x e=>?_,?_,?_,?_,?_,?_⟩⟩ mem (by rw[hfx,hsz,hn])
 ·apply jy
  intro i
  rw[hfm,DC es _ hmem,Pb,e7,at_]
  cases order.toList[i]? with
  |none=>rfl
  |some r=>exact hesx r
 ·have hp:(k,x)∈xs:=(mem _).mp (hZ e)
  obtain⟨r,hr⟩:=jm hp
  have ik:=hkey r k x hr
  exact DD ik fun u hu=> ((md s.heap a (oP es' t')).2 x (Qz ik hg he)).trans hu
 ·rw[iF]
  refine jn.mpr fun i j hi hj hij e=>?_
  rw[c9] at hi hj
  have e1:=at_ i
  have e2:=at_ j
  rw[b6 hi] at e1
  rw[b6 hj] at e2
  rw[nS,nS] at e
  cases r1:order.toList[i]? with
  |none=>rw[r1] at e1;cases e1
  |some r=>
   cases r2:order.toList[j]? with
   |none=>rw[r2] at e2;cases e2
   |some r'=>
    rw[r1] at e1
    rw[r2] at e2
    have e1:xs[r]?=some _:=e1.symm
    have e2:xs[r']?=some _:=e2.symm
    obtain⟨l1,g1⟩:=ie.mp e1
    obtain⟨l2,g2⟩:=ie.mp e2
    have ee:(xs.map (·.1))[r]'(by simpa using l1)=(xs.map (·.1))[r']'(by simpa using l2):=by rw[nS,nS,g1,g2];exact e
    have nd:=iF.mp hnd
    have:r=r':=by
     rcases lR r r' with hlt|heq|hgt
     ·exact absurd ee (jn.mp nd r r' _ _ hlt)
     ·exact heq
     ·exact absurd ee.symm (jn.mp nd r' r _ _ hgt)
    subst this
    have:=q7 i j r (by simpa using r1) (by simpa using r2)
    omega
 ·have:(order.toList.filterMap fun r=>xs[r]?).map (fun p=> (tk prog w).hash p.1)=order.toList.map fun r=> (es.map (·.1)).getD r 0:=by
   apply jy
   intro i
   rw[e7,at_,e7]
   cases hr:order.toList[i]? with
   |none=>rfl
   |some r=>
    have hrl:=hmem r (hZ hr)
    obtain⟨p,hp⟩:=hxs r hrl
    show(xs[r]?).map _=some ((es.map (·.1)).getD r 0)
    rw[hp]
    have e3:=hesx r
    rw[hp] at e3
    obtain⟨l,g⟩:=jw.mp e3
    simp[oW,hrl,g]
  rw[this]
  exact q9
 ·rw[q3];exact hpl
 ·rw[hfx,hsz,q1];exact m3
 ·rw[q2];exact hled
end
end StT
namespace StT
local macro_rules | `(tactic| omega) => `(tactic| first | lia | omega)
open PySem PySem.SetTable PyProof.Rows
section
variable{prog:Program}{w:World}{A:iC}{E:Value→a9→Prop}{s:a9}
variable{a:Addr}{xs:List (List Int×Addr)}{o:Obj}{es:Array (Int×Value)}{ep:Nat}{t:jN}
theorem Xx(S:SetX prog w s.heap a xs)(hu:A.units<cLine){k:List Int}{x:Addr}(hk:IK prog w s.heap k x)(hl:xs.length<300){Q:Bool→a9→Prop}
  (hT:∀y,(k,y)∈xs→Q false s)
  (hF:(∀y,(k,y)∉xs)→∀h' xs',kO a s.heap h'→SetX prog w h' a xs'→(∀p,p∈xs'↔p∈xs∨p=(k,x))→xs'.length=xs.length+1→Q true {s with heap:=h'}):
  wpAny (model prog w) A (setAddHashed a (.ref x) ((tk prog w).hash k)) Q E s:=by
 obtain⟨o,es,ep,t,S⟩:=S
 unfold setAddHashed setAddHashedIn
 refine je (a7 (ki S.get S.dat S.fits ?_))
 dsimp only
 have hbs:byScan (.ref x) es=false:=rfl
 rw[hbs]
 simp only[iK,if_false]
 obtain⟨e,he,hne⟩:=S.tb.room S.len
 obtain⟨N,hN,eN⟩:=WX S.tb.mask (Pr.start t.mask ((tk prog w).hash k)) he
 have hm511:t.mask≤511:=by rcases S.tb.mask with h|h|h|h<;>omega
 refine a7 (LG S hu hk (fun i y e=>?_) (fun hno n hf hw=>?_) 100000 0 none (Qw t _) (fun c hc=>absurd hc (my _)) ⟨N,jl _,by rw[eN];exact hne,by omega⟩)
 ·dsimp only
  exact b9 (hT y (hZ e))
 ·dsimp only
  refine a7 (ki S.get S.dat S.fits ?_)
  dsimp only
  obtain⟨p1,p2,p3,p4,p5,p6⟩:=S.tb.put hf hw
  generalize hJ:(advN t.mask n (start t.mask ((tk prog w).hash k))).j=J at*
  generalize hput:t.put J=tp at*
  obtain⟨t1,q⟩:=tp
  dsimp only at p1 p2 p3 p4 p5 p6 ⊢
  rw[c9] at p2
  rw[p4,S.pl]
  simp only[if_true]
  refine a7 (ak hk ?_)
  simp only[if_true]
  refine a7 (wpAny_storeSet_of S.get S.dat ?_ (by
   rw[EV _ _ _ (by rw[S.size];exact p2),S.size,jC];omega))
  have hes1:(kW es q ((tk prog w).hash k,.ref x)).toList=Pb (xs.take q++(k,x)::xs.drop q) prog w:=by
   rw[BX,S.es]
   simp[Pb]
  have hmem:∀p,p∈xs.take q++(k,x)::xs.drop q↔p∈xs∨p=(k,x):=fun p=>by
   rw[iO,ic]
   constructor
   ·rintro(h|h|h)
    ·exact .inl (n9 h)
    ·exact .inr h
    ·exact .inl (List.mem_of_mem_drop h)
   ·rintro(h|h)
    ·rw[←jq q xs] at h
     rcases iO.mp h with h|h
     ·exact .inl h
     ·exact .inr (.inr h)
    ·exact .inr (.inl h)
  have hlen:(xs.take q++(k,x)::xs.drop q).length=xs.length+1:=by
   rw[iB,iw,iH,jx];omega
  have hnod:((xs.take q++(k,x)::xs.drop q).map (·.1)).Nodup:=by
   have hxs:(xs.take q).map (·.1)++(xs.drop q).map (·.1)=xs.map (·.1):=by rw[←iU,jq]
   have nd:=S.nd
   rw[←hxs] at nd
   rw[iU,iN]
   have hkn:k∉(xs.take q).map (·.1)++(xs.drop q).map (·.1):=by
    rw[hxs]
    intro hm
    obtain⟨⟨k',y⟩,hp,rfl⟩:=ig.mp hm
    obtain⟨i,hi⟩:=jm hp
    exact hno i y hi
   rw[iO,not_or] at hkn
   obtain⟨n1,n2,n3⟩:=jd.mp nd
   refine jd.mpr ⟨n1,iT.mpr ⟨hkn.2,n2⟩,fun b hb c hc=>?_⟩
   rcases ic.mp hc with rfl|hc
   ·rintro rfl;exact hkn.1 hb
   ·exact n3 b hb c hc
  have hsb:=md s.heap a (oP (kW es q ((tk prog w).hash k,.ref x)) t1)
  have hg1:=Io (s:=s) S.get S.dat (kW es q ((tk prog w).hash k,.ref x)) t1
  have hkey1:∀(i:Nat) (k':List Int) (x':Addr),(xs.take q++(k,x)::xs.drop q)[i]?=some (k',x')→IK prog w (s.heap.update a (oP (kW es q ((tk prog w).hash k,.ref x)) t1)) k' x':=fun i k' x' e=>by
   have ik:IK prog w s.heap k' x':=by
    rcases(hmem _).mp (hZ e) with h|h
    ·obtain⟨j,hj⟩:=jm h
     exact S.key j k' x' hj
    ·cases h;exact hk
   exact DD ik fun u hu=> (hsb.2 x' (Qz ik S.get S.ex)).trans hu
  have htb1:Tb t1 ((xs.take q++(k,x)::xs.drop q).map fun p=> (tk prog w).hash p.1):=by
   simpa using p1
  have hno':∀y,(k,y)∉xs:=fun y hy=>by
   obtain⟨i,hi⟩:=jm hy
   exact hno i y hi
  have hfill:t1.fill=xs.length+1:=by
   unfold qS
   rw[htb1.dum]
   have:=htb1.size
   rw[c9,hlen] at this
   rw[this];rfl
  have hroom:=S.room
  simp only[qF,qY]
  cases htf:t1.tooFull with
  |true=>
   simp only[if_true]
   have htf':t1.mask*3≤(xs.length+1)*5:=by
    unfold jN.tooFull at htf
    rw[hfill] at htf
    simpa using htf
   rw[S.size]
   refine a7 (RA (s:={s with heap:=s.heap.update a (oP (kW es q ((tk prog w).hash k,.ref x)) t1)}) hg1 S.ex rfl hes1 hkey1 hnod htb1 (by rw[p4];exact S.pl) (by rw[p5];exact S.led) hlen (by rw[p3];exact hroom) htf' hl fun h' xs' sb sx mm ll=>?_)
   refine b9 (hF hno' h' xs' (hsb.trans sb) sx (fun p=> (mm p).trans (hmem p)) (ll.trans hlen))
  |false=>
   simp only[iK,if_false]
   refine b9 (hF hno' _ _ hsb ⟨_,_,_,t1,hg1,S.ex,rfl,hes1,hkey1,hnod,htb1,by rw[p4];exact S.pl,?_,by rw[p5];exact S.led⟩ hmem hlen)
   unfold jN.tooFull at htf
   rw[hfill] at htf
   rw[hlen]
   simpa using htf
def Jm(ks:List (List Int×Addr))(xs:List (List Int×Addr)):Prop:=(∀p,p∈xs→p∈ks)∧(∀k y,(k,y)∈ks→∃y',(k,y')∈xs)∧xs.length≤ks.length
theorem SetX.keep'{h h':Heap}(S:SetX prog w h a xs)(ha:∀u,h.get? a=some u→h'.get? a=some u)(hk:∀k x,(k,x)∈xs→∀u,h.get? x=some u→h'.get? x=some u):SetX prog w h' a xs:=by
 obtain⟨o,es,ep,t,S⟩:=S
 exact⟨o,es,ep,t,ha _ S.get,S.ex,S.dat,S.es,fun i k x e=>DD (S.key i k x e) (hk k x (hZ e)),S.nd,S.tb,S.pl,S.room,S.led⟩
theorem Ud{I l:Addr}{items:Array Value}{ps:List (List Int×Addr)}(hh:A.in1.handled=none)(hne:l≠I)(hI:a≠I)(hla:a≠l)(hps:items.toList=ps.map fun p=>Value.ref p.2)(hz:ps.length≤300)(hu:A.units+1<cLine)
  {R:rX→a9→Prop}:∀(n i:Nat) (s:a9) (xs:List (List Int×Addr)),n=ps.length-i→i≤ps.length→s.heap.IsListIter I l i→s.heap.IsList l items→(∀k x,(k,x)∈ps→IK prog w s.heap k x∧x≠I)→SetX prog w s.heap a xs→Jm (ps.take i) xs→
   (∀h' tk' xs',(∀b u,b≠a→b≠I→s.heap.get? b=some u→h'.get? b=some u)→SetX prog w h' a xs'→Jm ps xs'→R (.ok (.ret .none)) {s with heap:=h',toks:=tk'})→
   mQ (model prog w) A (.builtin "set.update.loop" ⟨[.ref a,.ref I],[]⟩) R s:=by
 have W:=Walks.list (A:=A.in1) (prog:=prog) (w:=w) hh I l hne items
 have hsz:items.size=ps.length:=by rw[←iq,hps,c9]
 intro n
 induction n with
 |zero=>
  intro i s xs hn hi hit hl hp hX hS hR
  have:i=ps.length:=by omega
  subst this
  rw[jj] at hS
  refine ly PyProof.Rows.F.entry_set_update_loop ?_
  rw[lh ky _]
  show wpAny _ A.in1 (nh (.ref I)>>=_) _ _ s
  refine a7 (wpAny_pyNext_list_end hh hit hl (by simp[hsz]) fun h' hk=>?_)
  show wpAny _ A.in1 (ret kZ) _ _ _
  refine b9 (hR h' s.toks xs (fun b u _ hb e=>hk b u hb e) (hX.keep' (fun u e=>hk a u hI e) fun k x hx u e=>hk x u (hp k x (hS.1 _ hx)).2 e) hS)
 |succ n ih=>
  intro i s xs hn hi hit hl hp hX hS hR
  have hlt:i<ps.length:=by omega
  obtain⟨⟨k,x⟩,hkx⟩:∃p,ps[i]?=some p:=⟨_,by simp[hlt];rfl⟩
  have hitem:items[i]?=some (.ref x):=by
   have:items[i]?=items.toList[i]?:=by simp
   rw[this,hps,e7,hkx];rfl
  refine ly PyProof.Rows.F.entry_set_update_loop ?_
  rw[lh ky _]
  show wpAny _ A.in1 (nh (.ref I)>>=_) _ _ s
  refine a7 (wpAny_pyNext_list_item hit hl hitem fun h1 hit1 sb1=>?_)
  have hk1:∀b u,b≠I→s.heap.get? b=some u→h1.get? b=some u:=fun b u hb e=> (sb1.2 b hb).trans e
  have kx:=hp k x (hZ hkx)
  have hX1:SetX prog w h1 a xs:=hX.keep' (fun u e=>hk1 a u hI e) fun k x hx u e=>hk1 x u (hp k x (n9 (hS.1 _ hx))).2 e
  have ik1:∀k x,(k,x)∈ps→IK prog w h1 k x∧x≠I:=fun k x hx=> ⟨DD (hp k x hx).1 fun u e=>hk1 x u (hp k x hx).2 e,(hp k x hx).2⟩
  have hl1:h1.IsList l items:=hl.at fun o e=>hk1 l o hne e
  show wpAny _ A.in1 (holding [Value.ref x] (setAdd a (.ref x))>>=_) _ _ _
  refine a7 (je ?_)
  unfold setAdd
  refine je ?_
  refine a7 ((tk prog w).pyHash (s:={s with heap:=h1}) hu (ik1 k x (hZ hkx)).1 ?_)
  have htake:ps.take (i+1)=ps.take i++[(k,x)]:=by rw[jt,hkx];rfl
  have hlen:xs.length≤i:=by have:=hS.2.2;rw[iH] at this;omega
  refine Xx (s:={s with heap:=h1,toks:=s.toks+(tk prog w).draws k}) hX1 hu (ik1 k x (hZ hkx)).1 (by omega) (fun y hy=>?_) (fun hno h2 xs' sb sx mm ll=>?_)
  ·refine b9 ⟨mB ky _,ih (i+1) _ xs (by omega) (by omega) hit1 hl1 ik1 hX1 ⟨fun p hp'=>by rw[htake];exact kK _ (hS.1 p hp'),fun k' y' hm=>?_,by rw[htake,iB];have:=hS.2.2;omega⟩ fun h' tk' xs' kp sx so=>hR h' tk' xs' (fun b u h1' h2' e=>kp b u h1' h2' (hk1 b u h2' e)) sx so⟩
   rw[htake] at hm
   rcases iO.mp hm with hm|hm
   ·exact hS.2.1 k' y' hm
   ·cases e9.mp hm
    exact⟨y,hy⟩
  ·have keep2:∀b u,b≠a→h1.get? b=some u→h2.get? b=some u:=fun b u hb e=> (sb.2 b hb).trans e
   have nea:∀k x,(k,x)∈ps→x≠a:=fun k x hx=>by
    obtain⟨o,es,ep,t,S⟩:=hX1
    exact Qz (ik1 k x hx).1 S.get S.ex
   refine b9 ⟨mB ky _,ih (i+1) {s with heap:=h2,toks:=s.toks+(tk prog w).draws k} xs' (by omega) (by omega) (hit1.at fun o e=>keep2 I o (Ne.symm hI) e) (hl1.at fun o e=>keep2 l o (Ne.symm hla) e)
    (fun k x hx=> ⟨DD (ik1 k x hx).1 fun u e=>keep2 x u (nea k x hx) e,(hp k x hx).2⟩) sx ⟨fun p hp'=>?_,fun k' y' hm=>?_,by rw[htake,iB,ll];have:=hS.2.2;simp;omega⟩ fun h' tk' xs2 kp sx so=>hR h' tk' xs2 (fun b u h1' h2' e=>kp b u h1' h2' (keep2 b u h1' (hk1 b u h2' e))) sx so⟩
   ·rw[htake]
    rcases(mm p).mp hp' with h|h
    ·exact kK _ (hS.1 p h)
    ·exact jr _ (e9.mpr h)
   ·rw[htake] at hm
    rcases iO.mp hm with hm|hm
    ·obtain⟨y2,hy2⟩:=hS.2.1 k' y' hm
     exact⟨y2,(mm _).mpr (.inl hy2)⟩
    ·cases e9.mp hm
     exact⟨x,(mm _).mpr (.inr rfl)⟩
end
end StT
namespace StT
open PySem PySem.SetTable PyProof.Rows
theorem As:Slot "set_iterator" "__next__" "set_iterator.__next__" :=
 .of (owner:="set_iterator") (n:="__next__") (by rw[typeLookup_type,builtinLookup_eq_fast];kernel_rfl) (by decide+kernel) (by decide+kernel) (by decide+kernel)
  (by first|exact .inl (by decide+kernel)|exact .inr (by decide+kernel)) (by rw[nC];kernel_rfl)
theorem DQ:Slot "set_iterator" "__iter__" "set_iterator.__iter__" :=
 .of (owner:="set_iterator") (n:="__iter__") (by rw[typeLookup_type,builtinLookup_eq_fast];kernel_rfl) (by decide+kernel) (by decide+kernel) (by decide+kernel)
  (by first|exact .inl (by decide+kernel)|exact .inr (by decide+kernel)) (by rw[nC];kernel_rfl)
theorem Cn:entryFor table "set_iterator.__next__" =some Builtin.«set_iterator.__next__»:=entryFor_of_tree (by kernel_rfl)
theorem Fe:entryFor table "set_iterator.__iter__" =some Builtin.«dict_keyiterator.__iter__»:=
 entryFor_alias (id':="dict_keyiterator.__iter__") (by kernel_rfl) (by first|rfl|decide+kernel| (unfold String.splitOn;simp+decide [String.splitOnAux])) (by decide+kernel) (by kernel_rfl)
theorem HP:entryFor table "set.__iter__" =some Builtin.«frozenset.__iter__»:=
 entryFor_alias (id':="frozenset.__iter__") (by kernel_rfl) (by first|rfl|decide+kernel| (unfold String.splitOn;simp+decide [String.splitOnAux])) (by decide+kernel) (by kernel_rfl)
theorem GA:Manifest.owners.lookup (String.ofList ['r','o','t','a','r','e','t','i','_','t','e','s'].reverse)=some Manifest.sig_set_iterator:=by kernel_rfl
theorem DR(a:Value):argsOk "set_iterator.__next__" ⟨[a],[]⟩:=by
 unfold argsOk;rw[signature?_of (id:="set_iterator.__next__") (n:=['_','_','t','x','e','n','_','_']) (o:=['r','o','t','a','r','e','t','i','_','t','e','s']) (by kernel_rfl) GA];kernel_rfl
theorem GN(a:Value):argsOk "set_iterator.__iter__" ⟨[a],[]⟩:=by
 unfold argsOk;rw[signature?_of (id:="set_iterator.__iter__") (n:=['_','_','r','e','t','i','_','_']) (o:=['r','o','t','a','r','e','t','i','_','t','e','s']) (by kernel_rfl) GA];kernel_rfl
theorem OE{α:Type}:∀(l:List α) (i:Nat) (h:i<l.length),(l[i]::l.eraseIdx i).Perm l
 |x::l,0,_=>lM.refl _
 |x::l,i+1,h=>by
  have ih:=OE l i (by simpa using h)
  simp only[List.getElem_cons_succ,List.eraseIdx_cons_succ]
  exact(lM.swap _ _ _).trans (ih.cons x)
theorem OF{α:Type}(next:Nat→Nat):∀(n k:Nat) (left:List α) (out:Array α),left.length=n→(rA next n k left out).toList.Perm (out.toList++left)
 |0,k,left,out,h=>by
  have:left=[]:=mh.mp h
  subst this
  simp[rA]
 |n+1,k,left,out,h=>by
  have hlt:next k%left.length<left.length:=rm _ (by omega)
  have e:left[next k%left.length]?=some left[next k%left.length]:=by simp[hlt]
  rw[rA,e]
  have ih:=OF next n (k+1) (left.eraseIdx (next k%left.length)) (out.push left[next k%left.length]) (by rw[List.length_eraseIdx_of_lt hlt];omega)
  refine ih.trans ?_
  rw[lV,jR]
  exact lM.append_left _ (OE left _ hlt)
theorem Pc{α:Type}(next:Nat→Nat)(xs:Array α):(oF next xs).toList.Perm xs.toList:=by
 have:=OF next xs.size 0 xs.toList #[] (by simp)
 simp only[List.nil_append] at this
 exact this
def EZ(w:World)(a:Addr)(ep:Nat)(es:Array (Int×Value)):Array (Int×Value):=if w.params.followText "set-order" =true then oF (w.params.setOrder a ep) es else es
theorem Ip(w:World)(a:Addr)(ep:Nat)(es:Array (Int×Value)):(EZ w a ep es).toList.Perm es.toList:=by
 unfold EZ
 split
 ·exact Pc _ _
 ·exact lM.refl _
theorem Ff(w:World)(a:Addr)(ep:Nat)(es:Array (Int×Value)):(EZ w a ep es).size=es.size:=by
 rw[←iq,←iq];exact(Ip w a ep es).length_eq
theorem Mk{xs:Array Nat}(r:Qv xs){i:Nat}(hi:i≤xs.size){slot:Nat}(hs:(i=0∧slot=0)∨(0<i∧∃j,xs[i-1]?=some j∧slot=j+1)):below xs slot=i:=by
 obtain⟨b1,b2,b3⟩:=DB (j:=slot) r
 rcases hs with⟨rfl,rfl⟩| ⟨h0,j,hj,rfl⟩
 ·apply kv
  intro hne
  have h0:0<xs.size:=by omega
  have:=b2 0 xs[0] (by omega) (by simp[h0])
  omega
 ·have hlt:i-1<xs.size:=(jw.mp hj).1
  rcases lR (below xs (j+1)) i with hl|he|hg
  ·have hx:xs[below xs (j+1)]?=some xs[below xs (j+1)]:=by simp[show below xs (j+1)<xs.size by omega]
   have h1:=b3 _ _ (hC _) hx
   by_cases hq:below xs (j+1)=i-1
   ·have hx2:xs[below xs (j+1)]?=some j:=by rw[hq];exact hj
    have:=i8.inj (hx.symm.trans hx2)
    omega
   ·have:=HH r hx hj (by omega)
    omega
  ·exact he
  ·have hx:xs[i]?=some xs[i]:=by simp[show i<xs.size by omega]
   have h1:=b2 i _ hg hx
   have:=HH r hj hx (by omega)
   omega
section
variable{prog:Program}{w:World}{A:iC}{E:Value→a9→Prop}{s:a9}
variable{a:Addr}{xs:List (List Int×Addr)}{o:Obj}{es:Array (Int×Value)}{ep:Nat}{t:jN}
def Co(w:World)(h:Heap)(I a:Addr)(t:jN)(ep n i:Nat):Prop:=∃slot:Nat,h.get? I=some {cls:=.type "set_iterator",dict:=none,data:=.fields #[nB slot,nB i,.ref a,nB n,nB ep],slots:=#[]}∧
 (w.params.followText "set-order" =false→(i=0∧slot=0)∨(0<i∧∃j,t.place[i-1]?=some j∧slot=j+1))
theorem HQ(hg:s.heap.get? a=some o)(hd:o.data=.set es ep t)(hf:t.fits es.size=true)(hr:Qv t.place)(hpl:t.plain=true)(hled:t.led=!w.params.followText "set-order"){i slot:Nat}(hi:i≤es.size)
  (hs:w.params.followText "set-order" =false→(i=0∧slot=0)∨(0<i∧∃j,t.place[i-1]?=some j∧slot=j+1)) {Q:Option (Value×Nat)→a9→Prop}
  (hsome:∀e slot',(EZ w a ep es)[i]?=some e→(w.params.followText "set-order" =false→∃j,t.place[i]?=some j∧slot'=j+1)→Q (some (e.2,slot')) s) (hnone:i=es.size→Q none s):wpAny (model prog w) A (setNext a slot i ep) Q E s:=by
 have hps:t.place.size=es.size:=by
  simp only[jN.fits,ko,beq_iff_eq] at hf
  exact hf.1
 have ask:∀{R:Bool→a9→Prop},R (w.params.followText "set-order") s→wpAny (model prog w) A setsByText R E s:=fun h=>a7 (nN (b9 h))
 unfold setNext
 refine a7 (ki hg hd hf ?_)
 dsimp only
 refine a7 (ask ?_)
 cases hb:w.params.followText "set-order" with
 |true=>
  simp only[if_true]
  rw[if_neg (by simp)]
  refine a7 ?_
  unfold setWalk
  refine a7 (ki hg hd hf ?_)
  dsimp only
  refine a7 (ask ?_)
  rw[hb]
  simp only[if_true]
  refine a7 (nN (b9 ?_))
  refine b9 ?_
  have ho:EZ w a ep es=oF (w.params.setOrder a ep) es:=by unfold EZ;rw[if_pos hb]
  show Q (((oF (w.params.setOrder a ep) es)[i]?).map fun e=> (e.2,slot)) s
  rw[←ho]
  cases he:(EZ w a ep es)[i]? with
  |some e=>exact hsome e slot he fun z=>by rw[hb] at z;cases z
  |none=>
   refine hnone ?_
   have:=Array.getElem?_eq_none_iff.mp he
   rw[Ff] at this
   omega
 |false=>
  rw[hb] at hled
  simp only[iK,if_false]
  have hdr:(!t.plain&&decide (es.size>1))=false:=by rw[hpl];rfl
  show wpAny _ _ (if(!t.plain&&decide (es.size>1))=true then _ else _) _ _ s
  rw[hdr]
  simp only[iK,if_false]
  refine a7 ?_
  show wpAny _ _ (if(!t.led&&!es.isEmpty)=true then _ else pure ()) _ _ s
  rw[hled]
  simp only[qF,m8,Bool.false_and,iK,if_false]
  refine b9 ?_
  rw[Mk hr (by omega) (hs hb)]
  have ho:EZ w a ep es=es:=by unfold EZ;rw[if_neg (by rw[hb];decide)]
  by_cases hlt:i<es.size
  ·have e1:es[i]?=some es[i]:=by simp[hlt]
   have e2:t.place[i]?=some (t.place[i]'(by omega)):=by simp[show i<t.place.size by omega]
   rw[e1,e2]
   exact b9 (hsome es[i] _ (by rw[ho];exact e1) fun _=> ⟨_,e2,rfl⟩)
  ·have e1:es[i]?=none:=by simp;omega
   rw[e1]
   exact b9 (hnone (by omega))
end
section
variable{prog:Program}{w:World}{A:iC}{E:Value→a9→Prop}{s:a9}
variable{a I:Addr}{xs:List (List Int×Addr)}{o:Obj}{es:Array (Int×Value)}{ep:Nat}{t:jN}
structure Wk(w:World)(o:Obj)(es:Array (Int×Value))(ep:Nat)(t:jN):Prop where
 cls:o.cls=.type "set"
 dat:o.data=.set es ep t
 fits:t.fits es.size=true
 ris:Qv t.place
 pl:t.plain=true
 led:t.led=!w.params.followText "set-order"
theorem SetD.wk(S:SetD prog w s.heap a xs o es ep t):Wk w o es ep t:=⟨S.ex.1,S.dat,S.fits,S.tb.ris,S.pl,S.led⟩
theorem Cb(K:Wk w o es ep t)(hg:s.heap.get? a=some o){Q:Array (Int×Value)→a9→Prop}(h:Q es s):wpAny (model prog w) A (qZ a) Q E s:=by
 unfold qZ
 exact a7 (ki hg K.dat K.fits (b9 h))
theorem Fg(K:Wk w o es ep t)(hg:s.heap.get? a=some o)(hne:a≠I){i:Nat}(hi:i<es.size)(it:Co w s.heap I a t ep es.size i){Q:Option Value→a9→Prop}
  (hQ:∀e h',(EZ w a ep es)[i]?=some e→Co w h' I a t ep es.size (i+1)→kO I s.heap h'→Q (some e.2) {s with heap:=h'}):wpAny (model prog w) A (nh (.ref I)) Q E s:=by
 obtain⟨slot,ho,hsl⟩:=it
 have hT:s.TypeIs (.ref I) "set_iterator":=⟨_,ho,rfl⟩
 unfold nh
 refine a7 (mz (jJ (name:=lQ "__next__") hT As (jF As hT Cn ?_ (DR _))))
 refine a7 (b9 ?_)
 refine a7 (wpAny_fieldsOf ho rfl ?_)
 show wpAny _ _ (qZ a>>=_) _ _ s
 refine a7 (Cb K hg ?_)
 rw[if_neg (by simp)]
 show wpAny _ _ (setNext a ((slot:Int).toNat) ((i:Int).toNat) ((ep:Int).toNat)>>=_) _ _ s
 simp only[iS]
 refine a7 (HQ hg K.dat K.fits K.ris K.pl K.led (mT hi) hsl (fun e slot' he hs'=>?_) fun z=>by omega)
 dsimp only
 refine a7 (kj ho (by simp) fun h1 ho1 hs1=>?_)
 refine a7 (kj (s:={s with heap:=h1}) ho1 (by simp) fun h2 ho2 hs2=>?_)
 refine b9 ⟨_,rfl,b9 (hQ e h2 he ⟨slot',?_,fun hb=> .inr ⟨oB _,?_⟩⟩ (hs1.trans hs2))⟩
 ·simpa using ho2
 ·simpa using hs' hb
theorem HR(K:Wk w o es ep t)(hh:A.handled=none)(hg:s.heap.get? a=some o)(hne:a≠I)(it:Co w s.heap I a t ep es.size es.size){Q:Option Value→a9→Prop}
  (hQ:∀h',qE I s.heap h'→Q none {s with heap:=h'}):wpAny (model prog w) A (nh (.ref I)) Q E s:=by
 obtain⟨slot,ho,hsl⟩:=it
 have hT:s.TypeIs (.ref I) "set_iterator":=⟨_,ho,rfl⟩
 unfold nh
 refine a7 (mz (jJ (name:=lQ "__next__") hT As (jF As hT Cn ?_ (DR _))))
 refine a7 (b9 ?_)
 refine a7 (wpAny_fieldsOf ho rfl ?_)
 show wpAny _ _ (qZ a>>=_) _ _ s
 refine a7 (Cb K hg ?_)
 rw[if_neg (by simp)]
 show wpAny _ _ (setNext a ((slot:Int).toNat) ((es.size:Int).toNat) ((ep:Int).toNat)>>=_) _ _ s
 simp only[iS]
 refine a7 (HQ hg K.dat K.fits K.ris K.pl K.led (hC _) hsl (fun e slot' he hs'=>?_) fun z=>?_)
 ·have:=(jw.mp he).1
  rw[Ff] at this
  omega
 dsimp only
 refine a7 (kj ho (by simp) fun h1 ho1 hs1=>?_)
 show wpAny _ _ (newExc (.type "StopIteration") []>>=_) _ _ _
 refine a7 ?_
 simp only[newExc,newTuple]
 refine a7 (js ?_ (by size_fits))
 refine a7 (m:=oK _ _) (nY (a:=kZ) (by first|rfl| (simp only[oK];rfl)) ?_)
 refine js ?_ (by size_fits)
 simp only[raiseNew]
 refine a7 (wpAny_handled ?_)
 rw[show A.in1.handled=none from hh]
 refine a7 (b9 (wpAny_throw ?_))
 refine a7 (pK (T:="StopIteration") (b:=true) ⟨_,iz _ rfl,rfl⟩ isSubtype_stop ?_)
 exact b9 (hQ _ ((hs1.extBut.push _).push _))
theorem Pd{n i:Nat}(it:Co w s.heap I a t ep n i){Q:Value→a9→Prop}(h:Q (.ref I) s):wpAny (model prog w) A (qt (.ref I)) Q E s:=by
 obtain⟨slot,ho,_⟩:=it
 have hT:s.TypeIs (.ref I) "set_iterator":=⟨_,ho,rfl⟩
 refine wpAny_pyIter_slot hT DQ (jF DQ hT Fe ?_ (GN _))
 show wpAny _ _ (ret (.ref I)) _ _ s
 exact b9 ⟨_,rfl,"set_iterator",_,hT,As.lookup,h⟩
theorem RB(K:Wk w o es ep t)(hg:s.heap.get? a=some o){Q:Value→a9→Prop}
  (h:Q (.ref s.heap.objs.size) {s with heap:=s.heap.push {cls:=.type "set_iterator",data:=.fields #[nB 0,nB 0,.ref a,nB es.size,nB ep]}}):wpAny (model prog w) A (qt (.ref a)) Q E s:=by
 have hT:s.TypeIs (.ref a) "set":=⟨_,hg,K.cls⟩
 have ask:∀{A:iC} {E:Value→a9→Prop} {R:Bool→a9→Prop},R (w.params.followText "set-order") s→wpAny (model prog w) A setsByText R E s:=fun h=>a7 (nN (b9 h))
 refine wpAny_pyIter_slot hT PySem.F.slot_set_iter (jF PySem.F.slot_set_iter hT HP ?_ (PySem.F.args_set_iter_1 _))
 unfold Builtin.«frozenset.__iter__»
 refine a7 (a7 (b9 (b9 ?_)))
 refine a7 (a7 (Cb K hg (b9 ?_)))
 refine a7 ?_
 unfold setDrawn
 refine a7 (ki hg K.dat K.fits ?_)
 dsimp only
 refine a7 (ask (b9 ?_))
 have hdr:(!w.params.followText "set-order" &&(!t.plain&&decide (es.size>1)))=false:=by rw[K.pl];simp
 show wpAny _ _ (if(!w.params.followText "set-order" &&(!t.plain&&decide (es.size>1)))=true then _ else _) _ _ s
 rw[hdr]
 simp only[iK,if_false]
 refine a7 (b9 ?_)
 refine a7 (wpAny_setEpoch_of hg K.dat K.fits ?_)
 refine a7 ?_
 unfold newFields
 refine js ?_
 refine b9 ⟨_,rfl,"set_iterator",_,⟨_,iz _ rfl,rfl⟩,As.lookup,h⟩
theorem Pe(K:Wk w o es ep t)(hh:A.handled=none)(hne:a≠I):Walks prog w A I [I,a] [I] es.size (fun i v=>∃h,(EZ w a ep es)[i]?=some (h,v)) (fun i h=>Co w h I a t ep es.size i∧h.get? a=some o) where
 sub:=fun b hb=>by simp at hb;simp[hb]
 frame:=fun i h h' st hk=>by
  obtain⟨⟨slot,h1,h2⟩,h3⟩:=st
  exact⟨⟨slot,hk I (by simp) _ h1,h2⟩,hk a (by simp) _ h3⟩
 item:=fun i s Q E hi st hQ=>Fg K st.2 hne hi st.1 fun e h' he it' sb=>hQ e.2 h' s.toks ⟨e.1,he⟩ ⟨it',(sb.2 a hne).trans st.2⟩ fun b o hb e=> (sb.2 b (fun z=>hb (by simp[z]))).trans e
 done:=fun s Q E st hQ=>HR K hh st.2 hne st.1 fun h' he=>hQ h' s.toks fun b o hb e=>he b o (fun z=>hb (by simp[z])) e
 self:=fun i s Q E st hQ=>Pd st.1 hQ
theorem RC{r:Addr}{Q:Bool→a9→Prop}(hT:s.TypeIs (.ref r) "set")(h:Q false s):wpAny (model prog w) A (Builtin.List.listLengthHint (.ref r)) Q E s:=by
 unfold Builtin.List.listLengthHint
 refine a7 (wpAny_specialOf hT PySem.F.slot_set_len.lookup ?_)
 generalize hid:("set.__len__" :String)=id0
 wp_delta
 rw[show splitId id0=some ("set","__len__") from by subst hid;decide+kernel]
 subst hid
 refine a7 (pK (T:="set") (b:=true) hT (by rw[nC];kernel_rfl) ?_)
 refine wpAny_ite_split (fun hab=>absurd hab (by decide)) (fun _=>?_)
 refine wpAny_ite_split (fun _=>?_) (fun hab=>absurd (by decide+kernel) hab)
 refine a7 (nz hT ?_)
 exact b9 h
theorem Ue(K:Wk w o es ep t):PySem.W.KdlSrc prog w "set" a a es.size (fun i v=>∃h,(EZ w a ep es)[i]?=some (h,v)) (fun h=>h.get? a=some o) where
 type:=fun _ hm=> ⟨_,hm,K.cls⟩
 there:=fun _ hm=> ⟨ip hm,ip hm⟩
 keep:=fun _ _ hm hk=>hk a (.inl rfl) _ hm
 notList:=by decide
 notTuple:=by decide
 hint:=fun _ _ _ _ hm hq=>RC ⟨_,hm,K.cls⟩ hq
 iter:=fun A s hh hm=> ⟨_,_,(fun _ _ hq=>RB K hm hq),Pe K hh (iL (ip hm)),⟨⟨0,iz _ rfl,fun _=> .inl ⟨rfl,rfl⟩⟩,e6 _ hm⟩⟩
end
end StT
namespace SrtG
open PySem PyProof.Rows
def OG:Bool→Keyed→Array Keyed→Nat→Nat→Nat→StateT SortSt Sem (Option Nat):=sortPriv%PySem.Builtin.gallop
def BS(left:Bool)(key:Keyed)(arr:Array Keyed)(base i:Nat):StateT ji Sem (Option Bool):=do
 let x←elem' arr (base+i)
 if left then lt' x key else return(←lt' key x).map (!·)
section
variable{prog:Program}{w:World}{A:iC}{E:Value→a9→Prop}{s:a9}
def QR(prog:Program)(w:World)(A:iC)(E:Value→a9→Prop)(s:a9)(kd:mK)(U:Keyed→Prop)(rk:Keyed→Int):Prop:=
 ∀(st:ji) (x y:Keyed) (Q:Option Bool→ji→Prop),kindOf st=kd→U x→U y→Q (some (decide (rk x<rk y))) st→wpS (model prog w) A E s (lt' x y) Q st
variable{kd:mK}{U:Keyed→Prop}{rk:Keyed→Int}
def RK(rk:Keyed→Int)(xs:Array Keyed)(i:Nat):Int:=match xs[i]? with
 |some p=>rk p
 |none=>0
def AllU(U:Keyed→Prop)(xs:Array Keyed):Prop:=∀(i:Nat) (p:Keyed),xs[i]?=some p→U p
def bt(left:Bool)(rk:Keyed→Int)(key:Keyed)(arr:Array Keyed)(base i:Nat):Bool:=if left then decide (RK rk arr (base+i)<rk key) else !decide (rk key<RK rk arr (base+i))
theorem Ug{left:Bool}{key:Keyed}{arr:Array Keyed}{base i:Nat}{st:ji}{Q:Option Bool→ji→Prop}(C:QR prog w A E s kd U rk)(hk:kindOf st=kd)(hK:U key)(hU:AllU U arr)(hi:base+i<arr.size)
  (h:Q (some (bt left rk key arr base i)) st):wpS (model prog w) A E s (BS left key arr base i) Q st:=by
 unfold BS
 have e:arr[base+i]?=some arr[base+i]:=getElem?_pos arr (base+i) hi
 rw[elem'_eq,e]
 refine gz (hV ?_)
 have eR:RK rk arr (base+i)=rk arr[base+i]:=by unfold RK;rw[e]
 unfold bt at h
 rw[eR] at h
 cases left with
 |true=>
  rw[if_pos rfl] at h ⊢
  exact C st _ _ _ hk (hU _ _ e) hK h
 |false=>
  rw[if_neg gx] at h ⊢
  exact gz (C st _ _ _ hk hK (hU _ _ e) (hV h))
def WZ(P:Nat→Bool)(n r:Nat):Prop:=r≤n∧(∀i,i<r→P i=true)∧∀i,r≤i→i<n→P i=false
theorem RD{α:Type}{P:Nat→Bool}{b:Nat→StateT ji Sem (Option Bool)}{n l h:Nat}{st:ji}(hb:∀i (Q:Option Bool→ji→Prop),i<n→Q (some (P i)) st→wpS (model prog w) A E s (b i) Q st)
  (mono:∀i j,i≤j→j<n→P j=true→P i=true) (hl:l≤h) (hn:h≤n) (h1:∀i,i<l→P i=true) (h2:∀i,h≤i→i<n→P i=false):
  wpS (model prog w) A E s (forIn [:n] ((none:Option (Option Nat)),l,h) fun x __s=>
   if __s.snd.fst≥__s.snd.snd then pure (ForInStep.done (none,__s.snd.fst,__s.snd.snd))
   else do
    let __x←b (__s.snd.fst+(__s.snd.snd-__s.snd.fst)/2)
    match __x with
     |some mr=>
      if mr=true then pure (kU (none,__s.snd.fst+(__s.snd.snd-__s.snd.fst)/2+1,__s.snd.snd))
      else pure (kU (none,__s.snd.fst,__s.snd.fst+(__s.snd.snd-__s.snd.fst)/2))
     |x=>pure (ForInStep.done (some none,__s.snd.fst,__s.snd.snd))) (fun c st'=>st'=st∧c.1=none∧WZ P n c.2.2) st:=by
 refine ju (I:=fun x c st'=>st'=st∧∃l h,c=(none,l,h)∧l≤h∧h≤n∧(∀i,i<l→P i=true)∧(∀i,h≤i→i<n→P i=false)∧h-l≤n-x) ?_ ?_ ⟨rfl,l,h,rfl,hl,hn,h1,h2,by omega⟩
 ·rintro x c st' _ hx ⟨rfl,l,h,rfl,hl,hn,h1,h2,hm⟩
  dsimp only
  by_cases hlh:l≥h
  ·rw[if_pos hlh]
   have e:l=h:=by omega
   subst e
   exact hV ⟨rfl,rfl,hn,h1,h2⟩
  ·rw[if_neg hlh]
   refine gz (hb _ _ (by omega) ?_)
   dsimp only
   cases hP:P (l+(h-l)/2) with
   |true=>
    rw[if_pos rfl]
    exact hV ⟨rfl,_,_,rfl,by omega,hn,fun i hi=>mono i _ (by omega) (by omega) hP,h2,by omega⟩
   |false=>
    rw[if_neg gx]
    refine hV ⟨rfl,_,_,rfl,by omega,by omega,h1,fun i hi hin=>?_,by omega⟩
    cases q:P i with
    |false=>rfl
    |true=>rw[mono _ i hi hin q] at hP;cases hP
 ·rintro c st' ⟨rfl,l,h,rfl,hl,hn,h1,h2,hm⟩
  have e:l=h:=by
   have:max 0 n=n:=by omega
   rw[this] at hm
   omega
  subst e
  exact⟨rfl,rfl,hn,h1,h2⟩
theorem BM {left : Bool} {key : Keyed} {arr : Array Keyed} {base n hint : Nat} {st : ji} {Q : Option Nat → ji → Prop} (C : QR prog w A E s kd U rk) (hk : kindOf st = kd) (hK : U key) (hU : AllU U arr) (hb : base + n ≤ arr.size) (hh : hint < n)
    (mono : ∀ i j, i ≤ j → j < n → bt left rk key arr base j = true → bt left rk key arr base i = true)
    (h : ∀ r, WZ (bt left rk key arr base) n r → Q (some r) st) : wpS (model prog w) A E s (OG left key arr base n hint) Q st := by
  delta OG
  have hbey : ∀ i (Q : Option Bool → ji → Prop), i < n → Q (some (bt left rk key arr base i)) st → wpS (model prog w) A E s (BS left key arr base i) Q st := fun i Q hi q => Ug C hk hK hU (by omega) q
  have fals : ∀ i j, i ≤ j → j < n → bt left rk key arr base i = false → bt left rk key arr base j = false := fun i j hij hj e => by
    cases q : bt left rk key arr base j with
    | false => rfl
    | true => rw [mono i j hij hj q] at e; cases e
  refine gz (hbey _ _ hh ?_)
  dsimp only
  cases hP : bt left rk key arr base hint with
  | true =>
    rw [if_pos rfl]
    refine gz (kr (ju (I := fun x c st' => st' = st ∧ ∃ la o, c = (none, la, o) ∧ la < o ∧ x + 1 ≤ o ∧ hint + la < n ∧ bt left rk key arr base (hint + la) = true)
      (Q := fun c st' => st' = st ∧ ∃ la o, c = (none, la, o) ∧ la < o ∧ hint + la < n ∧ bt left rk key arr base (hint + la) = true ∧ (n - hint ≤ o ∨ bt left rk key arr base (hint + o) = false)) ?_ ?_ ⟨rfl, 0, 1, rfl, by omega, by omega, hh, hP⟩) ?_)
    · rintro x c st' _ hx ⟨rfl, la, o, rfl, h1, h2, h3, h4⟩
      dsimp only
      by_cases ho : o ≥ n - hint
      · rw [if_pos ho]
        exact hV ⟨rfl, la, o, rfl, h1, h3, h4, .inl ho⟩
      · rw [if_neg ho]
        refine gz (hbey _ _ (by omega) ?_)
        dsimp only
        cases hq : bt left rk key arr base (hint + o) with
        | false =>
          rw [if_pos (by decide)]
          exact hV ⟨rfl, la, o, rfl, h1, h3, h4, .inr hq⟩
        | true =>
          rw [if_neg (by decide)]
          exact hV ⟨rfl, o, _, rfl, by omega, by omega, by omega, hq⟩
    · rintro c st' ⟨rfl, la, o, rfl, h1, h2, h3, h4⟩
      exact ⟨rfl, la, o, rfl, h1, h3, h4, .inl (by have : max 0 n = n := by omega
                                                   omega)⟩
    · rintro c st' ⟨rfl, la, o, rfl, h1, h3, h4, h5⟩
      dsimp only
      refine gz (kr (RD (α := Unit) hbey mono (by omega) (by omega) (fun i hi => mono i (hint + la) (by omega) h3 h4) (fun i hi hin => ?_)) ?_)
      · rcases h5 with h5 | h5
        · omega
        · exact fals (hint + o) i (by omega) hin h5
      · rintro ⟨c1, c2, c3⟩ st'' ⟨rfl, e, pt⟩
        cases e
        exact hV (h _ pt)
  | false =>
    rw [if_neg gx]
    refine gz (kr (ju (I := fun x c st' => st' = st ∧ ∃ la o, c = (none, la, o) ∧ la < o ∧ x + 1 ≤ o ∧ la ≤ hint ∧ bt left rk key arr base (hint - la) = false)
      (Q := fun c st' => st' = st ∧ ∃ la o, c = (none, la, o) ∧ la < o ∧ la ≤ hint ∧ bt left rk key arr base (hint - la) = false ∧ (hint + 1 ≤ o ∨ bt left rk key arr base (hint - o) = true)) ?_ ?_ ⟨rfl, 0, 1, rfl, by omega, by omega, by omega, hP⟩) ?_)
    · rintro x c st' _ hx ⟨rfl, la, o, rfl, h1, h2, h3, h4⟩
      dsimp only
      by_cases ho : o ≥ hint + 1
      · rw [if_pos ho]
        exact hV ⟨rfl, la, o, rfl, h1, h3, h4, .inl ho⟩
      · rw [if_neg ho]
        refine gz (hbey _ _ (by omega) ?_)
        dsimp only
        cases hq : bt left rk key arr base (hint - o) with
        | true =>
          rw [if_pos rfl]
          exact hV ⟨rfl, la, o, rfl, h1, h3, h4, .inr hq⟩
        | false =>
          rw [if_neg gx]
          exact hV ⟨rfl, o, _, rfl, by omega, by omega, by omega, hq⟩
    · rintro c st' ⟨rfl, la, o, rfl, h1, h2, h3, h4⟩
      exact ⟨rfl, la, o, rfl, h1, h3, h4, .inl (by have : max 0 n = n := by omega
                                                   omega)⟩
    · rintro c st' ⟨rfl, la, o, rfl, h1, h3, h4, h5⟩
      dsimp only
      refine gz (kr (RD (α := Unit) hbey mono (by omega) (by omega) (fun i hi => ?_) (fun i hi hin => fals (hint - la) i hi hin h4)) ?_)
      · rcases h5 with h5 | h5
        · omega
        · exact mono i (hint - o) (by omega) (by omega) h5
      · rintro ⟨c1, c2, c3⟩ st'' ⟨rfl, e, pt⟩
        cases e
        exact hV (h _ pt)
end
local macro_rules | `(tactic| omega) => `(tactic| first | lia | omega)
open PySem PyProof.Rows
variable{rk:Keyed→Int}
def Fh(rk:Keyed→Int)(a:Array Keyed):Prop:=∀i j,i≤j→j<a.size→RK rk a i≤RK rk a j
structure Mrg(rk:Keyed→Int)(a b out:Array Keyed)(i j:Nat):Prop where
 hi:i≤a.size
 hj:j≤b.size
 perm:out.toList.Perm (a.toList.take i++b.toList.take j)
 srt:out.toList.Pairwise fun x y=>rk x≤rk y
 ha:∀x,x∈out.toList→∀y,i≤y→y<a.size→rk x≤RK rk a y
 hb:∀x,x∈out.toList→∀y,j≤y→y<b.size→rk x≤RK rk b y
structure Fin2(rk:Keyed→Int)(a b r:Array Keyed):Prop where
 perm:r.toList.Perm (a.toList++b.toList)
 srt:r.toList.Pairwise fun x y=>rk x≤rk y
theorem BC{a:Array Keyed}{i:Nat}(h:i<a.size):RK rk a i=rk a[i]:=by
 unfold RK
 rw[getElem?_pos a i h]
theorem Mrg.sym{a b out:Array Keyed}{i j:Nat}(m:Mrg rk a b out i j):Mrg rk b a out j i:=
 ⟨m.hj,m.hi,m.perm.trans kX,m.srt,m.hb,m.ha⟩
theorem Mrg.pushA{a b out:Array Keyed}{i j:Nat}(m:Mrg rk a b out i j)(sa:Fh rk a)(h:i<a.size)(hb:∀y,j≤y→y<b.size→rk a[i]≤RK rk b y):Mrg rk a b (out.push a[i]) (i+1) j:=by
 have e:(out.push a[i]).toList=out.toList++[a[i]]:=lV ..
 have t:a.toList.take (i+1)=a.toList.take i++[a[i]]:=by
  rw[List.take_succ]
  have:a.toList[i]?=some a[i]:=by rw[iR];exact getElem?_pos a i h
  rw[this];rfl
 refine⟨h,m.hj,?_,?_,?_,?_⟩
 ·rw[e,t]
  have p1:=m.perm.append_right [a[i]]
  refine p1.trans ?_
  rw[jR,jR]
  exact lM.append_left _ kX
 ·rw[e,n8]
  refine⟨m.srt,mf _ _,fun x hx y hy=>?_⟩
  cases e9.mp hy
  have:=m.ha x hx i (hC _) h
  rwa[BC h] at this
 ·intro x hx y hy hys
  rw[e] at hx
  rcases iO.mp hx with hx|hx
  ·exact m.ha x hx y (by omega) hys
  ·cases e9.mp hx
   have:=sa i y (by omega) hys
   rwa[BC h] at this
 ·intro x hx y hy hys
  rw[e] at hx
  rcases iO.mp hx with hx|hx
  ·exact m.hb x hx y hy hys
  ·cases e9.mp hx
   exact hb y hy hys
theorem Mrg.pushB{a b out:Array Keyed}{i j:Nat}(m:Mrg rk a b out i j)(sb:Fh rk b)(h:j<b.size)(ha:∀y,i≤y→y<a.size→rk b[j]≤RK rk a y):Mrg rk a b (out.push b[j]) i (j+1):=(m.sym.pushA sb h ha).sym
theorem Jn(a:Array Keyed)(i k:Nat)(h:i+k<a.size):a.extract i (i+(k+1))=(a.extract i (i+k)).push a[i+k]:=by
 apply mP
 rw[lV,jE,jE,jf,jf]
 have e1:i+(k+1)-i=k+1:=by omega
 have e2:i+k-i=k:=by omega
 rw[e1,e2,List.take_succ,jT,iR,getElem?_pos a (i+k) h]
 rfl
theorem Mrg.appA{a b:Array Keyed}{i j:Nat}:∀(k:Nat) {out:Array Keyed},Mrg rk a b out i j→Fh rk a→i+k≤a.size→(∀x,x<k→∀y,j≤y→y<b.size→RK rk a (i+x)≤RK rk b y)→Mrg rk a b (out++a.extract i (i+k)) (i+k) j
 |0,out,m,_,_,_=>by
  have:out++a.extract i (i+0)=out:=by
   apply mP
   rw[lA,jE,jf]
   have:i+0-i=0:=by omega
   rw[this,oT,jV]
  rw[this];exact m
 |k+1,out,m,sa,h,hb=>by
  have m':=Mrg.appA k m sa (by omega) fun x hx=>hb x (by omega)
  have hk:i+k<a.size:=by omega
  rw[Jn a i k hk,Array.append_push]
  exact m'.pushA sa hk fun y h1 h2=>by
   have:=hb k (by omega) y h1 h2
   rwa[BC hk] at this
theorem Mrg.appB{a b:Array Keyed}{i j:Nat}(k:Nat){out:Array Keyed}(m:Mrg rk a b out i j)(sb:Fh rk b)(h:j+k≤b.size)(ha:∀x,x<k→∀y,i≤y→y<a.size→RK rk b (j+x)≤RK rk a y):Mrg rk a b (out++b.extract j (j+k)) i (j+k):=(Mrg.appA k m.sym sb h ha).sym
theorem Mrg.fin{a b out:Array Keyed}(m:Mrg rk a b out a.size b.size):Fin2 rk a b out:=by
 have p:=m.perm
 rw[←iq,←iq,jj,jj] at p
 exact⟨p,m.srt⟩
theorem Mrg.restAB{a b out:Array Keyed}{i j:Nat}(m:Mrg rk a b out i j)(sa:Fh rk a)(sb:Fh rk b)(h:∀x y,i≤x→x<a.size→j≤y→y<b.size→RK rk a x≤RK rk b y):Fin2 rk a b (out++a.extract i a.size++b.extract j b.size):=by
 have hi:=m.hi
 have hj:=m.hj
 have m1:=m.appA (a.size-i) sa (by omega) fun x hx y h1 h2=>h _ _ (by omega) (by omega) h1 h2
 have e1:i+(a.size-i)=a.size:=by omega
 rw[e1] at m1
 have m2:=m1.appB (b.size-j) sb (by omega) fun x hx y h1 h2=>by omega
 have e2:j+(b.size-j)=b.size:=by omega
 rw[e2] at m2
 exact m2.fin
theorem Mrg.restBA{a b out:Array Keyed}{i j:Nat}(m:Mrg rk a b out i j)(sa:Fh rk a)(sb:Fh rk b)(h:∀x y,i≤x→x<a.size→j≤y→y<b.size→RK rk b y≤RK rk a x):Fin2 rk a b (out++b.extract j b.size++a.extract i a.size):=by
 have f:=m.sym.restAB sb sa fun x y h1 h2 h3 h4=>h y x h3 h4 h1 h2
 exact⟨f.perm.trans kX,f.srt⟩
end SrtG
namespace SrtG
local macro_rules | `(tactic| omega) => `(tactic| first | lia | omega)
open PySem PyProof.Rows
def LH:Array Keyed→Array Keyed→StateT SortSt Sem (Array Keyed):=sortPriv%PySem.Builtin.mergeLo
def OH:Nat→StateT SortSt Sem Unit:=sortPriv%PySem.Builtin.setMinGallop
theorem Ml(g:Nat):OH g=modify fun s=>p7 (kindOf s) (arrOf s) (pendingOf s) g (me s):=rfl
abbrev dn(a b out:Array Keyed)(ia ib:Nat):Array Keyed:=out++a.extract ia a.size++b.extract ib b.size
abbrev la(a b out:Array Keyed)(ia ib:Nat):Array Keyed:=out++b.extract ib b.size++a.extract ia a.size
section
variable{prog:Program}{w:World}{A:iC}{E:Value→a9→Prop}{s:a9}{kd:mK}{U:Keyed→Prop}{rk:Keyed→Int}
structure Like(st st':ji):Prop where
 kd:kindOf st'=kindOf st
 arr:arrOf st'=arrOf st
 pd:pendingOf st'=pendingOf st
 fl:me st'=me st
theorem Like.refl(st:ji):Like st st:=⟨rfl,rfl,rfl,rfl⟩
theorem DE{g:Nat}{st0 st:ji}{Q:Unit→ji→Prop}(l:Like st0 st)(h:∀st',Like st0 st'→Q () st'):wpS (model prog w) A E s (OH g) Q st:=by
 rw[Ml]
 exact mi (h _ ⟨l.kd,l.arr,l.pd,l.fl⟩)
theorem AM{arr:Array Keyed}{i:Nat}{st:ji}{Q:Keyed→ji→Prop}(hi:i<arr.size)(h:Q arr[i] st):wpS (model prog w) A E s (elem' arr i) Q st:=by
 rw[elem'_eq,getElem?_pos arr i hi]
 exact hV h
structure Hd(rk:Keyed→Int)(a b out:Array Keyed)(i j n:Nat):Prop where
 m:Mrg rk a b out i j
 hi:i+1<a.size
 hj:j<b.size
 hn:n≤i+j
theorem LI{a b:Array Keyed}{st:ji}{Q:Array Keyed→ji→Prop}(C:QR prog w A E s kd U rk)(hk:kindOf st=kd)(uA:AllU U a)(uB:AllU U b)(sa:Fh rk a)(sb:Fh rk b)(ha0:0<a.size)(hb0:0<b.size)
  (hfst:RK rk b 0≤RK rk a 0) (hlst:RK rk b (b.size-1)≤RK rk a (a.size-1))
  (h:∀r st',Like st st'→Fin2 rk a b r→Q r st'):wpS (model prog w) A E s (LH a b) Q st:=by
 have Udn:∀{out i j},Mrg rk a b out i j→i=a.size∨j=b.size→Fin2 rk a b (dn a b out i j):=fun m hh=>m.restAB sa sb fun x y _ _ _ _=>by omega
 have Ula:∀{out i j},Mrg rk a b out i j→i+1=a.size→Fin2 rk a b (la a b out i j):=fun{out i j} m hh=>m.restBA sa sb fun x y h1 h2 h3 h4=>by
  have e1:=sb y (b.size-1) (by omega) (by omega)
  have e:x=a.size-1:=by omega
  subst e
  omega
 have uAt:∀{i} (hi:i<a.size),U a[i]:=fun hi=>uA _ _ (getElem?_pos a _ hi)
 have uBt:∀{i} (hi:i<b.size),U b[i]:=fun hi=>uB _ _ (getElem?_pos b _ hi)
 delta LH
 refine gz (oH (lx ⟨rfl,?_⟩))
 refine gz (AM hb0 ?_)
 have m0:Mrg rk a b #[] 0 0:=⟨by omega,by omega,lM.nil,lT,(fun x hx=>by cases hx),(fun x hx=>by cases hx)⟩
 have m1:Mrg rk a b #[b[0]] 0 1:=m0.pushB sb hb0 fun y _ hy=>by
  have e1:=sa 0 y (by omega) hy
  rw[←BC (rk:=rk) hb0]
  omega
 dsimp only
 by_cases c1:1=b.size
 ·rw[if_pos (beq_iff_eq.mpr c1)]
  exact hV (h _ _ (Like.refl _) (Udn m1 (.inr c1)))
 rw[if_neg (fun q=>c1 (beq_iff_eq.mp q))]
 by_cases c2:0+1=a.size
 ·rw[if_pos (beq_iff_eq.mpr c2)]
  exact hV (h _ _ (Like.refl _) (Ula m1 c2))
 rw[if_neg (fun q=>c2 (beq_iff_eq.mp q))]
 refine gz (ny ?_)
 refine gz (kr (ju (I:=fun x c st'=>Like st st'∧∃out i j mg,c=(none,out,i,j,mg)∧Hd rk a b out i j (x+1))
  (Q:=fun c st'=>Like st st'∧∃r,c.1=some r∧Fin2 rk a b r) ?_ ?_ ⟨Like.refl _,_,_,_,_,rfl,m1,by omega,by omega,by omega⟩) ?_)
 ·rintro x c st1 _ hx ⟨lk,out,i,j,mg,rfl,hd⟩
  dsimp only
  refine gz (kr (ju (I:=fun _ c st'=>Like st st'∧∃out i j ac bc,c=(none,out,i,j,ac,bc)∧Hd rk a b out i j (x+1))
   (Q:=fun c st'=>Like st st'∧((∃r,c.1=some r∧Fin2 rk a b r)∨∃out i j ac bc,c=(none,out,i,j,ac,bc)∧Hd rk a b out i j (x+1))) ?_ ?_ ⟨lk,_,_,_,_,_,rfl,hd⟩) ?_)
  ·rintro x1 c st2 _ hx1 ⟨lk,out,i,j,ac,bc,rfl,hd⟩
   have hia:i<a.size:=by have:=hd.hi;omega
   have hjb:=hd.hj
   have hin:=hd.hn
   dsimp only
   refine gz (AM hd.hj ?_)
   refine gz (AM hia ?_)
   refine gz (C _ _ _ _ (lk.kd.trans hk) (uBt hd.hj) (uAt hia) ?_)
   dsimp only
   by_cases hlt:rk b[j]<rk a[i]
   ·rw[if_pos (by exact decide_eq_true hlt)]
    have m:=hd.m.pushB sb hd.hj fun y h1 h2=>by
     have:=sa i y h1 h2
     rw[BC hia] at this
     omega
    refine gz (AM hd.hj ?_)
    by_cases c3:j+1=b.size
    ·rw[if_pos (beq_iff_eq.mpr c3)]
     exact hV ⟨lk,.inl ⟨_,rfl,Udn m (.inr c3)⟩⟩
    rw[if_neg (fun q=>c3 (beq_iff_eq.mp q))]
    have hd':Hd rk a b (out.push b[j]) i (j+1) (x+1):=⟨m,hd.hi,by have:=hd.hj;omega,by omega⟩
    split
    ·exact hV ⟨lk,.inr ⟨_,_,_,_,_,rfl,hd'⟩⟩
    ·exact hV ⟨lk,_,_,_,_,_,rfl,hd'⟩
   ·rw[if_neg (fun q=>hlt (of_decide_eq_true q))]
    have m:=hd.m.pushA sa hia fun y h1 h2=>by
     have:=sb j y h1 h2
     rw[BC hd.hj] at this
     omega
    refine gz (AM hia ?_)
    by_cases c3:i+1+1=a.size
    ·rw[if_pos (beq_iff_eq.mpr c3)]
     exact hV ⟨lk,.inl ⟨_,rfl,Ula m c3⟩⟩
    rw[if_neg (fun q=>c3 (beq_iff_eq.mp q))]
    have hd':Hd rk a b (out.push a[i]) (i+1) j (x+1):=⟨m,by have:=hd.hi;omega,hd.hj,by omega⟩
    split
    ·exact hV ⟨lk,.inr ⟨_,_,_,_,_,rfl,hd'⟩⟩
    ·exact hV ⟨lk,_,_,_,_,_,rfl,hd'⟩
  ·rintro c st2 ⟨lk,hh⟩
   exact⟨lk,.inr hh⟩
  rintro c st2 ⟨lk,⟨r,e,f⟩| ⟨out,i,j,ac,bc,rfl,hd⟩⟩
  ·obtain⟨c1,c2⟩:=c
   cases e
   exact hV ⟨lk,_,rfl,f⟩
  dsimp only
  refine gz (oH (lx ⟨rfl,?_⟩))
  refine gz (kr (ju (I:=fun y c st'=>Like st st'∧∃out i j mg ac bc,c=(none,out,i,j,mg,ac,bc)∧Hd rk a b out i j (x+1+y))
   (Q:=fun c st'=>Like st st'∧((∃r,c.1=some r∧Fin2 rk a b r)∨∃out i j mg ac bc,c=(none,out,i,j,mg,ac,bc)∧Hd rk a b out i j (x+1+1))) ?_ ?_ ⟨lk,_,_,_,_,_,_,rfl,hd⟩) ?_)
  ·rintro x1 c st2 _ hx1 ⟨lk,out,i,j,mg,ac,bc,rfl,hd⟩
   have hia:i<a.size:=by have:=hd.hi;omega
   have hjb:=hd.hj
   have hin:=hd.hn
   dsimp only
   refine dite (mg>1) (fun hmg=>?_) (fun hmg=>?_)
   all_goals first|rw[if_pos hmg]|rw[if_neg hmg]
   all_goals
    refine gz (DE lk fun st3 lk=>?_)
    refine gz (AM hjb ?_)
    refine gz (BM C (lk.kd.trans hk) (uBt hjb) uA (by omega) (by omega) ?_ ?_)
    ·intro p q hpq hq e
     unfold bt at e ⊢
     rw[if_neg gx] at e ⊢
     have e':=of_decide_eq_false (kz _|>.mp e)
     have:=sa (i+p) (i+q) (by omega) (by omega)
     exact(kz _).mpr (decide_eq_false (by omega))
    rintro k ⟨kn,kt,kf⟩
    have kt':∀x,x<k→RK rk a (i+x)≤RK rk b j:=fun x hx=>by
     have e:=kt x hx
     unfold bt at e
     rw[if_neg gx] at e
     have e':=of_decide_eq_false (kz _|>.mp e)
     rw[BC hjb]
     omega
    have kf':∀y,i+k≤y→y<a.size→rk b[j]≤RK rk a y:=fun y h1 h2=>by
     have e:=kf (y-i) (by omega) (by omega)
     unfold bt at e
     rw[if_neg gx] at e
     have e':=of_decide_eq_true (oV _|>.mp e)
     have ey:i+(y-i)=y:=by omega
     rw[ey] at e'
     omega
    have m:=hd.m.appA k sa (by omega) fun x hx y h1 h2=>by
     have:=sb j y h1 h2
     have:=kt' x hx
     omega
    dsimp only
    by_cases k0:k>0
    ·rw[if_pos k0]
     by_cases c3:i+k+1=a.size
     ·rw[if_pos (beq_iff_eq.mpr c3)]
      exact hV ⟨lk,.inl ⟨_,rfl,Ula m c3⟩⟩
     rw[if_neg (fun q=>c3 (beq_iff_eq.mp q))]
     by_cases c4:i+k=a.size
     ·rw[if_pos (beq_iff_eq.mpr c4)]
      exact hV ⟨lk,.inl ⟨_,rfl,Udn m (.inl c4)⟩⟩
     rw[if_neg (fun q=>c4 (beq_iff_eq.mp q))]
     have hi':i+k<a.size:=by omega
     have hi2:i+k+1<a.size:=by omega
     have hn':x+1+x1≤i+k+j:=by omega
     refine gz (AM hjb ?_)
     have m2:=m.pushB sb hjb kf'
     by_cases c5:j+1=b.size
     ·rw[if_pos (beq_iff_eq.mpr c5)]
      exact hV ⟨lk,.inl ⟨_,rfl,Udn m2 (.inr c5)⟩⟩
     rw[if_neg (fun q=>c5 (beq_iff_eq.mp q))]
     refine gz (AM hi' ?_)
     refine gz (BM C (lk.kd.trans hk) (uAt hi') uB (by omega) (by omega) ?_ ?_)
     ·intro p q hpq hq e
      unfold bt at e ⊢
      rw[if_pos rfl] at e ⊢
      have e':=of_decide_eq_true e
      have:=sb (j+1+p) (j+1+q) (by omega) (by omega)
      exact decide_eq_true (by omega)
     rintro k2 ⟨k2n,k2t,k2f⟩
     have k2t':∀x,x<k2→∀y,_≤y→y<a.size→RK rk b (j+1+x)≤RK rk a y:=fun x hx y h1 h2=>by
      have e:=k2t x hx
      unfold bt at e
      rw[if_pos rfl] at e
      have e':=of_decide_eq_true e
      have:=sa _ y h1 h2
      rw[BC hi'] at this
      omega
     have k2f':∀y,j+1+k2≤y→y<b.size→rk (a[i+k]'hi')≤RK rk b y:=fun y h1 h2=>by
      have e:=k2f (y- (j+1)) (by omega) (by omega)
      unfold bt at e
      rw[if_pos rfl] at e
      have e':=of_decide_eq_false e
      have ey:j+1+(y- (j+1))=y:=by omega
      rw[ey] at e'
      omega
     dsimp only
     by_cases k20:k2>0
     ·rw[if_pos k20]
      have m3:=m2.appB k2 sb (by omega) k2t'
      by_cases c6:j+1+k2=b.size
      ·rw[if_pos (beq_iff_eq.mpr c6)]
       exact hV ⟨lk,.inl ⟨_,rfl,Udn m3 (.inr c6)⟩⟩
      rw[if_neg (fun q=>c6 (beq_iff_eq.mp q))]
      have m4:=m3.pushA sa hi' k2f'
      refine gz (AM hi' ?_)
      split
      ·rename_i c7
       exact hV ⟨lk,.inl ⟨_,rfl,Ula m4 (beq_iff_eq.mp c7)⟩⟩
      ·rename_i c7
       have c7':¬_=_:=fun q=>c7 (beq_iff_eq.mpr q)
       split
       ·exact hV ⟨lk,.inr ⟨_,_,_,_,_,_,rfl,m4,by omega,by omega,by omega⟩⟩
       ·exact hV ⟨lk,_,_,_,_,_,_,rfl,m4,by omega,by omega,by omega⟩
     ·rw[if_neg k20]
      have e2:j+1+k2=j+1:=by omega
      rw[e2] at k2f'
      have m4:=m2.pushA sa hi' k2f'
      refine gz (AM hi' ?_)
      split
      ·rename_i c7
       exact hV ⟨lk,.inl ⟨_,rfl,Ula m4 (beq_iff_eq.mp c7)⟩⟩
      ·rename_i c7
       have c7':¬_=_:=fun q=>c7 (beq_iff_eq.mpr q)
       split
       ·exact hV ⟨lk,.inr ⟨_,_,_,_,_,_,rfl,m4,by omega,by omega,by omega⟩⟩
       ·exact hV ⟨lk,_,_,_,_,_,_,rfl,m4,by omega,by omega,by omega⟩
    ·rw[if_neg k0]
     have e0:i+k=i:=by omega
     rw[e0] at kf'
     clear m
     have m:=hd.m
     have hi2:=hd.hi
     have hi':=hia
     have hn':=hin
     refine gz (AM hjb ?_)
     have m2:=m.pushB sb hjb kf'
     by_cases c5:j+1=b.size
     ·rw[if_pos (beq_iff_eq.mpr c5)]
      exact hV ⟨lk,.inl ⟨_,rfl,Udn m2 (.inr c5)⟩⟩
     rw[if_neg (fun q=>c5 (beq_iff_eq.mp q))]
     refine gz (AM hi' ?_)
     refine gz (BM C (lk.kd.trans hk) (uAt hi') uB (by omega) (by omega) ?_ ?_)
     ·intro p q hpq hq e
      unfold bt at e ⊢
      rw[if_pos rfl] at e ⊢
      have e':=of_decide_eq_true e
      have:=sb (j+1+p) (j+1+q) (by omega) (by omega)
      exact decide_eq_true (by omega)
     rintro k2 ⟨k2n,k2t,k2f⟩
     have k2t':∀x,x<k2→∀y,_≤y→y<a.size→RK rk b (j+1+x)≤RK rk a y:=fun x hx y h1 h2=>by
      have e:=k2t x hx
      unfold bt at e
      rw[if_pos rfl] at e
      have e':=of_decide_eq_true e
      have:=sa _ y h1 h2
      rw[BC hi'] at this
      omega
     have k2f':∀y,j+1+k2≤y→y<b.size→rk (a[i]'hi')≤RK rk b y:=fun y h1 h2=>by
      have e:=k2f (y- (j+1)) (by omega) (by omega)
      unfold bt at e
      rw[if_pos rfl] at e
      have e':=of_decide_eq_false e
      have ey:j+1+(y- (j+1))=y:=by omega
      rw[ey] at e'
      omega
     dsimp only
     by_cases k20:k2>0
     ·rw[if_pos k20]
      have m3:=m2.appB k2 sb (by omega) k2t'
      by_cases c6:j+1+k2=b.size
      ·rw[if_pos (beq_iff_eq.mpr c6)]
       exact hV ⟨lk,.inl ⟨_,rfl,Udn m3 (.inr c6)⟩⟩
      rw[if_neg (fun q=>c6 (beq_iff_eq.mp q))]
      have m4:=m3.pushA sa hi' k2f'
      refine gz (AM hi' ?_)
      split
      ·rename_i c7
       exact hV ⟨lk,.inl ⟨_,rfl,Ula m4 (beq_iff_eq.mp c7)⟩⟩
      ·rename_i c7
       have c7':¬_=_:=fun q=>c7 (beq_iff_eq.mpr q)
       split
       ·exact hV ⟨lk,.inr ⟨_,_,_,_,_,_,rfl,m4,by omega,by omega,by omega⟩⟩
       ·exact hV ⟨lk,_,_,_,_,_,_,rfl,m4,by omega,by omega,by omega⟩
     ·rw[if_neg k20]
      have e2:j+1+k2=j+1:=by omega
      rw[e2] at k2f'
      have m4:=m2.pushA sa hi' k2f'
      refine gz (AM hi' ?_)
      split
      ·rename_i c7
       exact hV ⟨lk,.inl ⟨_,rfl,Ula m4 (beq_iff_eq.mp c7)⟩⟩
      ·rename_i c7
       have c7':¬_=_:=fun q=>c7 (beq_iff_eq.mpr q)
       split
       ·exact hV ⟨lk,.inr ⟨_,_,_,_,_,_,rfl,m4,by omega,by omega,by omega⟩⟩
       ·exact hV ⟨lk,_,_,_,_,_,_,rfl,m4,by omega,by omega,by omega⟩
  ·rintro c st2 ⟨lk,out,i,j,mg,ac,bc,rfl,hd⟩
   have e:max 0 (a.size+b.size)=a.size+b.size:=by omega
   rw[e] at hd
   exact⟨lk,.inr ⟨_,_,_,_,_,_,rfl,hd.m,hd.hi,hd.hj,by have:=hd.hn;omega⟩⟩
  rintro c st2 ⟨lk,⟨r,e,f⟩| ⟨out,i,j,mg,ac,bc,rfl,hd⟩⟩
  ·obtain⟨c1,c2⟩:=c
   cases e
   exact hV ⟨lk,_,rfl,f⟩
  dsimp only
  refine gz (DE lk fun st3 lk=>?_)
  exact hV ⟨lk,_,_,_,_,rfl,hd⟩
 ·rintro c st1 ⟨lk,out,i,j,mg,rfl,hd⟩
  have e:max 0 (a.size+b.size)=a.size+b.size:=by omega
  rw[e] at hd
  have:=hd.hn
  have:=hd.hi
  have:=hd.hj
  omega
 ·rintro c st1 ⟨lk,r,e,f⟩
  obtain⟨c1,c2⟩:=c
  cases e
  exact hV (h _ _ lk f)
end
end SrtG
namespace SrtG
local macro_rules | `(tactic| omega) => `(tactic| first | lia | omega)
open PySem PyProof.Rows
variable{rk:Keyed→Int}
structure Mrh(rk:Keyed→Int)(a b out:Array Keyed)(i j:Nat):Prop where
 hi:i≤a.size
 hj:j≤b.size
 perm:out.toList.Perm (a.toList.drop i++b.toList.drop j)
 srt:out.toList.Pairwise fun x y=>rk y≤rk x
 ha:∀x,x∈out.toList→∀y,y<i→RK rk a y≤rk x
 hb:∀x,x∈out.toList→∀y,y<j→RK rk b y≤rk x
theorem Mrh.sym{a b out:Array Keyed}{i j:Nat}(m:Mrh rk a b out i j):Mrh rk b a out j i:=
 ⟨m.hj,m.hi,m.perm.trans kX,m.srt,m.hb,m.ha⟩
theorem Mrh.pushA{a b out:Array Keyed}{i j:Nat}(m:Mrh rk a b out (i+1) j)(sa:Fh rk a)(h:i<a.size)(hb:∀y,y<j→RK rk b y≤rk a[i]):Mrh rk a b (out.push a[i]) i j:=by
 have e:(out.push a[i]).toList=out.toList++[a[i]]:=lV ..
 have t:a.toList.drop i=a[i]::a.toList.drop (i+1):=by
  have hl:i<a.toList.length:=by rw[iq];exact h
  rw[ku hl]
  rfl
 refine⟨by omega,m.hj,?_,?_,?_,?_⟩
 ·rw[e,t]
  exact kX.trans (m.perm.cons a[i])
 ·rw[e,n8]
  refine⟨m.srt,mf _ _,fun x hx y hy=>?_⟩
  cases e9.mp hy
  have:=m.ha x hx i (k4 _)
  rwa[BC h] at this
 ·intro x hx y hy
  rw[e] at hx
  rcases iO.mp hx with hx|hx
  ·exact m.ha x hx y (by omega)
  ·cases e9.mp hx
   have:=sa y i (by omega) h
   rwa[BC h] at this
 ·intro x hx y hy
  rw[e] at hx
  rcases iO.mp hx with hx|hx
  ·exact m.hb x hx y hy
  ·cases e9.mp hx
   exact hb y hy
theorem Mrh.pushB{a b out:Array Keyed}{i j:Nat}(m:Mrh rk a b out i (j+1))(sb:Fh rk b)(h:j<b.size)(ha:∀y,y<i→RK rk a y≤rk b[j]):Mrh rk a b (out.push b[j]) i j:=(m.sym.pushA sb h ha).sym
theorem Jo(a:Array Keyed)(l h:Nat)(hl:l<h)(hh:h≤a.size):(a.extract l h).reverse=(a.extract (l+1) h).reverse.push (a[l]'(by omega)):=by
 apply mP
 rw[lV,j3,j3,jE,jE,jf,jf]
 have hln:l<a.toList.length:=by rw[iq];omega
 have e1:h-l=(h- (l+1))+1:=by omega
 rw[ku hln,e1,List.take_succ_cons,jI]
 rfl
theorem Mrh.appA{a b:Array Keyed}{i j:Nat}:∀(k:Nat) {out:Array Keyed},Mrh rk a b out i j→Fh rk a→k≤i→(∀x,i-k≤x→x<i→∀y,y<j→RK rk b y≤RK rk a x)→Mrh rk a b (out++(a.extract (i-k) i).reverse) (i-k) j
 |0,out,m,_,_,_=>by
  have:out++(a.extract (i-0) i).reverse=out:=by
   apply mP
   rw[lA,j3,jE,jf]
   have:i- (i-0)=0:=by omega
   rw[this,oT,List.reverse_nil,jV]
  rw[this];exact m
 |k+1,out,m,sa,h,hb=>by
  have hi:=m.hi
  have m':=Mrh.appA k m sa (by omega) fun x hx=>hb x (by omega)
  have hk:i- (k+1)<a.size:=by omega
  have e:i- (k+1)+1=i-k:=by omega
  rw[Jo a (i- (k+1)) i (by omega) hi,Array.append_push,e]
  rw[←e] at m'
  have q:=m'.pushA sa hk fun y h1=>by
   have:=hb (i- (k+1)) (by omega) (by omega) y h1
   rwa[BC hk] at this
  rw[e] at q
  exact q
theorem Mrh.appA'{a b out:Array Keyed}{i j l:Nat}(m:Mrh rk a b out i j)(sa:Fh rk a)(h:l≤i)(hb:∀x,l≤x→x<i→∀y,y<j→RK rk b y≤RK rk a x):Mrh rk a b (out++(a.extract l i).reverse) l j:=by
 have e:i- (i-l)=l:=by omega
 have q:=m.appA (i-l) sa (by omega) (by rw[e];exact hb)
 rwa[e] at q
theorem Mrh.appB'{a b out:Array Keyed}{i j l:Nat}(m:Mrh rk a b out i j)(sb:Fh rk b)(h:l≤j)(ha:∀x,l≤x→x<j→∀y,y<i→RK rk a y≤RK rk b x):Mrh rk a b (out++(b.extract l j).reverse) i l:=(m.sym.appA' sb h ha).sym
theorem Mrh.fin{a b out:Array Keyed}(m:Mrh rk a b out 0 0):Fin2 rk a b out.reverse:=by
 have p:=m.perm
 rw[qC,qC] at p
 constructor
 ·rw[j3]
  exact(List.reverse_perm _).trans p
 ·rw[j3,nI]
  exact m.srt
theorem Mrh.restAB{a b out:Array Keyed}{i j:Nat}(m:Mrh rk a b out i j)(sa:Fh rk a)(sb:Fh rk b)(h:∀x y,x<i→y<j→RK rk a x≤RK rk b y):Fin2 rk a b (a.extract 0 i++b.extract 0 j++out.reverse):=by
 have m1:=m.appB' (l:=0) sb (by omega) fun x _ hx y hy=>h y x hy hx
 have m2:=m1.appA' (l:=0) sa (by omega) fun x _ _ y hy=>by omega
 have f:=m2.fin
 have e:(out++(b.extract 0 j).reverse++(a.extract 0 i).reverse).reverse=a.extract 0 i++b.extract 0 j++out.reverse:=by
  apply mP
  rw[j3,lA,lA,lA,lA,j3,j3,j3,ow,ow,List.reverse_reverse,List.reverse_reverse,jR]
 rwa[e] at f
theorem Mrh.restBA{a b out:Array Keyed}{i j:Nat}(m:Mrh rk a b out i j)(sa:Fh rk a)(sb:Fh rk b)(h:∀x y,x<i→y<j→RK rk b y≤RK rk a x):Fin2 rk a b (b.extract 0 j++a.extract 0 i++out.reverse):=by
 have f:=m.sym.restAB sb sa fun x y h1 h2=>h y x h2 h1
 exact⟨f.perm.trans kX,f.srt⟩
def LJ:Array Keyed→Array Keyed→StateT SortSt Sem (Array Keyed):=sortPriv%PySem.Builtin.mergeHi
abbrev gB(a b out:Array Keyed)(i j:Nat):Array Keyed:=a.extract 0 i++b.extract 0 j++out.reverse
abbrev gC(a b out:Array Keyed)(i j:Nat):Array Keyed:=b.extract 0 j++a.extract 0 i++out.reverse
end SrtG
namespace SrtG
local macro_rules | `(tactic| omega) => `(tactic| first | lia | omega)
open PySem PyProof.Rows
variable{prog:Program}{w:World}{A:iC}{E:Value→a9→Prop}{s:a9}{kd:mK}{U:Keyed→Prop}{rk:Keyed→Int}
theorem Mrh.pushA1{a b out:Array Keyed}{i j:Nat}(m:Mrh rk a b out i j)(sa:Fh rk a)(h0:0<i)(h:i-1<a.size)(hb:∀y,y<j→RK rk b y≤rk a[i-1]):Mrh rk a b (out.push a[i-1]) (i-1) j:=by
 cases i with
 |zero=>omega
 |succ i=>exact m.pushA sa h hb
structure Hh(rk:Keyed→Int)(a b out:Array Keyed)(i j n:Nat):Prop where
 m:Mrh rk a b out i j
 hi:0<i
 hj:1<j
 hn:i+j+n≤a.size+b.size
theorem LK{a b:Array Keyed}{st:ji}{Q:Array Keyed→ji→Prop}(C:QR prog w A E s kd U rk)(hk:kindOf st=kd)(uA:AllU U a)(uB:AllU U b)(sa:Fh rk a)(sb:Fh rk b)(ha0:0<a.size)(hb0:0<b.size)
  (hfst:RK rk b 0≤RK rk a 0) (hlst:RK rk b (b.size-1)≤RK rk a (a.size-1))
  (h:∀r st',Like st st'→Fin2 rk a b r→Q r st'):wpS (model prog w) A E s (LJ a b) Q st:=by
 have Udn:∀{out i j},Mrh rk a b out i j→i=0∨j=0→Fin2 rk a b (gB a b out i j):=fun m hh=>m.restAB sa sb fun x y _ _=>by omega
 have Ula:∀{out i j},Mrh rk a b out i j→j=1→Fin2 rk a b (gC a b out i j):=fun{out i j} m hh=>m.restBA sa sb fun x y h1 h2=>by
  have hi:=m.hi
  have e1:=sa 0 x (by omega) (by omega)
  have e:y=0:=by omega
  subst e
  omega
 have uAt:∀{i} (hi:i<a.size),U a[i]:=fun hi=>uA _ _ (getElem?_pos a _ hi)
 have uBt:∀{i} (hi:i<b.size),U b[i]:=fun hi=>uB _ _ (getElem?_pos b _ hi)
 have hal:a.size-1<a.size:=by omega
 delta LJ
 refine gz (oH (lx ⟨rfl,?_⟩))
 refine gz (AM hal ?_)
 have m0:Mrh rk a b #[] (a.size-1+1) b.size:=by
  have e:a.size-1+1=a.size:=by omega
  rw[e]
  refine⟨by omega,by omega,?_,lT,(fun x hx=>by cases hx),(fun x hx=>by cases hx)⟩
  rw[←iq,←iq,List.drop_length,List.drop_length]
  exact lM.nil
 have m1:Mrh rk a b #[a[a.size-1]] (a.size-1) b.size:=m0.pushA sa hal fun y hy=>by
  have e1:=sb y (b.size-1) (by omega) (by omega)
  rw[←BC (rk:=rk) hal]
  omega
 dsimp only
 by_cases c1:a.size-1=0
 ·rw[if_pos (beq_iff_eq.mpr c1)]
  exact hV (h _ _ (Like.refl _) (Udn m1 (.inl c1)))
 rw[if_neg (fun q=>c1 (beq_iff_eq.mp q))]
 by_cases c2:b.size=1
 ·rw[if_pos (beq_iff_eq.mpr c2)]
  exact hV (h _ _ (Like.refl _) (Ula m1 c2))
 rw[if_neg (fun q=>c2 (beq_iff_eq.mp q))]
 refine gz (ny ?_)
 refine gz (kr (ju (I:=fun x c st'=>Like st st'∧∃out i j mg,c=(none,i,j,out,mg)∧Hh rk a b out i j (x+1))
  (Q:=fun c st'=>Like st st'∧∃r,c.1=some r∧Fin2 rk a b r) ?_ ?_ ⟨Like.refl _,_,_,_,_,rfl,m1,by omega,by omega,by omega⟩) ?_)
 ·rintro x c st1 _ hx ⟨lk,out,i,j,mg,rfl,hd⟩
  dsimp only
  refine gz (kr (ju (I:=fun _ c st'=>Like st st'∧∃out i j ac bc,c=(none,i,j,out,ac,bc)∧Hh rk a b out i j (x+1))
   (Q:=fun c st'=>Like st st'∧((∃r,c.1=some r∧Fin2 rk a b r)∨∃out i j ac bc,c=(none,i,j,out,ac,bc)∧Hh rk a b out i j (x+1))) ?_ ?_ ⟨lk,_,_,_,_,_,rfl,hd⟩) ?_)
  ·rintro x1 c st2 _ hx1 ⟨lk,out,i,j,ac,bc,rfl,hd⟩
   have hi0:=hd.hi
   have hj0:=hd.hj
   have hin:=hd.hn
   have hia:i-1<a.size:=by have:=hd.m.hi;omega
   have hjb:j-1<b.size:=by have:=hd.m.hj;omega
   have ei:i-1+1=i:=by omega
   have ej:j-1+1=j:=by omega
   have m:=hd.m
   dsimp only
   refine gz (AM hjb ?_)
   refine gz (AM hia ?_)
   refine gz (C _ _ _ _ (lk.kd.trans hk) (uBt hjb) (uAt hia) ?_)
   dsimp only
   by_cases hlt:rk b[j-1]<rk a[i-1]
   ·rw[if_pos (by exact decide_eq_true hlt)]
    rw[←ei] at m
    have m:=m.pushA sa hia fun y h1=>by
     have:=sb y (j-1) (by omega) hjb
     rw[BC hjb] at this
     omega
    refine gz (AM hia ?_)
    by_cases c3:i-1=0
    ·rw[if_pos (beq_iff_eq.mpr c3)]
     exact hV ⟨lk,.inl ⟨_,rfl,Udn m (.inl c3)⟩⟩
    rw[if_neg (fun q=>c3 (beq_iff_eq.mp q))]
    have hd':Hh rk a b (out.push a[i-1]) (i-1) j (x+1):=⟨m,by omega,by omega,by omega⟩
    split
    ·exact hV ⟨lk,.inr ⟨_,_,_,_,_,rfl,hd'⟩⟩
    ·exact hV ⟨lk,_,_,_,_,_,rfl,hd'⟩
   ·rw[if_neg (fun q=>hlt (of_decide_eq_true q))]
    rw[←ej] at m
    have m:=m.pushB sb hjb fun y h1=>by
     have:=sa y (i-1) (by omega) hia
     rw[BC hia] at this
     omega
    refine gz (AM hjb ?_)
    by_cases c3:j-1=1
    ·rw[if_pos (beq_iff_eq.mpr c3)]
     exact hV ⟨lk,.inl ⟨_,rfl,Ula m c3⟩⟩
    rw[if_neg (fun q=>c3 (beq_iff_eq.mp q))]
    have hd':Hh rk a b (out.push b[j-1]) i (j-1) (x+1):=⟨m,by omega,by omega,by omega⟩
    split
    ·exact hV ⟨lk,.inr ⟨_,_,_,_,_,rfl,hd'⟩⟩
    ·exact hV ⟨lk,_,_,_,_,_,rfl,hd'⟩
  ·rintro c st2 ⟨lk,hh⟩
   exact⟨lk,.inr hh⟩
  rintro c st2 ⟨lk,⟨r,e,f⟩| ⟨out,i,j,ac,bc,rfl,hd⟩⟩
  ·obtain⟨c1,c2⟩:=c
   cases e
   exact hV ⟨lk,_,rfl,f⟩
  dsimp only
  refine gz (oH (lx ⟨rfl,?_⟩))
  refine gz (kr (ju (I:=fun y c st'=>Like st st'∧∃out i j mg ac bc,c=(none,i,j,out,mg,ac,bc)∧Hh rk a b out i j (x+1+y))
   (Q:=fun c st'=>Like st st'∧((∃r,c.1=some r∧Fin2 rk a b r)∨∃out i j mg ac bc,c=(none,i,j,out,mg,ac,bc)∧Hh rk a b out i j (x+1+1))) ?_ ?_ ⟨lk,_,_,_,_,_,_,rfl,hd⟩) ?_)
  ·rintro x1 c st2 _ hx1 ⟨lk,out,i,j,mg,ac,bc,rfl,hd⟩
   have hi0:=hd.hi
   have hj0:=hd.hj
   have hin:=hd.hn
   have hia:=hd.m.hi
   have hjl:=hd.m.hj
   have hjb:j-1<b.size:=by omega
   dsimp only
   refine dite (mg>1) (fun hmg=>?_) (fun hmg=>?_)
   all_goals first|rw[if_pos hmg]|rw[if_neg hmg]
   all_goals
    refine gz (DE lk fun st3 lk=>?_)
    refine gz (AM hjb ?_)
    refine gz (BM C (lk.kd.trans hk) (uBt hjb) uA (by omega) (by omega) ?_ ?_)
    ·intro p q hpq hq e
     unfold bt at e ⊢
     rw[if_neg gx] at e ⊢
     have e':=of_decide_eq_false (kz _|>.mp e)
     have:=sa (0+p) (0+q) (by omega) (by omega)
     exact(kz _).mpr (decide_eq_false (by omega))
    rintro p ⟨kn,kt,kf⟩
    have kf':∀y,y<p→RK rk a y≤rk b[j-1]:=fun y hy=>by
     have e:=kt y hy
     unfold bt at e
     rw[if_neg gx] at e
     have e':=of_decide_eq_false (kz _|>.mp e)
     rw[k8] at e'
     omega
    have kt':∀x,p≤x→x<i→∀y,y<j→RK rk b y≤RK rk a x:=fun x h1 h2 y h3=>by
     have e:=kf x h1 h2
     unfold bt at e
     rw[if_neg gx] at e
     have e':=of_decide_eq_true (oV _|>.mp e)
     rw[k8] at e'
     have:=sb y (j-1) (by omega) hjb
     rw[BC hjb] at this
     omega
    have m:=hd.m.appA' sa kn kt'
    dsimp only
    by_cases k0:i-p>0
    ·rw[if_pos k0]
     by_cases c3:p=0
     ·rw[if_pos (beq_iff_eq.mpr c3)]
      exact hV ⟨lk,.inl ⟨_,rfl,Udn m (.inl c3)⟩⟩
     rw[if_neg (fun q=>c3 (beq_iff_eq.mp q))]
     have hI:0<p:=by omega
     have ej:j-1+1=j:=by omega
     rw[←ej] at m
     have m2:=m.pushB sb hjb kf'
     refine gz (AM hjb ?_)
     by_cases c5:j-1=1
     ·rw[if_pos (beq_iff_eq.mpr c5)]
      exact hV ⟨lk,.inl ⟨_,rfl,Ula m2 (by omega)⟩⟩
     rw[if_neg (fun q=>c5 (beq_iff_eq.mp q))]
     have hI1:p-1<a.size:=by omega
     refine gz (AM hI1 ?_)
     refine gz (BM C (lk.kd.trans hk) (uAt hI1) uB (by omega) (by omega) ?_ ?_)
     ·intro p q hpq hq e
      unfold bt at e ⊢
      rw[if_pos rfl] at e ⊢
      have e':=of_decide_eq_true e
      have:=sb (0+p) (0+q) (by omega) (by omega)
      exact decide_eq_true (by omega)
     rintro q ⟨k2n,k2t,k2f⟩
     have k2t':∀y,y<q→RK rk b y≤rk (a[p-1]'hI1):=fun y hx=>by
      have e:=k2t y hx
      unfold bt at e
      rw[if_pos rfl] at e
      have e':=of_decide_eq_true e
      rw[k8] at e'
      omega
     have k2f':∀x,q≤x→x<j-1→∀y,y<p→RK rk a y≤RK rk b x:=fun x h1 h2 y h3=>by
      have e:=k2f x h1 h2
      unfold bt at e
      rw[if_pos rfl] at e
      have e':=of_decide_eq_false e
      rw[k8] at e'
      have:=sa y (p-1) (by omega) hI1
      rw[BC hI1] at this
      omega
     have eI:p-1+1=p:=by omega
     dsimp only
     by_cases k20:j-1-q>0
     ·rw[if_pos k20]
      have m3:=m2.appB' sb k2n k2f'
      by_cases c6:q=1
      ·rw[if_pos (beq_iff_eq.mpr c6)]
       exact hV ⟨lk,.inl ⟨_,rfl,Ula m3 (by omega)⟩⟩
      rw[if_neg (fun q=>c6 (beq_iff_eq.mp q))]
      by_cases c8:q=0
      ·rw[if_pos (beq_iff_eq.mpr c8)]
       exact hV ⟨lk,.inl ⟨_,rfl,Udn m3 (.inr c8)⟩⟩
      rw[if_neg (fun q=>c8 (beq_iff_eq.mp q))]
      have m4:=m3.pushA1 sa hI hI1 k2t'
      refine gz (AM hI1 ?_)
      by_cases c7:p-1=0
      ·rw[if_pos (beq_iff_eq.mpr c7)]
       exact hV ⟨lk,.inl ⟨_,rfl,Udn m4 (.inl c7)⟩⟩
      rw[if_neg (fun q=>c7 (beq_iff_eq.mp q))]
      split
      ·exact hV ⟨lk,.inr ⟨_,_,_,_,_,_,rfl,m4,by omega,by omega,by omega⟩⟩
      ·exact hV ⟨lk,_,_,_,_,_,_,rfl,m4,by omega,by omega,by omega⟩
     ·rw[if_neg k20]
      have e2:q=j-1:=by omega
      rw[e2] at k2t'
      have m4:=m2.pushA1 sa hI hI1 k2t'
      refine gz (AM hI1 ?_)
      by_cases c7:p-1=0
      ·rw[if_pos (beq_iff_eq.mpr c7)]
       exact hV ⟨lk,.inl ⟨_,rfl,Udn m4 (.inl c7)⟩⟩
      rw[if_neg (fun q=>c7 (beq_iff_eq.mp q))]
      split
      ·exact hV ⟨lk,.inr ⟨_,_,_,_,_,_,rfl,m4,by omega,by omega,by omega⟩⟩
      ·exact hV ⟨lk,_,_,_,_,_,_,rfl,m4,by omega,by omega,by omega⟩
    ·rw[if_neg k0]
     have e0:p=i:=by omega
     rw[e0] at kf'
     clear m
     have m:=hd.m
     have hI:=hi0
     have ej:j-1+1=j:=by omega
     rw[←ej] at m
     have m2:=m.pushB sb hjb kf'
     refine gz (AM hjb ?_)
     by_cases c5:j-1=1
     ·rw[if_pos (beq_iff_eq.mpr c5)]
      exact hV ⟨lk,.inl ⟨_,rfl,Ula m2 (by omega)⟩⟩
     rw[if_neg (fun q=>c5 (beq_iff_eq.mp q))]
     have hI1:i-1<a.size:=by omega
     refine gz (AM hI1 ?_)
     refine gz (BM C (lk.kd.trans hk) (uAt hI1) uB (by omega) (by omega) ?_ ?_)
     ·intro p q hpq hq e
      unfold bt at e ⊢
      rw[if_pos rfl] at e ⊢
      have e':=of_decide_eq_true e
      have:=sb (0+p) (0+q) (by omega) (by omega)
      exact decide_eq_true (by omega)
     rintro q ⟨k2n,k2t,k2f⟩
     have k2t':∀y,y<q→RK rk b y≤rk (a[i-1]'hI1):=fun y hx=>by
      have e:=k2t y hx
      unfold bt at e
      rw[if_pos rfl] at e
      have e':=of_decide_eq_true e
      rw[k8] at e'
      omega
     have k2f':∀x,q≤x→x<j-1→∀y,y<i→RK rk a y≤RK rk b x:=fun x h1 h2 y h3=>by
      have e:=k2f x h1 h2
      unfold bt at e
      rw[if_pos rfl] at e
      have e':=of_decide_eq_false e
      rw[k8] at e'
      have:=sa y (i-1) (by omega) hI1
      rw[BC hI1] at this
      omega
     have eI:i-1+1=i:=by omega
     dsimp only
     by_cases k20:j-1-q>0
     ·rw[if_pos k20]
      have m3:=m2.appB' sb k2n k2f'
      by_cases c6:q=1
      ·rw[if_pos (beq_iff_eq.mpr c6)]
       exact hV ⟨lk,.inl ⟨_,rfl,Ula m3 (by omega)⟩⟩
      rw[if_neg (fun q=>c6 (beq_iff_eq.mp q))]
      by_cases c8:q=0
      ·rw[if_pos (beq_iff_eq.mpr c8)]
       exact hV ⟨lk,.inl ⟨_,rfl,Udn m3 (.inr c8)⟩⟩
      rw[if_neg (fun q=>c8 (beq_iff_eq.mp q))]
      have m4:=m3.pushA1 sa hI hI1 k2t'
      refine gz (AM hI1 ?_)
      by_cases c7:i-1=0
      ·rw[if_pos (beq_iff_eq.mpr c7)]
       exact hV ⟨lk,.inl ⟨_,rfl,Udn m4 (.inl c7)⟩⟩
      rw[if_neg (fun q=>c7 (beq_iff_eq.mp q))]
      split
      ·exact hV ⟨lk,.inr ⟨_,_,_,_,_,_,rfl,m4,by omega,by omega,by omega⟩⟩
      ·exact hV ⟨lk,_,_,_,_,_,_,rfl,m4,by omega,by omega,by omega⟩
     ·rw[if_neg k20]
      have e2:q=j-1:=by omega
      rw[e2] at k2t'
      have m4:=m2.pushA1 sa hI hI1 k2t'
      refine gz (AM hI1 ?_)
      by_cases c7:i-1=0
      ·rw[if_pos (beq_iff_eq.mpr c7)]
       exact hV ⟨lk,.inl ⟨_,rfl,Udn m4 (.inl c7)⟩⟩
      rw[if_neg (fun q=>c7 (beq_iff_eq.mp q))]
      split
      ·exact hV ⟨lk,.inr ⟨_,_,_,_,_,_,rfl,m4,by omega,by omega,by omega⟩⟩
      ·exact hV ⟨lk,_,_,_,_,_,_,rfl,m4,by omega,by omega,by omega⟩
  ·rintro c st2 ⟨lk,out,i,j,mg,ac,bc,rfl,hd⟩
   have e:max 0 (a.size+b.size)=a.size+b.size:=by omega
   rw[e] at hd
   exact⟨lk,.inr ⟨_,_,_,_,_,_,rfl,hd.m,hd.hi,hd.hj,by have:=hd.hn;omega⟩⟩
  rintro c st2 ⟨lk,⟨r,e,f⟩| ⟨out,i,j,mg,ac,bc,rfl,hd⟩⟩
  ·obtain⟨c1,c2⟩:=c
   cases e
   exact hV ⟨lk,_,rfl,f⟩
  dsimp only
  refine gz (DE lk fun st3 lk=>?_)
  exact hV ⟨lk,_,_,_,_,rfl,hd⟩
 ·rintro c st1 ⟨lk,out,i,j,mg,rfl,hd⟩
  have e:max 0 (a.size+b.size)=a.size+b.size:=by omega
  rw[e] at hd
  have:=hd.hn
  have:=hd.hi
  have:=hd.hj
  omega
 ·rintro c st1 ⟨lk,r,e,f⟩
  obtain⟨c1,c2⟩:=c
  cases e
  exact hV (h _ _ lk f)
end SrtG
namespace SrtG
local macro_rules | `(tactic| omega) => `(tactic| first | lia | omega)
open PySem PyProof.Rows
variable{rk:Keyed→Int}
def Seg(rk:Keyed→Int)(arr:Array Keyed)(lo hi:Nat):Prop:=∀x y,lo≤x→x≤y→y<hi→RK rk arr x≤RK rk arr y
structure Upd(rk:Keyed→Int)(arr arr':Array Keyed)(lo hi:Nat):Prop where
 perm:arr'.toList.Perm arr.toList
 out:∀x,x<lo∨hi≤x→arr'[x]?=arr[x]?
 seg:Seg rk arr' lo hi
theorem Cc{arr arr':Array Keyed}{x:Nat}(h:arr'[x]?=arr[x]?):RK rk arr' x=RK rk arr x:=by unfold RK;rw[h]
abbrev back(l:List (Keyed×Nat))(lo:Nat)(arr:Array Keyed):Array Keyed:=l.foldl (fun a (p,j)=>a.setIfInBounds (lo+j) p) arr
theorem HU(lo:Nat):∀(l:List Keyed) (n:Nat) (arr:Array Keyed),lo+n+l.length≤arr.size→∀x,(back (l.zipIdx n) lo arr)[x]?=if lo+n≤x∧x<lo+n+l.length then l[x- (lo+n)]? else arr[x]?
 | [],n,arr,_,x=>by
  rw[if_neg (by rintro⟨h1,h2⟩;simp only[kH] at h2;omega)]
  rfl
 |p::l,n,arr,h,x=>by
  rw[iw] at h
  have e:back ((p::l).zipIdx n) lo arr=back (l.zipIdx (n+1)) lo (arr.setIfInBounds (lo+n) p):=by rw[pQ];rfl
  rw[e,HU lo l (n+1) _ (by rw[Array.size_setIfInBounds];omega) x,iw]
  by_cases c:lo+(n+1)≤x∧x<lo+(n+1)+l.length
  ·rw[if_pos c,if_pos (by omega)]
   have e2:x- (lo+n)=(x- (lo+(n+1)))+1:=by omega
   rw[e2,lu]
  ·rw[if_neg c,Array.getElem?_setIfInBounds]
   by_cases c2:lo+n=x
   ·rw[if_pos c2,if_pos (by omega),if_pos (by omega)]
    have e2:x- (lo+n)=0:=by omega
    rw[e2];rfl
   ·rw[if_neg c2,if_neg (by omega)]
theorem Pf{arr:Array Keyed}{l:List Keyed}{lo:Nat}(h:lo+l.length≤arr.size):(back l.zipIdx lo arr).toList=arr.toList.take lo++l++arr.toList.drop (lo+l.length):=by
 apply jy
 intro x
 rw[iR,HU lo l 0 arr (by omega) x]
 have hlen:arr.toList.length=arr.size:=iq
 by_cases c1:x<lo
 ·rw[if_neg (by omega),jR,iY (by rw[iH];omega),lH,if_pos c1,iR]
 ·by_cases c2:x<lo+l.length
  ·rw[if_pos (by omega),iY (by rw[iB,iH];omega),iG (by rw[iH];omega),iH]
   have e:min lo arr.toList.length=lo:=by omega
   rw[e]
   rfl
  ·rw[if_neg (by omega),iG (by rw[iB,iH];omega),jT,iB,iH]
   have e:lo+l.length+(x- (min lo arr.toList.length+l.length))=x:=by omega
   rw[e,iR]
theorem RE{arr merged:Array Keyed}{lo hi s0 e0:Nat}(hhi:lo≤hi)(hs:s0≤lo)(he:hi≤e0)(hz:e0≤arr.size)(perm:merged.toList.Perm (arr.extract lo hi).toList)(srt:merged.toList.Pairwise fun x y=>rk x≤rk y)
  (hL:∀x z,s0≤x→x<lo→x≤z→z<e0→RK rk arr x≤RK rk arr z) (hR:∀z y,s0≤z→z≤y→hi≤y→y<e0→RK rk arr z≤RK rk arr y):Upd rk arr (back merged.toList.zipIdx lo arr) s0 e0:=by
 have hx:(arr.extract lo hi).toList=(arr.toList.drop lo).take (hi-lo):=by rw[jE,jf]
 have hlenA:arr.toList.length=arr.size:=iq
 have hlen:merged.toList.length=hi-lo:=by
  rw[perm.length_eq,hx,iH,jx]
  omega
 have hfit:lo+merged.toList.length≤arr.size:=by omega
 have hget:=HU lo merged.toList 0 arr (by omega)
 have hmid:∀m,m∈merged.toList→∃z,lo≤z∧z<hi∧rk m=RK rk arr z:=fun m hm=>by
  have hm':=perm.mem_iff.mp hm
  rw[hx] at hm'
  obtain⟨i,hi'⟩:=List.mem_iff_getElem?.mp hm'
  rw[lH] at hi'
  split at hi'
  ·rename_i hlt
   rw[jT,iR] at hi'
   exact⟨lo+i,by omega,by omega,by unfold RK;rw[hi']⟩
  ·cases hi'
 have hRK:∀x,lo≤x→x<hi→∃m,m∈merged.toList∧merged.toList[x-lo]?=some m∧RK rk (back merged.toList.zipIdx lo arr) x=rk m:=fun x h1 h2=>by
  have hl:x-lo<merged.toList.length:=by omega
  refine⟨_,jg hl,b6 hl,?_⟩
  unfold RK
  rw[hget x,if_pos (by omega)]
  have e:x- (lo+0)=x-lo:=by omega
  rw[e,b6 hl]
 have hout:∀x,x<lo∨hi≤x→(back merged.toList.zipIdx lo arr)[x]?=arr[x]?:=fun x h=>by
  rw[hget x,if_neg (by omega)]
 refine⟨?_,fun x h=>hout x (by omega),?_⟩
 ·rw[Pf hfit]
  have e:arr.toList=arr.toList.take lo++((arr.toList.drop lo).take (hi-lo))++arr.toList.drop (lo+merged.toList.length):=by
   rw[jR]
   have e2:lo+merged.toList.length=lo+(hi-lo):=by omega
   rw[e2,←List.drop_drop,jq,jq]
  rw[hx] at perm
  have:=(perm.append_left (arr.toList.take lo)).append_right (arr.toList.drop (lo+merged.toList.length))
  rw[←e] at this
  exact this
 ·intro x y h1 h2 h3
  by_cases cx:x<lo
  ·rw[Cc (hout x (.inl cx))]
   by_cases cy:lo≤y∧y<hi
   ·obtain⟨m,hm,_,e⟩:=hRK y cy.1 cy.2
    obtain⟨z,z1,z2,ez⟩:=hmid m hm
    rw[e,ez]
    exact hL x z h1 cx (by omega) (by omega)
   ·rw[Cc (hout y (by omega))]
    exact hL x y h1 cx h2 h3
  ·by_cases cx2:x<hi
   ·obtain⟨m,hm,hm2,e⟩:=hRK x (by omega) cx2
    rw[e]
    by_cases cy:y<hi
    ·obtain⟨m',hm',hm2',e'⟩:=hRK y (by omega) cy
     rw[e']
     by_cases exy:x=y
     ·subst exy
      rw[hm2] at hm2'
      cases hm2'
      exact kT _
     ·have hl:y-lo<merged.toList.length:=by omega
      have hl':x-lo<merged.toList.length:=by omega
      have:=jn.mp srt (x-lo) (y-lo) hl' hl (by omega)
      rw[b6 hl'] at hm2
      rw[b6 hl] at hm2'
      cases hm2
      cases hm2'
      exact this
    ·rw[Cc (hout y (by omega))]
     obtain⟨z,z1,z2,ez⟩:=hmid m hm
     rw[ez]
     exact hR z y (by omega) (by omega) (by omega) h3
   ·rw[Cc (hout x (by omega)),Cc (hout y (by omega))]
    exact hR x y h1 h2 (by omega) h3
end SrtG
namespace SrtG
local macro_rules | `(tactic| omega) => `(tactic| first | lia | omega)
open PySem PyProof.Rows
variable{rk:Keyed→Int}
theorem GW{arr:Array Keyed}{l h:Nat}(hh:h≤arr.size):(arr.extract l h).size=h-l:=by rw[Array.size_extract];omega
theorem RF{arr:Array Keyed}{l h x:Nat}(hx:x<h-l)(hh:h≤arr.size):(arr.extract l h)[x]?=arr[l+x]?:=by
 rw[←iR,jE,jf,lH,if_pos hx,jT,iR]
theorem Iq{arr:Array Keyed}{l h x:Nat}(hx:x<h-l)(hh:h≤arr.size):RK rk (arr.extract l h) x=RK rk arr (l+x):=by unfold RK;rw[RF hx hh]
theorem AllU.ex{U:Keyed→Prop}{arr:Array Keyed}{l h:Nat}(u:AllU U arr)(hh:h≤arr.size):AllU U (arr.extract l h):=fun i p e=>by
 have hi:i< (arr.extract l h).size:=by
  apply kv
  intro hn
  rw[Array.getElem?_eq_none (nQ hn)] at e
  cases e
 rw[GW hh] at hi
 rw[RF hi hh] at e
 exact u _ _ e
theorem Seg.ex{arr:Array Keyed}{l h:Nat}(sg:Seg rk arr l h)(hh:h≤arr.size):Fh rk (arr.extract l h):=fun i j hij hj=>by
 rw[GW hh] at hj
 rw[Iq (by omega) hh,Iq hj hh]
 exact sg _ _ (by omega) (by omega) (by omega)
section
variable{prog:Program}{w:World}{A:iC}{E:Value→a9→Prop}{s:a9}{kd:mK}{U:Keyed→Prop}
theorem Uh{st st':ji}{Q:PUnit→ji→Prop}(h:Q ⟨⟩ st'):wpS (model prog w) A E s (set st':StateT ji Sem PUnit) Q st:=by
 unfold wpS;rw[StateT.run_set];exact b9 ⟨rfl,h⟩
theorem LL{i sa na pa sb nb pb:Nat}{st:ji}{Q:Bool→ji→Prop}(C:QR prog w A E s kd U rk)(hk:kindOf st=kd)(hU:AllU U (arrOf st))(hf:me st=none)
  (h1:(pendingOf st)[i]?=some (sa,na,pa)) (h2:(pendingOf st)[i+1]?=some (sb,nb,pb)) (hsb:sb=sa+na) (hna:0<na) (hnb:0<nb) (hsz:sb+nb≤(arrOf st).size) (S1:Seg rk (arrOf st) sa sb) (S2:Seg rk (arrOf st) sb (sb+nb))
  (h:∀st',kindOf st'=kd→me st'=none→pendingOf st'=((pendingOf st).setIfInBounds i (sa,na+nb,pa)).eraseIdxIfInBounds (i+1)→Upd rk (arrOf st) (arrOf st') sa (sb+nb)→Q true st'):
  wpS (model prog w) A E s (mergeAt' i) Q st:=by
 delta mergeAt'
 refine gz (ny ?_)
 rw[h1,h2]
 dsimp only
 refine gz (Uh ?_)
 have hsbz:sb< (arrOf st).size:=by omega
 have uAt:∀{i} (hi:i< (arrOf st).size),U (arrOf st)[i]:=fun hi=>hU _ _ (getElem?_pos (arrOf st) _ hi)
 refine gz (AM (arr:=arrOf st) hsbz ?_)
 refine gz (BM (arr:=arrOf st) C hk (uAt hsbz) hU (by omega) hna ?_ ?_)
 ·intro p q hpq hq e
  unfold bt at e ⊢
  rw[if_neg gx] at e ⊢
  have e':=of_decide_eq_false (kz _|>.mp e)
  have:=S1 (sa+p) (sa+q) (by omega) (by omega) (by omega)
  exact(kz _).mpr (decide_eq_false (by omega))
 rintro k ⟨kn,kt,kf⟩
 have kt':∀x,sa≤x→x<sa+k→RK rk (arrOf st) x≤RK rk (arrOf st) sb:=fun x hx1 hx=>by
  have e:=kt (x-sa) (by omega)
  unfold bt at e
  rw[if_neg gx] at e
  have e':=of_decide_eq_false (kz _|>.mp e)
  have ex:sa+(x-sa)=x:=by omega
  rw[ex] at e'
  rw[BC hsbz]
  omega
 have kf':∀x,sa+k≤x→x<sb→RK rk (arrOf st) sb<RK rk (arrOf st) x:=fun x hx1 hx=>by
  have e:=kf (x-sa) (by omega) (by omega)
  unfold bt at e
  rw[if_neg gx] at e
  have e':=of_decide_eq_true (oV _|>.mp e)
  have ex:sa+(x-sa)=x:=by omega
  rw[ex] at e'
  rw[BC hsbz]
  omega
 dsimp only
 by_cases c1:na-k=0
 ·rw[if_pos (beq_iff_eq.mpr c1)]
  refine hV (h _ hk hf rfl ⟨lM.refl _,fun _ _=>rfl,fun x y hx1 hx2 hx3=>?_⟩)
  by_cases cy:y<sb
  ·exact S1 x y hx1 hx2 cy
  ·by_cases cx:x<sb
   ·have e1:=kt' x hx1 (by omega)
    have e2:=S2 sb y (by omega) (by omega) hx3
    exact lC e1 e2
   ·exact S2 x y (by omega) hx2 hx3
 rw[if_neg (fun q=>c1 (beq_iff_eq.mp q))]
 have el:sa+k+(na-k)-1=sb-1:=by omega
 rw[el]
 have hlz:sb-1< (arrOf st).size:=by omega
 refine gz (AM (arr:=arrOf st) hlz ?_)
 refine gz (BM (arr:=arrOf st) C hk (uAt hlz) hU (by omega) (by omega) ?_ ?_)
 ·intro p q hpq hq e
  unfold bt at e ⊢
  rw[if_pos rfl] at e ⊢
  have e':=of_decide_eq_true e
  have:=S2 (sb+p) (sb+q) (by omega) (by omega) (by omega)
  exact decide_eq_true (by omega)
 rintro n2 ⟨nn,nt,nf⟩
 have nt':∀x,sb≤x→x<sb+n2→RK rk (arrOf st) x<RK rk (arrOf st) (sb-1):=fun x hx1 hx=>by
  have e:=nt (x-sb) (by omega)
  unfold bt at e
  rw[if_pos rfl] at e
  have e':=of_decide_eq_true e
  have ex:sb+(x-sb)=x:=by omega
  rw[ex] at e'
  rw[BC hlz]
  omega
 have nf':∀x,sb+n2≤x→x<sb+nb→RK rk (arrOf st) (sb-1)≤RK rk (arrOf st) x:=fun x hx1 hx=>by
  have e:=nf (x-sb) (by omega) (by omega)
  unfold bt at e
  rw[if_pos rfl] at e
  have e':=of_decide_eq_false e
  have ex:sb+(x-sb)=x:=by omega
  rw[ex] at e'
  rw[BC hlz]
  omega
 dsimp only
 have hlast:=kf' (sb-1) (by omega) (by omega)
 by_cases c2:n2=0
 ·have:=nf' sb (by omega) (by omega)
  omega
 rw[if_neg (fun q=>c2 (beq_iff_eq.mp q))]
 have hy:sb+n2≤(arrOf st).size:=by omega
 have hx':sb≤(arrOf st).size:=by omega
 have sA:Fh rk ((arrOf st).extract (sa+k) sb):=Seg.ex (fun x y q1 q2 q3=>S1 x y (by omega) q2 q3) hx'
 have sB:Fh rk ((arrOf st).extract sb (sb+n2)):=Seg.ex (fun x y q1 q2 q3=>S2 x y q1 q2 (by omega)) hy
 have zA:((arrOf st).extract (sa+k) sb).size=sb- (sa+k):=GW hx'
 have zB:((arrOf st).extract sb (sb+n2)).size=sb+n2-sb:=GW hy
 have q0:RK rk ((arrOf st).extract sb (sb+n2)) 0≤RK rk ((arrOf st).extract (sa+k) sb) 0:=by
  rw[Iq (by omega) hy,Iq (by omega) hx']
  have:=kf' (sa+k+0) (by omega) (by omega)
  exact lU this
 have q1:RK rk ((arrOf st).extract sb (sb+n2)) (((arrOf st).extract sb (sb+n2)).size-1)≤RK rk ((arrOf st).extract (sa+k) sb) (((arrOf st).extract (sa+k) sb).size-1):=by
  rw[zA,zB,Iq (by omega) hy,Iq (by omega) hx']
  have:=nt' (sb+(sb+n2-sb-1)) (by omega) (by omega)
  have e:sa+k+(sb- (sa+k)-1)=sb-1:=by omega
  rw[e]
  exact lU this
 have fin:∀r (st':ji),Like (oJ st (((pendingOf st).setIfInBounds i (sa,na+nb,pa)).eraseIdxIfInBounds (i+1))) st'→Fin2 rk ((arrOf st).extract (sa+k) sb) ((arrOf st).extract sb (sb+n2)) r→
   wpS (model prog w) A E s (do
    modify fun z=>setArr z (back r.toList.zipIdx (sa+k) (arrOf z))
    return(me (←get)).isNone) Q st':=fun r st' lk f=>by
  refine gz (mi ?_)
  refine gz (ny ?_)
  have e:(me st').isNone=true:=by rw[lk.fl];show(me st).isNone=true;rw[hf];rfl
  show wpS _ _ _ _ (pure ((me st').isNone)) _ _
  rw[e]
  refine hV (h _ (lk.kd.trans hk) (lk.fl.trans hf) lk.pd ?_)
  have ea:arrOf st'=arrOf st:=lk.arr
  show Upd rk (arrOf st) (back r.toList.zipIdx (sa+k) (arrOf st')) sa (sb+nb)
  rw[ea]
  refine RE (hi:=sb+n2) (by omega) (by omega) (by omega) hsz ?_ f.srt ?_ ?_
  ·have e2:((arrOf st).extract (sa+k) (sb+n2)).toList=((arrOf st).extract (sa+k) sb).toList++((arrOf st).extract sb (sb+n2)).toList:=by
    rw[jE,jE,jE,jf,jf,jf]
    have e3:sb+n2- (sa+k)=(sb- (sa+k))+(sb+n2-sb):=by omega
    rw[e3,List.take_add,List.drop_drop]
    have e4:sa+k+(sb- (sa+k))=sb:=by omega
    rw[e4]
   rw[e2]
   exact f.perm
  ·intro x z hx1 hx2 hx3 hx4
   by_cases cz:z<sb
   ·exact S1 x z hx1 hx3 cz
   ·have e1:=kt' x hx1 hx2
    have e2:=S2 sb z (by omega) (by omega) hx4
    exact lC e1 e2
  ·intro z y hx1 hx2 hx3 hx4
   by_cases cz:z<sb
   ·have e1:=S1 z (sb-1) hx1 (by omega) (by omega)
    exact lC e1 (nf' y hx3 hx4)
   ·exact S2 z y (by omega) hx2 hx4
 by_cases c3:na-k≤n2
 ·rw[if_pos c3]
  exact gz (LI (a:=(arrOf st).extract (sa+k) sb) (b:=(arrOf st).extract sb (sb+n2)) C hk (hU.ex hx') (hU.ex hy) sA sB (by omega) (by omega) q0 q1 fin)
 ·rw[if_neg c3]
  exact gz (LK (a:=(arrOf st).extract (sa+k) sb) (b:=(arrOf st).extract sb (sb+n2)) C hk (hU.ex hx') (hU.ex hy) sA sB (by omega) (by omega) q0 q1 fin)
end
end SrtG
namespace SrtG
open PySem PyProof.Rows
variable{rk:Keyed→Int}
structure Kp(st0 st:ji)(lo hi:Nat):Prop where
 kd:kindOf st=kindOf st0
 pd:pendingOf st=pendingOf st0
 fl:me st=me st0
 perm:(arrOf st).toList.Perm (arrOf st0).toList
 out:∀x,x<lo∨hi≤x→(arrOf st)[x]?=(arrOf st0)[x]?
theorem Kp.refl(st:ji)(lo hi:Nat):Kp st st lo hi:=⟨rfl,rfl,rfl,lM.refl _,fun _ _=>rfl⟩
theorem Kp.size{st0 st:ji}{lo hi:Nat}(k:Kp st0 st lo hi):(arrOf st).size=(arrOf st0).size:=by
 rw[←iq,←iq];exact k.perm.length_eq
theorem AllU.of_perm{U:Keyed→Prop}{a b:Array Keyed}(u:AllU U a)(p:b.toList.Perm a.toList):AllU U b:=fun i q e=>by
 have hm:q∈b.toList:=by rw[←iR] at e;exact hZ e
 have hm':=p.mem_iff.mp hm
 obtain⟨j,hj⟩:=List.mem_iff_getElem?.mp hm'
 rw[iR] at hj
 exact u j q hj
theorem Kp.setA{st0 st:ji}{lo hi:Nat}(k:Kp st0 st lo hi){xs:Array Keyed}(hp:xs.toList.Perm (arrOf st).toList)(ho:∀x,x<lo∨hi≤x→xs[x]?=(arrOf st)[x]?):Kp st0 (setArr st xs) lo hi:=
 ⟨k.kd,k.pd,k.fl,hp.trans k.perm,fun x hx=> (ho x hx).trans (k.out x hx)⟩
theorem DY{xs ys:Array Keyed}{i j:Nat}(h:xs[i]?=ys[j]?):RK rk xs i=RK rk ys j:=by unfold RK;rw[h]
theorem Ir{xs:Array Keyed}{src d:Nat}(hs:src<xs.size)(hd:d≤src)(k:Nat):RK rk (bubble xs src d) k=if k=src-d then RK rk xs src else if src-d<k∧k≤src then RK rk xs (k-1) else RK rk xs k:=by
 have e:=getElem?_bubble hs d hd k
 by_cases c1:k=src-d
 ·rw[if_pos c1] at e ⊢;exact DY e
 ·rw[if_neg c1] at e ⊢
  by_cases c2:src-d<k∧k≤src
  ·rw[if_pos c2] at e ⊢;exact DY e
  ·rw[if_neg c2] at e ⊢;exact DY e
section
variable{prog:Program}{w:World}{A:iC}{E:Value→a9→Prop}{s:a9}{kd:mK}{U:Keyed→Prop}
theorem Ba{st:ji}{i j:Nat}{Q:Option Bool→ji→Prop}(C:QR prog w A E s kd U rk)(hk:kindOf st=kd)(hU:AllU U (arrOf st))(hi:i< (arrOf st).size)(hj:j< (arrOf st).size)
  (h:Q (some (decide (RK rk (arrOf st) i<RK rk (arrOf st) j))) st):wpS (model prog w) A E s (ltAt' i j) Q st:=by
 rw[ltAt'_eq]
 refine gz (ny ?_)
 refine gz (AM hi ?_)
 refine gz (AM hj ?_)
 rw[BC hi,BC hj] at h
 exact C _ _ _ _ hk (hU _ _ (getElem?_pos (arrOf st) _ hi)) (hU _ _ (getElem?_pos (arrOf st) _ hj)) h
theorem Mm{st:ji}{lo n ok:Nat}{Q:Bool→ji→Prop}(C:QR prog w A E s kd U rk)(hk:kindOf st=kd)(hU:AllU U (arrOf st))(hn:lo+n≤(arrOf st).size)(hok:ok≤n)(hs:Seg rk (arrOf st) lo (lo+ok))
  (h:∀st',Kp st st' lo (lo+n)→Seg rk (arrOf st') lo (lo+n)→Q true st'):wpS (model prog w) A E s (binarySort' lo n ok) Q st:=by
 rw[binarySort'_eq]
 refine gz (kr (ju (I:=fun k c st'=>c=(none,())∧Kp st st' lo (lo+n)∧Seg rk (arrOf st') lo (lo+min k n))
  (Q:=fun c st'=>c=(none,())∧Kp st st' lo (lo+n)∧Seg rk (arrOf st') lo (lo+n)) ?step ?fin ?init) ?post)
 case post=>
  rintro c st' ⟨rfl,hB',hs'⟩
  exact hV (h st' hB' hs')
 case init=>
  refine⟨rfl,Kp.refl _ _ _,fun i j hi hij hj=>?_⟩
  by_cases c1:ok=0
  ·have:i=j:=by omega
   subst this;exact kT _
  ·exact hs i j hi hij (by omega)
 case fin=>
  rintro c st' ⟨hc,hB',hs'⟩
  refine⟨hc,hB',?_⟩
  have e:min (max (max ok 1) n) n=n:=by omega
  rwa[e] at hs'
 case step=>
  rintro k c st' hak hkn ⟨rfl,hB',hs'⟩
  have e:min k n=k:=by omega
  rw[e] at hs'
  have hz:=hB'.size
  have hks:lo+k< (arrOf st').size:=by omega
  have hU':=hU.of_perm hB'.perm
  refine gz (kr (ju (I:=fun x c st''=>st''=st'∧∃l r,c=(none,l,r)∧l≤r∧r≤k∧r-l≤k-x∧
    (∀i,i<l→RK rk (arrOf st') (lo+i)≤RK rk (arrOf st') (lo+k))∧(∀i,r≤i→i<k→RK rk (arrOf st') (lo+k)<RK rk (arrOf st') (lo+i)))
   (Q:=fun c st''=>st''=st'∧∃l r,c=(none,l,r)∧l≤k∧
    (∀i,i<l→RK rk (arrOf st') (lo+i)≤RK rk (arrOf st') (lo+k))∧(∀i,l≤i→i<k→RK rk (arrOf st') (lo+k)<RK rk (arrOf st') (lo+i))) ?istep ?ifin ?iinit) ?ipost)
  case iinit=>exact⟨rfl,0,k,rfl,by omega,by omega,by omega,fun i hi=>by omega,fun i h1 h2=>by omega⟩
  case ifin=>
   rintro c st'' ⟨rfl,l,r,rfl,hlr,hrk,hm,hlo,hhi⟩
   have:l=r:=by omega
   subst this
   exact⟨rfl,l,l,rfl,hrk,hlo,hhi⟩
  case istep=>
   rintro x c st'' _ hxk ⟨rfl,l,r,rfl,hlr,hrk,hm,hlo,hhi⟩
   dsimp only
   by_cases hge:l≥r
   ·rw[if_pos hge]
    have:l=r:=by omega
    subst this
    exact hV ⟨rfl,l,l,rfl,hrk,hlo,hhi⟩
   ·rw[if_neg hge]
    refine gz (Ba C (hB'.kd.trans hk) hU' hks (by omega) ?_)
    dsimp only
    by_cases hless:RK rk (arrOf st'') (lo+k)<RK rk (arrOf st'') (lo+(l+r)/2)
    ·rw[if_pos (decide_eq_true hless)]
     refine hV ⟨rfl,l,(l+r)/2,rfl,by omega,by omega,by omega,hlo,fun i q1 q2=>?_⟩
     exact Int.lt_of_lt_of_le hless (hs' _ _ (by omega) (by omega) (by omega))
    ·rw[if_neg (fun q=>hless (of_decide_eq_true q))]
     refine hV ⟨rfl,(l+r)/2+1,r,rfl,by omega,by omega,by omega,fun i q1=>?_,hhi⟩
     exact lC (hs' (lo+i) (lo+(l+r)/2) (by omega) (by omega) (by omega)) (Int.not_lt.mp hless)
  case ipost=>
   rintro c st'' ⟨rfl,l,r,rfl,hlk,hlo,hhi⟩
   show wpS _ _ _ _ (do moveDown' (lo+k) (lo+l);pure (kU (none,()))) _ _
   rw[moveDown'_eq]
   have ed:lo+k- (lo+l)=k-l:=by omega
   refine gz (mi (hV ⟨rfl,hB'.setA (Array.perm_iff_toList_perm.mp (bubble_perm _ _ _)) ?_,?_⟩))
   ·intro x hx
    rw[ed,getElem?_bubble hks _ (by omega),if_neg (by omega),if_neg (by omega)]
   have e2:lo+min (k+1) n=lo+k+1:=by omega
   rw[e2]
   intro i j hi hij hj
   show RK rk (bubble (arrOf st'') (lo+k) (lo+k- (lo+l))) i≤RK rk (bubble (arrOf st'') (lo+k) (lo+k- (lo+l))) j
   rw[ed,Ir hks (by omega),Ir hks (by omega)]
   have e3:lo+k- (k-l)=lo+l:=by omega
   rw[e3]
   have hlo':∀i,lo≤i→i<lo+l→RK rk (arrOf st'') i≤RK rk (arrOf st'') (lo+k):=fun i q1 q2=>by
    have:=hlo (i-lo) (by omega)
    have e4:lo+(i-lo)=i:=by omega
    rwa[e4] at this
   have hhi':∀i,lo+l≤i→i<lo+k→RK rk (arrOf st'') (lo+k)≤RK rk (arrOf st'') i:=fun i q1 q2=>by
    have:=hhi (i-lo) (by omega) (by omega)
    have e4:lo+(i-lo)=i:=by omega
    rw[e4] at this
    exact lU this
   repeat' split
   all_goals first
    | (exfalso;omega)
    |exact kT _
    |exact hlo' _ (by omega) (by omega)
    |exact hhi' _ (by omega) (by omega)
    |exact hs' _ _ (by omega) (by omega) (by omega)
end
local macro_rules | `(tactic| omega) => `(tactic| first | lia | omega)
open PySem PyProof.Rows
variable{rk:Keyed→Int}
def Dsc(rk:Keyed→Int)(arr:Array Keyed)(lo hi:Nat):Prop:=∀x y,lo≤x→x≤y→y<hi→RK rk arr y≤RK rk arr x
theorem Pg{xs:Array Keyed}{i j:Nat}(hj:j≤xs.size)(k:Nat):RK rk (mirror xs i j ((j-i)/2)) k=if i≤k∧k<j then RK rk xs (i+j-1-k) else RK rk xs k:=by
 have e:=getElem?_mirror_all (i:=i) hj k
 by_cases c1:i≤k∧k<j
 ·rw[if_pos c1] at e ⊢;exact DY e
 ·rw[if_neg c1] at e ⊢;exact DY e
section
variable{prog:Program}{w:World}{A:iC}{E:Value→a9→Prop}{s:a9}{kd:mK}{U:Keyed→Prop}
theorem Ez{st0 st:ji}{lo hi i j:Nat}{Q:Unit→ji→Prop}(k:Kp st0 st lo hi)(h1:lo≤i)(h2:j≤hi)(hj:j≤(arrOf st).size)
  (h:∀st',Kp st0 st' lo hi→(∀k,RK rk (arrOf st') k=if i≤k∧k<j then RK rk (arrOf st) (i+j-1-k) else RK rk (arrOf st) k)→Q () st'):wpS (model prog w) A E s (reverseSlice' i j) Q st:=by
 rw[reverseSlice'_eq]
 refine mi (h _ (k.setA (Array.perm_iff_toList_perm.mp (mirror_perm _ _ _ _)) fun x hx=>?_) fun k=>Pg hj k)
 rw[getElem?_mirror_all hj,if_neg (by omega)]
theorem DZ{st0 st:ji}{lo hi i j:Nat}{Q:Unit→ji→Prop}(k:Kp st0 st lo hi)(h1:lo≤i)(h2:j≤hi)(hj:j≤(arrOf st).size)(heq:∀k,i≤k→k<j→RK rk (arrOf st) k=RK rk (arrOf st) (j-1))
  (h:∀st',Kp st0 st' lo hi→(∀k,RK rk (arrOf st') k=RK rk (arrOf st) k)→Q () st'):wpS (model prog w) A E s (reverseSlice' i j) Q st:=by
 refine Ez (rk:=rk) k h1 h2 hj fun st' k' e=>h st' k' fun x=>?_
 rw[e x]
 split
 ·rw[heq _ (by omega) (by omega),heq x (by omega) (by omega)]
 ·rfl
theorem Seg.up{arr:Array Keyed}{lo n:Nat}(sg:Seg rk arr lo (lo+n))(h1:1≤n)(hx:¬RK rk arr (lo+n)<RK rk arr (lo+n-1)):Seg rk arr lo (lo+(n+1)):=fun i j hi hij hj=>by
 by_cases c:j<lo+n
 ·exact sg i j hi hij c
 ·have e:j=lo+n:=by omega
  subst e
  by_cases c2:i=lo+n
  ·subst c2;exact kT _
  ·exact lC (sg i (lo+n-1) hi (by omega) (by omega)) (Int.not_lt.mp hx)
theorem Dsc.up{arr arr':Array Keyed}{lo n:Nat}(sg:Dsc rk arr lo (lo+n))(h1:1≤n)(hx:RK rk arr (lo+n)≤RK rk arr (lo+n-1))(he:∀k,RK rk arr' k=RK rk arr k):Dsc rk arr' lo (lo+(n+1)):=fun i j hi hij hj=>by
 rw[he,he]
 by_cases c:j<lo+n
 ·exact sg i j hi hij c
 ·have e:j=lo+n:=by omega
  subst e
  by_cases c2:i=lo+n
  ·subst c2;exact kT _
  ·exact lC hx (sg i (lo+n-1) hi (by omega) (by omega))
theorem Mn{st:ji}{lo nrem:Nat}{Q:Option Nat→ji→Prop}(C:QR prog w A E s kd U rk)(hk:kindOf st=kd)(hU:AllU U (arrOf st))(hn:lo+nrem≤(arrOf st).size)(h1:1≤nrem)
  (h:∀m st',Kp st st' lo (lo+nrem)→1≤m→m≤nrem→Seg rk (arrOf st') lo (lo+m)→Q (some m) st'):
  wpS (model prog w) A E s (countRun' lo nrem) Q st:=by
 rw[countRun'_eq]
 refine gz (kr (ju (I:=fun x c st'=>st'=st∧c=(none,x)∧Seg rk (arrOf st) lo (lo+x))
  (Q:=fun c st'=>st'=st∧∃n,c=(none,n)∧1≤n∧n≤nrem∧Seg rk (arrOf st) lo (lo+n)∧(n=nrem∨RK rk (arrOf st) (lo+n)<RK rk (arrOf st) (lo+n-1))) ?step ?fin ⟨rfl,rfl,fun i j hi hij hj=>by have:i=j:=(by omega);subst this;exact kT _⟩) ?post)
 case fin=>
  rintro c st' ⟨rfl,rfl,hs'⟩
  have e:max 1 nrem=nrem:=by omega
  rw[e] at hs' ⊢
  exact⟨rfl,nrem,rfl,h1,hC _,hs',.inl rfl⟩
 case step=>
  rintro x c st' hax hxn ⟨rfl,rfl,hs'⟩
  dsimp only
  refine gz (Ba C hk hU (by omega) (by omega) ?_)
  dsimp only
  by_cases hless:RK rk (arrOf st') (lo+x)<RK rk (arrOf st') (lo+x-1)
  ·rw[if_pos (decide_eq_true hless)]
   exact hV ⟨rfl,x,rfl,hax,by omega,hs',.inr hless⟩
  ·rw[if_neg (fun q=>hless (of_decide_eq_true q))]
   exact hV ⟨rfl,rfl,hs'.up hax hless⟩
 case post=>
  rintro c st' ⟨rfl,n,rfl,hn1,hn2,hsn,hor⟩
  dsimp only
  by_cases hnn:n=nrem
  ·rw[if_pos (beq_iff_eq.mpr hnn)]
   exact hV (h n _ (Kp.refl _ _ _) hn1 hn2 hsn)
  rw[if_neg (fun q=>hnn (beq_iff_eq.mp q))]
  have hlt:=hor.resolve_left hnn
  by_cases hgt:n>1
  ·rw[if_pos hgt]
   refine gz (Ba C hk hU (by omega) (by omega) ?_)
   dsimp only
   by_cases hrose:RK rk (arrOf st') lo<RK rk (arrOf st') (lo+n-1)
   ·rw[if_pos (decide_eq_true hrose)]
    exact hV (h n _ (Kp.refl _ _ _) hn1 hn2 hsn)
   rw[if_neg (fun q=>hrose (of_decide_eq_true q))]
   have hall:∀k,lo≤k→k<lo+n→RK rk (arrOf st') k=RK rk (arrOf st') (lo+n-1):=fun k q1 q2=>by
    have a1:=hsn lo k (by omega) q1 q2
    have a2:=hsn k (lo+n-1) q1 (by omega) (by omega)
    omega
   refine gz (DZ (rk:=rk) (Kp.refl st' lo (lo+nrem)) (hC _) (by omega) (by omega) hall fun st2 kp hRK=>?_)
   have hd:Dsc rk (arrOf st2) lo (lo+(n+1)):=Dsc.up (arr:=arrOf st') (fun i j q1 q2 q3=>by rw[hall i q1 (by omega),hall j (by omega) q3];exact kT _) hn1 (lU hlt) hRK
   refine gz (oH (lx ⟨rfl,?_⟩))
   refine gz (kr (ju (I:=fun x c st3=>∃neq,c=(none,x,neq)∧Kp st' st3 lo (lo+nrem)∧Dsc rk (arrOf st3) lo (lo+x)∧neq+1≤x∧(∀i,lo+x- (neq+1)≤i→i<lo+x→RK rk (arrOf st3) i=RK rk (arrOf st3) (lo+x-1)))
    (Q:=fun c st3=>∃m neq,c=(none,m,neq)∧Kp st' st3 lo (lo+nrem)∧n+1≤m∧m≤nrem∧Dsc rk (arrOf st3) lo (lo+m)∧neq+1≤m∧(∀i,lo+m- (neq+1)≤i→i<lo+m→RK rk (arrOf st3) i=RK rk (arrOf st3) (lo+m-1))) ?_ ?_ ⟨0,rfl,kp,hd,by omega,fun i q1 q2=>by congr 1;omega⟩) ?_)
   ·rintro x c st3 hax hxn ⟨neq,rfl,kp,hd,hq,he⟩
    have hz:=kp.size
    have hU3:=hU.of_perm kp.perm
    dsimp only
    refine gz (Ba C (kp.kd.trans hk) hU3 (by omega) (by omega) ?_)
    dsimp only
    by_cases hless:RK rk (arrOf st3) (lo+x)<RK rk (arrOf st3) (lo+x-1)
    ·rw[if_pos (decide_eq_true hless)]
     by_cases hneq:neq>0
     ·rw[if_pos hneq]
      refine gz (DZ (rk:=rk) kp (by omega) (by omega) (by omega) he fun st4 kp4 hRK=>?_)
      exact hV ⟨0,rfl,kp4,hd.up (by omega) (lU hless) hRK,by omega,fun i q1 q2=>by congr 1;omega⟩
     ·rw[if_neg hneq]
      exact hV ⟨0,rfl,kp,hd.up (by omega) (lU hless) fun _=>rfl,by omega,fun i q1 q2=>by congr 1;omega⟩
    ·rw[if_neg (fun q=>hless (of_decide_eq_true q))]
     refine gz (Ba C (kp.kd.trans hk) hU3 (by omega) (by omega) ?_)
     dsimp only
     by_cases hlarger:RK rk (arrOf st3) (lo+x-1)<RK rk (arrOf st3) (lo+x)
     ·rw[if_pos (decide_eq_true hlarger)]
      exact hV ⟨x,neq,rfl,kp,hax,by omega,hd,hq,he⟩
     ·rw[if_neg (fun q=>hlarger (of_decide_eq_true q))]
      have heqx:RK rk (arrOf st3) (lo+x)=RK rk (arrOf st3) (lo+x-1):=by omega
      refine hV ⟨neq+1,rfl,kp,hd.up (by omega) (by omega) fun _=>rfl,by omega,fun i q1 q2=>?_⟩
      have e1:lo+(x+1)-1=lo+x:=by omega
      rw[e1]
      by_cases hix:i=lo+x
      ·rw[hix]
      ·rw[heqx];exact he i (by omega) (by omega)
   ·rintro c st3 ⟨neq,rfl,kp,hd,hq,he⟩
    have e:max (n+1) nrem=nrem:=by omega
    rw[e] at hd hq he ⊢
    exact⟨nrem,neq,rfl,kp,by omega,hC _,hd,hq,he⟩
   rintro c st3 ⟨m,neq,rfl,kp,hm1,hm2,hd,hq,he⟩
   have hz:=kp.size
   dsimp only
   have rest:∀(st4:ji),Kp st' st4 lo (lo+nrem)→Dsc rk (arrOf st4) lo (lo+m)→∀st5,Kp st' st5 lo (lo+nrem)→(∀k,RK rk (arrOf st5) k=if lo≤k∧k<lo+m then RK rk (arrOf st4) (lo+(lo+m)-1-k) else RK rk (arrOf st4) k)→Seg rk (arrOf st5) lo (lo+m):=fun st4 _ d4 st5 _ e5 i j q1 q2 q3=>by
    rw[e5,e5,if_pos (by omega),if_pos (by omega)]
    exact d4 _ _ (by omega) (by omega) (by omega)
   by_cases hneq:neq>0
   ·rw[if_pos hneq]
    refine gz (DZ (rk:=rk) kp (by omega) (by omega) (by omega) he fun st4 kp4 hRK=>?_)
    have d4:Dsc rk (arrOf st4) lo (lo+m):=fun i j q1 q2 q3=>by rw[hRK,hRK];exact hd i j q1 q2 q3
    have hz4:=kp4.size
    refine gz (Ez (rk:=rk) kp4 (hC _) (by omega) (by omega) fun st5 kp5 e5=>?_)
    have s5:=rest _ kp4 d4 st5 kp5 e5
    have hz5:=kp5.size
    have hU5:=hU.of_perm kp5.perm
    refine gz (kr (ju (I:=fun x c st6=>st6=st5∧c=(none,x)∧Seg rk (arrOf st5) lo (lo+x))
     (Q:=fun c st6=>st6=st5∧∃n,c=(none,n)∧1≤n∧n≤nrem∧Seg rk (arrOf st5) lo (lo+n)) ?_ ?_ ⟨rfl,rfl,s5⟩) ?_)
    ·rintro x c st6 hax hxn ⟨rfl,rfl,hs'⟩
     dsimp only
     refine gz (Ba C (kp5.kd.trans hk) hU5 (by omega) (by omega) ?_)
     dsimp only
     by_cases hless:RK rk (arrOf st6) (lo+x)<RK rk (arrOf st6) (lo+x-1)
     ·rw[if_pos (decide_eq_true hless)]
      exact hV ⟨rfl,x,rfl,by omega,by omega,hs'⟩
     ·rw[if_neg (fun q=>hless (of_decide_eq_true q))]
      exact hV ⟨rfl,rfl,hs'.up (by omega) hless⟩
    ·rintro c st6 ⟨rfl,rfl,hs'⟩
     have e:max m nrem=nrem:=by omega
     rw[e] at hs' ⊢
     exact⟨rfl,nrem,rfl,h1,hC _,hs'⟩
    rintro c st6 ⟨rfl,n5,rfl,q1,q2,q3⟩
    exact hV (h n5 _ kp5 q1 q2 q3)
   ·rw[if_neg hneq]
    have kp4:=kp
    have d4:=hd
    have hz4:=hz
    refine gz (Ez (rk:=rk) kp4 (hC _) (by omega) (by omega) fun st5 kp5 e5=>?_)
    have s5:=rest _ kp4 d4 st5 kp5 e5
    have hz5:=kp5.size
    have hU5:=hU.of_perm kp5.perm
    refine gz (kr (ju (I:=fun x c st6=>st6=st5∧c=(none,x)∧Seg rk (arrOf st5) lo (lo+x))
     (Q:=fun c st6=>st6=st5∧∃n,c=(none,n)∧1≤n∧n≤nrem∧Seg rk (arrOf st5) lo (lo+n)) ?_ ?_ ⟨rfl,rfl,s5⟩) ?_)
    ·rintro x c st6 hax hxn ⟨rfl,rfl,hs'⟩
     dsimp only
     refine gz (Ba C (kp5.kd.trans hk) hU5 (by omega) (by omega) ?_)
     dsimp only
     by_cases hless:RK rk (arrOf st6) (lo+x)<RK rk (arrOf st6) (lo+x-1)
     ·rw[if_pos (decide_eq_true hless)]
      exact hV ⟨rfl,x,rfl,by omega,by omega,hs'⟩
     ·rw[if_neg (fun q=>hless (of_decide_eq_true q))]
      exact hV ⟨rfl,rfl,hs'.up (by omega) hless⟩
    ·rintro c st6 ⟨rfl,rfl,hs'⟩
     have e:max m nrem=nrem:=by omega
     rw[e] at hs' ⊢
     exact⟨rfl,nrem,rfl,h1,hC _,hs'⟩
    rintro c st6 ⟨rfl,n5,rfl,q1,q2,q3⟩
    exact hV (h n5 _ kp5 q1 q2 q3)
  ·rw[if_neg hgt]
   have hd:Dsc rk (arrOf st') lo (lo+(n+1)):=Dsc.up (arr:=arrOf st') (fun i j q1 q2 q3=>by have:i=j:=(by omega);subst this;exact kT _) hn1 (lU hlt) fun _=>rfl
   have kp:=Kp.refl st' lo (lo+nrem)
   refine gz (oH (lx ⟨rfl,?_⟩))
   refine gz (kr (ju (I:=fun x c st3=>∃neq,c=(none,x,neq)∧Kp st' st3 lo (lo+nrem)∧Dsc rk (arrOf st3) lo (lo+x)∧neq+1≤x∧(∀i,lo+x- (neq+1)≤i→i<lo+x→RK rk (arrOf st3) i=RK rk (arrOf st3) (lo+x-1)))
    (Q:=fun c st3=>∃m neq,c=(none,m,neq)∧Kp st' st3 lo (lo+nrem)∧n+1≤m∧m≤nrem∧Dsc rk (arrOf st3) lo (lo+m)∧neq+1≤m∧(∀i,lo+m- (neq+1)≤i→i<lo+m→RK rk (arrOf st3) i=RK rk (arrOf st3) (lo+m-1))) ?_ ?_ ⟨0,rfl,kp,hd,by omega,fun i q1 q2=>by congr 1;omega⟩) ?_)
   ·rintro x c st3 hax hxn ⟨neq,rfl,kp,hd,hq,he⟩
    have hz:=kp.size
    have hU3:=hU.of_perm kp.perm
    dsimp only
    refine gz (Ba C (kp.kd.trans hk) hU3 (by omega) (by omega) ?_)
    dsimp only
    by_cases hless:RK rk (arrOf st3) (lo+x)<RK rk (arrOf st3) (lo+x-1)
    ·rw[if_pos (decide_eq_true hless)]
     by_cases hneq:neq>0
     ·rw[if_pos hneq]
      refine gz (DZ (rk:=rk) kp (by omega) (by omega) (by omega) he fun st4 kp4 hRK=>?_)
      exact hV ⟨0,rfl,kp4,hd.up (by omega) (lU hless) hRK,by omega,fun i q1 q2=>by congr 1;omega⟩
     ·rw[if_neg hneq]
      exact hV ⟨0,rfl,kp,hd.up (by omega) (lU hless) fun _=>rfl,by omega,fun i q1 q2=>by congr 1;omega⟩
    ·rw[if_neg (fun q=>hless (of_decide_eq_true q))]
     refine gz (Ba C (kp.kd.trans hk) hU3 (by omega) (by omega) ?_)
     dsimp only
     by_cases hlarger:RK rk (arrOf st3) (lo+x-1)<RK rk (arrOf st3) (lo+x)
     ·rw[if_pos (decide_eq_true hlarger)]
      exact hV ⟨x,neq,rfl,kp,hax,by omega,hd,hq,he⟩
     ·rw[if_neg (fun q=>hlarger (of_decide_eq_true q))]
      have heqx:RK rk (arrOf st3) (lo+x)=RK rk (arrOf st3) (lo+x-1):=by omega
      refine hV ⟨neq+1,rfl,kp,hd.up (by omega) (by omega) fun _=>rfl,by omega,fun i q1 q2=>?_⟩
      have e1:lo+(x+1)-1=lo+x:=by omega
      rw[e1]
      by_cases hix:i=lo+x
      ·rw[hix]
      ·rw[heqx];exact he i (by omega) (by omega)
   ·rintro c st3 ⟨neq,rfl,kp,hd,hq,he⟩
    have e:max (n+1) nrem=nrem:=by omega
    rw[e] at hd hq he ⊢
    exact⟨nrem,neq,rfl,kp,by omega,hC _,hd,hq,he⟩
   rintro c st3 ⟨m,neq,rfl,kp,hm1,hm2,hd,hq,he⟩
   have hz:=kp.size
   dsimp only
   have rest:∀(st4:ji),Kp st' st4 lo (lo+nrem)→Dsc rk (arrOf st4) lo (lo+m)→∀st5,Kp st' st5 lo (lo+nrem)→(∀k,RK rk (arrOf st5) k=if lo≤k∧k<lo+m then RK rk (arrOf st4) (lo+(lo+m)-1-k) else RK rk (arrOf st4) k)→Seg rk (arrOf st5) lo (lo+m):=fun st4 _ d4 st5 _ e5 i j q1 q2 q3=>by
    rw[e5,e5,if_pos (by omega),if_pos (by omega)]
    exact d4 _ _ (by omega) (by omega) (by omega)
   by_cases hneq:neq>0
   ·rw[if_pos hneq]
    refine gz (DZ (rk:=rk) kp (by omega) (by omega) (by omega) he fun st4 kp4 hRK=>?_)
    have d4:Dsc rk (arrOf st4) lo (lo+m):=fun i j q1 q2 q3=>by rw[hRK,hRK];exact hd i j q1 q2 q3
    have hz4:=kp4.size
    refine gz (Ez (rk:=rk) kp4 (hC _) (by omega) (by omega) fun st5 kp5 e5=>?_)
    have s5:=rest _ kp4 d4 st5 kp5 e5
    have hz5:=kp5.size
    have hU5:=hU.of_perm kp5.perm
    refine gz (kr (ju (I:=fun x c st6=>st6=st5∧c=(none,x)∧Seg rk (arrOf st5) lo (lo+x))
     (Q:=fun c st6=>st6=st5∧∃n,c=(none,n)∧1≤n∧n≤nrem∧Seg rk (arrOf st5) lo (lo+n)) ?_ ?_ ⟨rfl,rfl,s5⟩) ?_)
    ·rintro x c st6 hax hxn ⟨rfl,rfl,hs'⟩
     dsimp only
     refine gz (Ba C (kp5.kd.trans hk) hU5 (by omega) (by omega) ?_)
     dsimp only
     by_cases hless:RK rk (arrOf st6) (lo+x)<RK rk (arrOf st6) (lo+x-1)
     ·rw[if_pos (decide_eq_true hless)]
      exact hV ⟨rfl,x,rfl,by omega,by omega,hs'⟩
     ·rw[if_neg (fun q=>hless (of_decide_eq_true q))]
      exact hV ⟨rfl,rfl,hs'.up (by omega) hless⟩
    ·rintro c st6 ⟨rfl,rfl,hs'⟩
     have e:max m nrem=nrem:=by omega
     rw[e] at hs' ⊢
     exact⟨rfl,nrem,rfl,h1,hC _,hs'⟩
    rintro c st6 ⟨rfl,n5,rfl,q1,q2,q3⟩
    exact hV (h n5 _ kp5 q1 q2 q3)
   ·rw[if_neg hneq]
    have kp4:=kp
    have d4:=hd
    have hz4:=hz
    refine gz (Ez (rk:=rk) kp4 (hC _) (by omega) (by omega) fun st5 kp5 e5=>?_)
    have s5:=rest _ kp4 d4 st5 kp5 e5
    have hz5:=kp5.size
    have hU5:=hU.of_perm kp5.perm
    refine gz (kr (ju (I:=fun x c st6=>st6=st5∧c=(none,x)∧Seg rk (arrOf st5) lo (lo+x))
     (Q:=fun c st6=>st6=st5∧∃n,c=(none,n)∧1≤n∧n≤nrem∧Seg rk (arrOf st5) lo (lo+n)) ?_ ?_ ⟨rfl,rfl,s5⟩) ?_)
    ·rintro x c st6 hax hxn ⟨rfl,rfl,hs'⟩
     dsimp only
     refine gz (Ba C (kp5.kd.trans hk) hU5 (by omega) (by omega) ?_)
     dsimp only
     by_cases hless:RK rk (arrOf st6) (lo+x)<RK rk (arrOf st6) (lo+x-1)
     ·rw[if_pos (decide_eq_true hless)]
      exact hV ⟨rfl,x,rfl,by omega,by omega,hs'⟩
     ·rw[if_neg (fun q=>hless (of_decide_eq_true q))]
      exact hV ⟨rfl,rfl,hs'.up (by omega) hless⟩
    ·rintro c st6 ⟨rfl,rfl,hs'⟩
     have e:max m nrem=nrem:=by omega
     rw[e] at hs' ⊢
     exact⟨rfl,nrem,rfl,h1,hC _,hs'⟩
    rintro c st6 ⟨rfl,n5,rfl,q1,q2,q3⟩
    exact hV (h n5 _ kp5 q1 q2 q3)
end
end SrtG
namespace SrtG
local macro_rules | `(tactic| omega) => `(tactic| first | lia | omega)
open PySem PyProof.Rows
variable{rk:Keyed→Int}
abbrev RG:=Nat×Nat×Nat
def Cov(rk:Keyed→Int)(arr:Array Keyed):Nat→List RG→Nat→Prop
 |a,[],hi=>a=hi
 |a,e::l,hi=>e.1=a∧0<e.2.1∧Seg rk arr a (a+e.2.1)∧Cov rk arr (a+e.2.1) l hi
theorem Cov.le{arr:Array Keyed}:∀{l:List RG} {a hi:Nat},Cov rk arr a l hi→a+l.length≤hi
 | [],a,hi,h=>by have:a=hi:=h;simp only[kH];omega
 |e::l,a,hi,h=>by have:=Cov.le h.2.2.2;have:=h.2.1;rw[iw];omega
theorem Cov.app{arr:Array Keyed}:∀{l1:List RG} {l2:List RG} {a hi:Nat},Cov rk arr a (l1++l2) hi↔∃m,Cov rk arr a l1 m∧Cov rk arr m l2 hi
 | [],l2,a,hi=> ⟨fun h=> ⟨a,rfl,h⟩,fun⟨m,h1,h2⟩=>by have:a=m:=h1;subst this;exact h2⟩
 |e::l1,l2,a,hi=> ⟨fun⟨h1,h2,h3,h4⟩=>by
   obtain⟨m,q1,q2⟩:=Cov.app.mp h4
   exact⟨m,⟨h1,h2,h3,q1⟩,q2⟩,fun⟨m,⟨h1,h2,h3,h4⟩,q2⟩=> ⟨h1,h2,h3,Cov.app.mpr ⟨m,h4,q2⟩⟩⟩
theorem Cov.cong{arr arr':Array Keyed}:∀{l:List RG} {a hi:Nat},(∀x,a≤x→x<hi→RK rk arr' x=RK rk arr x)→Cov rk arr a l hi→Cov rk arr' a l hi
 | [],_,_,_,h=>h
 |e::l,a,hi,hx,⟨h1,h2,h3,h4⟩=>by
  have hl:=h4.le
  exact⟨h1,h2,fun x y q1 q2 q3=>by rw[hx x q1 (by omega),hx y (by omega) (by omega)];exact h3 x y q1 q2 q3,h4.cong fun x q1 q2=>hx x (by omega) q2⟩
theorem Xy{p:Array RG}{i:Nat}(h:i+1<p.size):∃l1 e1 e2 l2,p.toList=l1++e1::e2::l2∧l1.length=i∧p[i]?=some e1∧p[i+1]?=some e2:=by
 have hl:p.toList.length=p.size:=iq
 have h1:i<p.toList.length:=by omega
 have h2:i+1<p.toList.length:=by omega
 refine⟨p.toList.take i,p.toList[i],p.toList[i+1],p.toList.drop (i+2),?_,?_,?_,?_⟩
 ·rw[←ku h2,←ku h1,jq]
 ·rw[iH];omega
 ·rw[←iR];exact b6 h1
 ·rw[←iR];exact b6 h2
theorem Xz{p:Array RG}{i:Nat}{e e1 e2:RG}{l1 l2:List RG}(hp:p.toList=l1++e1::e2::l2)(hl:l1.length=i):((p.setIfInBounds i e).eraseIdxIfInBounds (i+1)).toList=l1++e::l2:=by
 have hz:i+1<p.size:=by
  rw[←iq,hp,iB,iw,iw];omega
 have hz':i+1< (p.setIfInBounds i e).size:=by rw[Array.size_setIfInBounds];exact hz
 unfold Array.eraseIdxIfInBounds
 rw[dif_pos hz',Array.toList_eraseIdx,Array.toList_setIfInBounds,hp]
 subst hl
 rw[List.set_append_right _ _ (hC _),Nat.sub_self,List.set_cons_zero,List.eraseIdx_append_of_length_le (by omega)]
 have e:l1.length+1-l1.length=1:=by omega
 rw[e]
 rfl
structure Bs(kd:mK)(a₀:Array Keyed)(st:ji):Prop where
 kd:kindOf st=kd
 fl:me st=none
 perm:(arrOf st).toList.Perm a₀.toList
theorem Bs.size{kd:mK}{a₀:Array Keyed}{st:ji}(b:Bs kd a₀ st):(arrOf st).size=a₀.size:=by
 rw[←iq,←iq];exact b.perm.length_eq
theorem Bs.kp{kd:mK}{a₀:Array Keyed}{st st':ji}{lo hi:Nat}(b:Bs kd a₀ st)(k:Kp st st' lo hi):Bs kd a₀ st':=⟨k.kd.trans b.kd,k.fl.trans b.fl,k.perm.trans b.perm⟩
section
variable{prog:Program}{w:World}{A:iC}{E:Value→a9→Prop}{s:a9}{kd:mK}{U:Keyed→Prop}{a₀:Array Keyed}
theorem Ea{i hi:Nat}{st:ji}{Q:Bool→ji→Prop}(C:QR prog w A E s kd U rk)(hU:AllU U a₀)(b:Bs kd a₀ st)(hc:Cov rk (arrOf st) 0 (pendingOf st).toList hi)(hhi:hi≤a₀.size)(hi1:i+1< (pendingOf st).size)
  (h:∀st',Bs kd a₀ st'→Cov rk (arrOf st') 0 (pendingOf st').toList hi→(pendingOf st').size+1=(pendingOf st).size→(∀x,hi≤x→RK rk (arrOf st') x=RK rk (arrOf st) x)→Q true st'):wpS (model prog w) A E s (mergeAt' i) Q st:=by
 obtain⟨l1,⟨s1,n1,p1⟩,⟨s2,n2,p2⟩,l2,hp,hl,e1,e2⟩:=Xy hi1
 have hc0:=hc
 rw[hp] at hc0
 obtain⟨m,c1,q1,q2,q3,q4,q5,q6,q7⟩:=Cov.app.mp hc0
 dsimp only at q1 q2 q3 q4 q5 q6 q7
 subst q1
 have hle:=q7.le
 have hz:=b.size
 refine LL C b.kd (hU.of_perm b.perm) b.fl e1 e2 q4 q2 q5 (by omega) (by rw[q4];exact q3) (by rw[q4];exact q6) fun st' k1 k2 k3 u=>?_
 have hj:=Xz (e:=(s1,n1+n2,p1)) hp hl
 have c1le:=c1.le
 refine h st' ⟨k1,k2,u.perm.trans b.perm⟩ ?_ ?_ ?_
 ·rw[k3,hj]
  refine Cov.app.mpr ⟨s1,c1.cong fun x _ hx=>Cc (u.out x (.inl hx)),rfl,by show 0<n1+n2;omega,?_,?_⟩
  ·show Seg rk (arrOf st') s1 (s1+(n1+n2))
   have:=u.seg
   rw[q4,qW] at this
   exact this
  ·show Cov rk (arrOf st') (s1+(n1+n2)) l2 hi
   rw[←qW]
   exact q7.cong fun x hx _=>Cc (u.out x (.inr (by omega)))
 ·rw[←iq,←iq,k3,hj,hp,iB,iB,iw,iw,iw]
  omega
 ·intro x hx
  exact Cc (u.out x (.inr (by omega)))
end
end SrtG
namespace SrtG
local macro_rules | `(tactic| omega) => `(tactic| first | lia | omega)
open PySem PyProof.Rows
variable{rk:Keyed→Int}
theorem Cov.shape{arr:Array Keyed}:∀{l l':List RG} {a hi:Nat},l'.map (fun e=> (e.1,e.2.1))=l.map (fun e=> (e.1,e.2.1))→Cov rk arr a l hi→Cov rk arr a l' hi
 | [],[],_,_,_,h=>h
 |e::l,e'::l',a,hi,hm,⟨h1,h2,h3,h4⟩=>by
  rw[iN,iN] at hm
  injection hm with hm1 hm2
  injection hm1 with q1 q2
  exact⟨q1.trans h1,by rw[q2];exact h2,by rw[q2];exact h3,by rw[q2];exact h4.shape hm2⟩
 | [],_::_,_,_,hm,_=>by cases hm
 |_::_,[],_,_,hm,_=>by cases hm
theorem Cov.power{arr:Array Keyed}{p:Array RG}{i pw hi:Nat}(h:Cov rk arr 0 p.toList hi):Cov rk arr 0 (p.modify i fun e=> (e.1,e.2.1,pw)).toList hi:=by
 refine h.shape ?_
 apply jy
 intro j
 rw[e7,e7,iR,iR,Array.getElem?_modify]
 split
 ·cases p[j]?<;>rfl
 ·rfl
section
variable{prog:Program}{w:World}{A:iC}{E:Value→a9→Prop}{s:a9}{kd:mK}{U:Keyed→Prop}{a₀:Array Keyed}
theorem RH{st:ji}{Q:Unit→ji→Prop}(C:QR prog w A E s kd U rk)(hU:AllU U a₀)(b:Bs kd a₀ st)(hp:pendingOf st= #[])
  (h:∀st',Bs kd a₀ st'→Fh rk (arrOf st')→Q () st'):wpS (model prog w) A E s sortRuns' Q st:=by
 rw[sortRuns'_eq]
 refine gz (ny ?_)
 dsimp only
 have hz:=b.size
 refine gz (kr (ju
  (I:=fun x c st'=>∃lo,c=(none,lo)∧x≤lo∧lo≤(arrOf st).size∧Bs kd a₀ st'∧Cov rk (arrOf st') 0 (pendingOf st').toList lo)
  (Q:=fun c st'=>c.1=none∧Bs kd a₀ st'∧Cov rk (arrOf st') 0 (pendingOf st').toList (arrOf st).size) ?step ?fin ⟨0,rfl,hC _,jl _,b,by rw[hp];rfl⟩) ?post)
 case fin=>
  rintro c st' ⟨lo,rfl,h1,h2,bs,cv⟩
  have e:lo=(arrOf st).size:=by omega
  subst e
  exact⟨rfl,bs,cv⟩
 case step=>
  rintro x c st1 _ hx ⟨lo,rfl,h1,h2,bs,cv⟩
  dsimp only
  have hz1:=bs.size
  by_cases cl:lo≥(arrOf st).size
  ·rw[if_pos cl]
   have e:lo=(arrOf st).size:=by omega
   subst e
   exact hV ⟨rfl,bs,cv⟩
  rw[if_neg cl]
  have nextOf:∀(st3:ji) (n:Nat),Bs kd a₀ st3→Cov rk (arrOf st3) 0 (pendingOf st3).toList lo→0<n→lo+n≤(arrOf st).size→Seg rk (arrOf st3) lo (lo+n)→∀{c:Option PUnit×Nat},c=(none,lo+n)→∃lo',c=(none,lo')∧x+1≤lo'∧lo'≤(arrOf st).size∧Bs kd a₀ (oJ st3 ((pendingOf st3).push (lo,n,0)))∧Cov rk (arrOf (oJ st3 ((pendingOf st3).push (lo,n,0)))) 0 (pendingOf (oJ st3 ((pendingOf st3).push (lo,n,0)))).toList lo':=fun st3 n bs3 cv3 hpos hfit sg c hc=>by
   refine⟨lo+n,hc,by omega,hfit,⟨bs3.kd,bs3.fl,bs3.perm⟩,?_⟩
   show Cov rk (arrOf st3) 0 ((pendingOf st3).push (lo,n,0)).toList (lo+n)
   rw[lV]
   exact Cov.app.mpr ⟨lo,cv3,rfl,hpos,sg,rfl⟩
  refine gz (Mn C bs.kd (hU.of_perm bs.perm) (by omega) (by omega) fun n st2 kp2 hn1 hn2 sg2=>?_)
  have bs2:=bs.kp kp2
  have cv2:Cov rk (arrOf st2) 0 (pendingOf st2).toList lo:=by
   rw[kp2.pd]
   exact cv.cong fun x _ hx=>Cc (kp2.out x (.inl hx))
  dsimp only
  by_cases cm:n<qM (arrOf st).size (arrOf st).size 0
  ·rw[if_pos cm]
   refine gz (oH (lx ⟨rfl,?_⟩))
   have hz2:=bs2.size
   refine gz (Mm (n:=min ((arrOf st).size-lo) (qM (arrOf st).size (arrOf st).size 0)) C bs2.kd (hU.of_perm bs2.perm) (by omega) (by omega) sg2 fun st3 kp3 sg3=>?_)
   rw[if_neg (by decide)]
   have bs3:=bs2.kp kp3
   have cv3:Cov rk (arrOf st3) 0 (pendingOf st3).toList lo:=by
    rw[kp3.pd]
    exact cv2.cong fun x _ hx=>Cc (kp3.out x (.inl hx))
   have hpos:0<min ((arrOf st).size-lo) (qM (arrOf st).size (arrOf st).size 0):=by omega
   have hfit:lo+min ((arrOf st).size-lo) (qM (arrOf st).size (arrOf st).size 0)≤(arrOf st).size:=by omega
   refine gz (ny ?_)
   cases hb:(pendingOf st3).back? with
   |none=>
    dsimp only
    exact gz (mi (hV (nextOf st3 _ bs3 cv3 hpos hfit sg3 rfl)))
   |some e=>
    obtain⟨s1,n1,p1⟩:=e
    dsimp only
    refine gz (kr (ju (I:=fun _ c st4=>c=(none,())∧Bs kd a₀ st4∧Cov rk (arrOf st4) 0 (pendingOf st4).toList lo∧∀x,lo≤x→RK rk (arrOf st4) x=RK rk (arrOf st3) x)
     (Q:=fun c st4=>c=(none,())∧Bs kd a₀ st4∧Cov rk (arrOf st4) 0 (pendingOf st4).toList lo∧∀x,lo≤x→RK rk (arrOf st4) x=RK rk (arrOf st3) x) ?_ (fun _ _ q=>q) ⟨rfl,bs3,cv3,fun _ _=>rfl⟩) ?_)
    ·rintro y c st4 _ _ ⟨rfl,bs4,cv4,ou4⟩
     refine gz (ny ?_)
     by_cases cp:(pendingOf st4).size>1
     ·rw[if_pos cp]
      obtain⟨o1,o2,o3⟩:=(pendingOf st4)[(pendingOf st4).size-2]
      have hge:(pendingOf st4)[(pendingOf st4).size-2]?=some (pendingOf st4)[(pendingOf st4).size-2]:=getElem?_pos _ _ (by omega)
      rw[hge]
      dsimp only
      by_cases co:(pendingOf st4)[(pendingOf st4).size-2].2.2≤power' (arrOf st).size (2*s1+n1) (2*s1+n1+n1+min ((arrOf st).size-lo) (qM (arrOf st).size (arrOf st).size 0)) (arrOf st).size
      ·rw[if_pos co]
       exact hV ⟨rfl,bs4,cv4,ou4⟩
      ·rw[if_neg co]
       refine gz (Ea C hU bs4 cv4 (by omega) (by omega) fun st5 bs5 cv5 _ ou5=>?_)
       rw[if_neg (by decide)]
       exact hV ⟨rfl,bs5,cv5,fun x hx=> (ou5 x hx).trans (ou4 x hx)⟩
     ·rw[if_neg cp]
      exact hV ⟨rfl,bs4,cv4,ou4⟩
    ·rintro c st4 ⟨rfl,bs4,cv4,ou4⟩
     dsimp only
     refine gz (mi ?_)
     refine gz (mi (hV ?_))
     have sg4:Seg rk (arrOf st4) lo (lo+min ((arrOf st).size-lo) (qM (arrOf st).size (arrOf st).size 0)):=fun i j q1 q2 q3=>by rw[ou4 i q1,ou4 j (by omega)];exact sg3 i j q1 q2 q3
     exact nextOf (oJ st4 ((pendingOf st4).modify ((pendingOf st4).size-1) fun e=> (e.1,e.2.1,power' (arrOf st).size (2*s1+n1) (2*s1+n1+n1+min ((arrOf st).size-lo) (qM (arrOf st).size (arrOf st).size 0)) (arrOf st).size))) _ ⟨bs4.kd,bs4.fl,bs4.perm⟩ (Cov.power cv4) hpos hfit sg4 rfl
  ·rw[if_neg cm]
   have bs3:=bs2
   have cv3:=cv2
   have sg3:=sg2
   have hpos:0<n:=by omega
   have hfit:lo+n≤(arrOf st).size:=by omega
   refine gz (ny ?_)
   cases hb:(pendingOf st2).back? with
   |none=>
    dsimp only
    exact gz (mi (hV (nextOf st2 _ bs3 cv3 hpos hfit sg3 rfl)))
   |some e=>
    obtain⟨s1,n1,p1⟩:=e
    dsimp only
    refine gz (kr (ju (I:=fun _ c st4=>c=(none,())∧Bs kd a₀ st4∧Cov rk (arrOf st4) 0 (pendingOf st4).toList lo∧∀x,lo≤x→RK rk (arrOf st4) x=RK rk (arrOf st2) x)
     (Q:=fun c st4=>c=(none,())∧Bs kd a₀ st4∧Cov rk (arrOf st4) 0 (pendingOf st4).toList lo∧∀x,lo≤x→RK rk (arrOf st4) x=RK rk (arrOf st2) x) ?_ (fun _ _ q=>q) ⟨rfl,bs3,cv3,fun _ _=>rfl⟩) ?_)
    ·rintro y c st4 _ _ ⟨rfl,bs4,cv4,ou4⟩
     refine gz (ny ?_)
     by_cases cp:(pendingOf st4).size>1
     ·rw[if_pos cp]
      obtain⟨o1,o2,o3⟩:=(pendingOf st4)[(pendingOf st4).size-2]
      have hge:(pendingOf st4)[(pendingOf st4).size-2]?=some (pendingOf st4)[(pendingOf st4).size-2]:=getElem?_pos _ _ (by omega)
      rw[hge]
      dsimp only
      by_cases co:(pendingOf st4)[(pendingOf st4).size-2].2.2≤power' (arrOf st).size (2*s1+n1) (2*s1+n1+n1+n) (arrOf st).size
      ·rw[if_pos co]
       exact hV ⟨rfl,bs4,cv4,ou4⟩
      ·rw[if_neg co]
       refine gz (Ea C hU bs4 cv4 (by omega) (by omega) fun st5 bs5 cv5 _ ou5=>?_)
       rw[if_neg (by decide)]
       exact hV ⟨rfl,bs5,cv5,fun x hx=> (ou5 x hx).trans (ou4 x hx)⟩
     ·rw[if_neg cp]
      exact hV ⟨rfl,bs4,cv4,ou4⟩
    ·rintro c st4 ⟨rfl,bs4,cv4,ou4⟩
     dsimp only
     refine gz (mi ?_)
     refine gz (mi (hV ?_))
     have sg4:Seg rk (arrOf st4) lo (lo+n):=fun i j q1 q2 q3=>by rw[ou4 i q1,ou4 j (by omega)];exact sg3 i j q1 q2 q3
     exact nextOf (oJ st4 ((pendingOf st4).modify ((pendingOf st4).size-1) fun e=> (e.1,e.2.1,power' (arrOf st).size (2*s1+n1) (2*s1+n1+n1+n) (arrOf st).size))) _ ⟨bs4.kd,bs4.fl,bs4.perm⟩ (Cov.power cv4) hpos hfit sg4 rfl
 case post=>
  rintro⟨c1,c2⟩ st1 ⟨e,bs,cv⟩
  cases e
  dsimp only
  have done:∀st',Bs kd a₀ st'→Cov rk (arrOf st') 0 (pendingOf st').toList (arrOf st).size→(pendingOf st').size≤1→Fh rk (arrOf st'):=fun st' bs' cv' hl=>by
   have hz':=bs'.size
   intro i j hij hj
   rw[←iq] at hl
   revert cv' hl
   generalize (pendingOf st').toList=l
   intro cv' hl
   match l,cv',hl with
   | [],cv',_=>
    have:0=(arrOf st).size:=cv'
    omega
   | [e],cv',_=>
    obtain⟨q1,q2,q3,q4⟩:=cv'
    have:0+e.2.1=(arrOf st).size:=q4
    exact q3 i j (by omega) hij (by omega)
   |_::_::_,_,hl=>simp only[iw] at hl;omega
  have hlen:=cv.le
  rw[iq] at hlen
  refine gz (kr (ju (I:=fun x c st'=>c=(none,())∧Bs kd a₀ st'∧Cov rk (arrOf st') 0 (pendingOf st').toList (arrOf st).size∧(pendingOf st').size+x≤(arrOf st).size)
   (Q:=fun c st'=>c=(none,())∧Bs kd a₀ st'∧Cov rk (arrOf st') 0 (pendingOf st').toList (arrOf st).size∧(pendingOf st').size≤1) ?_ ?_ ⟨rfl,bs,cv,by omega⟩) ?_)
  ·rintro x c st2 _ hx ⟨rfl,bs2,cv2,hm⟩
   refine gz (ny ?_)
   by_cases cp:(pendingOf st2).size≤1
   ·rw[if_pos cp]
    exact hV ⟨rfl,bs2,cv2,cp⟩
   ·rw[if_neg cp]
    refine gz (Ea C hU bs2 cv2 (by omega) ?_ fun st5 bs5 cv5 hs5 _=>?_)
    ·split<;>split<;>omega
    ·rw[if_neg (by decide)]
     exact hV ⟨rfl,bs5,cv5,by omega⟩
  ·rintro c st2 ⟨rfl,bs2,cv2,hm⟩
   exact⟨rfl,bs2,cv2,by omega⟩
  ·rintro c st2 ⟨rfl,bs2,cv2,hm⟩
   exact hV (h _ bs2 (done _ bs2 cv2 hm))
end
end SrtG
namespace SrtG
open PySem PyProof.Rows
def Mo(h:Heap)(v:Value)(a b:Int):Prop:=∃x o t u n,v=.ref x∧h.get? x=some o∧o.data=.seq #[.int a t,.int b u] n
def UC(h:Heap)(k:Keyed):Int:=match k.1 with
  | .ref x=>match h.get? x with
    |some o=>match o.data with
     | .seq xs _=>match (xs[0]?:Option Value),(xs[1]?:Option Value) with
      |some (.int a _),some (.int b _)=>65536*a+b
      |_,_=>0
     |_=>0
    |_=>0
  |_=>0
theorem Fj{h:Heap}{k:Keyed}{a b:Int}(p:Mo h k.1 a b):UC h k=65536*a+b:=by
 obtain⟨x,o,t,u,n,e1,e2,e3⟩:=p
 unfold UC
 rw[e1]
 dsimp only
 rw[e2]
 dsimp only
 rw[e3]
 rfl
def ao(h:Heap)(k:Keyed):Prop:=∃a b,Mo h k.1 a b∧0≤b∧b<65536
variable{prog:Program}{w:World}{A:iC}{E:Value→a9→Prop}{s:a9}
theorem Ph:QR prog w A E s (tuples' true) (ao s.heap) (UC s.heap):=by
 intro st x y Q hk hx hy h
 obtain⟨a,b,px,b0,b1⟩:=hx
 obtain⟨c,d,py,d0,d1⟩:=hy
 rw[Fj px,Fj py] at h
 obtain⟨p,o,t,u,n,e1,e2,e3⟩:=px
 obtain⟨p',o',t',u',n',e1',e2',e3'⟩:=py
 rw[lt'_eq]
 refine gz (ny ?_)
 rw[hk,e1,e1']
 refine gz (oH (mz ?_))
 refine PySem.W.kat_lt e2 e3 e2' e3' ?_
 have fin:∀r:Bool,r=decide (65536*a+b<65536*c+d)→(s=s∧wpS (model prog w) A E s (match (Except.ok r:Except Value Bool) with
   | .ok b=>pure (some b)
   | .error e=>do
    modify (fun s=>p7 (kindOf s) (arrOf s) (pendingOf s) (gallopOf s) (some e))
    pure none) Q st):=fun r hr=> ⟨rfl,by rw[hr];exact hV h⟩
 refine PySem.W.kat_cons (pL ?_)
 refine PySem.W.kat_go (fun e=>?_) (fun e=>?_)
 ·have e':=eq_of_beq e
  refine PySem.W.kat_yes (PySem.W.kat_cons (pL ?_))
  refine PySem.W.kat_go (fun q=>?_) (fun q=>?_)
  ·have q':=eq_of_beq q
   exact PySem.W.kat_yes (PySem.W.kat_nil (fin _ (by rw[e',q'];simp)))
  ·exact PySem.W.kat_no (PySem.W.kat_one _ _ (lt_int (fin _ (by congr 1;rw[e'];apply propext;constructor<;>intro<;>omega))))
 ·have e':a≠c:=fun q=>by rw[q] at e;simp at e
  refine PySem.W.kat_no (oneLt_int (fin _ ?_))
  congr 1
  apply propext
  constructor<;>intro<;>omega
open PySem.Calls PySem.W
theorem HV:∀(vs:List Value),vs.zip vs=vs.map fun v=> (v,v)
 | []=>rfl
 |v::vs=>by rw[oR,iN,HV vs]
structure Rk(prog:Program)(w:World)(U:Heap→Value→Prop)(rk:Heap→Value→Int)(T:Value):Prop where
 cmp:∀{A:iC} {E:Value→a9→Prop} {s:a9},QR prog w A E s (tuples' true) (fun k=>U s.heap k.1) (fun k=>rk s.heap k.1)
 kept:∀{h h':Heap} {v:Value},U h v→(∀b o,o.cls=.type "tuple"→h.get? b=some o→h'.get? b=some o)→U h' v∧rk h' v=rk h v
 kat:∀{h:Heap} {vs:List Value},(∀v∈vs,U h v)→∃fs:List Value,KatTups h vs fs∧fs.length=vs.length∧∀v∈fs,∀M h',Looks M h' (typeOf v) T
 t1:(T==T)=true
 t2:(T !=mq "tuple")=true
section
variable{prog:Program}{w:World}{A:iC}{E:Value→a9→Prop}{s:a9}{U:Heap→Value→Prop}{rk:Heap→Value→Int}{T:Value}
theorem Ui{vs:List Value}{Q:ji→a9→Prop}(R:Rk prog w U rk T)(ok:∀v∈vs,U s.heap v)
  (h:∀st',me st'=none→((arrOf st').map (·.2)).toList.Perm vs→((arrOf st').map (·.2)).toList.Pairwise (fun x y=>rk s.heap x≤rk s.heap y)→Q st' s):
  wpAny (model prog w) A ((sortRuns').run (p7 (tuples' true) (vs.toArray.zip vs.toArray) #[] 7 none)) (fun r s'=>Q r.2 s') E s:=by
 have hz:(vs.toArray.zip vs.toArray)=(vs.map fun v=> (v,v)).toArray:=by
  apply mP
  rw[Array.toList_zip]
  show vs.zip vs=vs.map fun v=> (v,v)
  exact HV vs
 have hU:AllU (fun k=>U s.heap k.1) (vs.toArray.zip vs.toArray):=fun i p e=>by
  rw[hz] at e
  have e':(vs.map fun v=> ((v,v):Keyed))[i]?=some p:=by rw[←iR] at e;exact e
  obtain⟨v,hv,rfl⟩:=ig.mp (hZ e')
  exact ok v hv
 have hwp:wpS (model prog w) A E s sortRuns' (fun _ st'=>Q st' s) (p7 (tuples' true) (vs.toArray.zip vs.toArray) #[] 7 none):=by
  refine RH (a₀:=vs.toArray.zip vs.toArray) (rk:=fun k=>rk s.heap k.1) R.cmp hU ⟨rfl,rfl,lM.refl _⟩ rfl fun st' b srt=>?_
  have hpm:=b.perm
  rw[hz] at hpm
  have hsame:∀k,k∈(arrOf st').toList→k=(k.2,k.2):=fun k hk=>by
   obtain⟨v,_,rfl⟩:=ig.mp (hpm.mem_iff.mp hk)
   rfl
  refine h st' b.fl ?_ ?_
  ·rw[pV]
   have:=hpm.map (fun k:Keyed=>k.2)
   rw[show((vs.map fun v=> ((v,v):Keyed)).toArray.toList.map fun k:Keyed=>k.2)=vs from by
    show(vs.map fun v=> ((v,v):Keyed)).map (fun k:Keyed=>k.2)=vs
    rw[i7]
    exact qA vs] at this
   exact this
  ·rw[pV,jc]
   refine jn.mpr fun i j hi hj hij=>?_
   have hi':i< (arrOf st').size:=by rw[←iq];exact hi
   have hj':j< (arrOf st').size:=by rw[←iq];exact hj
   have q:=srt i j (mT hij) hj'
   rw[BC hi',BC hj'] at q
   have e1:=hsame (arrOf st').toList[i] (jg hi)
   have e2:=hsame (arrOf st').toList[j] (jg hj)
   rw[←(show(arrOf st').toList[i].1=(arrOf st').toList[i].2 from congrArg kI e1),←(show(arrOf st').toList[j].1=(arrOf st').toList[j].2 from congrArg kI e2)]
   exact q
 exact mn hwp (fun r s' q=>by rw[q.1];exact q.2) fun _ _ e=>e
theorem RI{a:Addr}{vs:List Value}{n:Nat}{P:rY→a9→Prop}(ho:s.heap.get? a=some (jG "list" vs.toArray n))(R:Rk prog w U rk T)(ok:∀v∈vs,U s.heap v)(h2:2≤vs.length)(hn:vs.length≤9000000)
  (h:∀out c h',out.Perm vs→out.Pairwise (fun x y=>rk s.heap x≤rk s.heap y)→h'.get? a=some (jG "list" (rP out) c)→(∀b o,b≠a→s.heap.get? b=some o→h'.get? b=some o)→P (.done (.ret .none)) {s with heap:=h'}):
  wpAny (model prog w) A (Builtin.«list.sort» ⟨[.ref a],[]⟩) P E s:=by
 obtain⟨e1,ho1⟩:∃e1,(s.heap.update a (kl fun _=> (#[]:Array Value))).get? a=some (jG "list" #[] e1):=⟨_,om ho fun _=> #[]⟩
 have keep:∀b o,b≠a→s.heap.get? b=some o→(((s.heap.update a (kl fun _=> (#[]:Array Value))).push (jG "tuple" vs.toArray 0)).push (jG "list" #[] 0)).get? b=some o:=fun b o hb e=>
  e6 _ (e6 _ (by rw[mZ _ _ _ _ hb];exact e))
 have keepT:∀b o,o.cls=.type "tuple"→s.heap.get? b=some o→(((s.heap.update a (kl fun _=> (#[]:Array Value))).push (jG "tuple" vs.toArray 0)).push (jG "list" #[] 0)).get? b=some o:=fun b o ht e=>by
  refine keep b o (fun q=>?_) e
  rw[q,ho] at e
  cases e
  exact absurd (show mq "list" =mq "tuple" from ht) (by decide)
 have ho3:(((s.heap.update a (kl fun _=> (#[]:Array Value))).push (jG "tuple" vs.toArray 0)).push (jG "list" #[] 0)).get? a=some (jG "list" #[] e1):=e6 _ (e6 _ ho1)
 have ok3:∀v∈vs,U _ v:=fun v hv=> (R.kept (ok v hv) keepT).1
 have rk3:∀v∈vs,rk _ v=rk s.heap v:=fun v hv=> (R.kept (ok v hv) keepT).2
 rw[list_sort_plain]
 refine a7 (listItems_at ho rfl ?_)
 refine a7 (pC ho rfl ?_ (by rw[iu,jC];omega) (jl _))
 refine a7 (qr ho1 rfl ?_)
 refine a7 (qp ?_ (by show vs.length≤_;rw[jC];omega))
 refine a7 (nU ?_ (jl _))
 refine je ?_
 show wpAny (model prog w) A _ P E {s with heap:=((s.heap.update a (kl fun _=> (#[]:Array Value))).push (jG "tuple" vs.toArray 0)).push (jG "list" #[] 0)}
 generalize hG:((s.heap.update a (kl fun _=> (#[]:Array Value))).push (jG "tuple" vs.toArray 0)).push (jG "list" #[] 0)=G at keep ho3 ok3 rk3 ⊢
 dsimp only
 have hn2:¬vs.toArray.size<2:=by rw[iu];omega
 rw[if_neg hn2,if_neg hn2]
 obtain⟨fs,kt,hl,hf⟩:=R.kat ok3
 refine a7 (kat_kind (s:={s with heap:=G}) (T:=T) kt (by omega) (fun v hv=>hf v hv _ _) R.t1 ?_)
 rw[R.t2]
 refine a7 (mn (Ui (s:={s with heap:=G}) (Q:=fun st' s'=>s'={s with heap:=G}∧me st'=none∧((arrOf st').map (·.2)).toList.Perm vs∧((arrOf st').map (·.2)).toList.Pairwise (fun x y=>rk G x≤rk G y)) R ok3 (fun st' a1 a2 a3=> ⟨rfl,a1,a2,a3⟩)) ?_ fun _ _ e=>e)
 rintro⟨⟨⟩,st'⟩ s' ⟨rfl,hfl,hpm,hpw⟩
 dsimp only
 have hsz:((arrOf st').map (·.2)).size=vs.length:=by rw[←iq];exact hpm.length_eq
 obtain⟨c2,hc2⟩:∃c2,(G.update a (kl fun _=> (arrOf st').map (·.2))).get? a=some (jG "list" ((arrOf st').map (·.2)) c2):=⟨_,om ho3 fun _=> (arrOf st').map (·.2)⟩
 refine a7 (qr ho3 rfl ?_)
 refine a7 (pC ho3 rfl ?_ (jl _) (jv (Nat.le_of_eq hsz) (by rw[jC];omega)))
 rw[hfl]
 simp only[bne_self_eq_false,iK,if_false]
 refine b9 (h ((arrOf st').map (·.2)).toList c2 _ hpm ?_ hc2 fun b o hb e=>by rw[mZ _ _ _ _ hb];exact keep b o hb e)
 refine k9 (fun{x y} hx hy q=>?_) hpw
 rw[rk3 _ (hpm.mem_iff.mp hx),rk3 _ (hpm.mem_iff.mp hy)] at q
 exact q
end
def TupAt(h:Heap)(v:Value)(a b:Int):Prop:=∃x o t u n,v=.ref x∧h.get? x=some o∧o.cls=.type "tuple"∧o.data=.seq #[.int a t,.int b u] n
def TupsOk(h:Heap)(vs:List Value):Prop:=∀v,v∈vs→∃a b,TupAt h v a b∧0≤b∧b<65536
theorem TupAt.pair{h:Heap}{v:Value}{a b:Int}(t:TupAt h v a b):Mo h v a b:=by
 obtain⟨x,o,t,u,n,e1,e2,_,e4⟩:=t
 exact⟨x,o,t,u,n,e1,e2,e4⟩
theorem TupsOk.kat{h:Heap}:∀{vs:List Value},TupsOk h vs→∃fs:List Value,KatTups h vs fs∧fs.length=vs.length∧∀v∈fs,∃a t,v=.int a t
 | [],_=> ⟨[],KatTups.nil,rfl,fun v hv=>by cases hv⟩
 |v::vs,ok=>by
  obtain⟨fs,k,hl,hf⟩:=TupsOk.kat (vs:=vs) fun v hv=>ok v (.tail _ hv)
  obtain⟨a,b,⟨x,o,t,u,n,rfl,e,hc,hd⟩,_,_⟩:=ok v (.head _)
  exact⟨.int a t::fs,KatTups.cons e hc hd rfl k,by rw[iw,iw,hl],fun v hv=>by
   rcases ic.mp hv with rfl|hv
   ·exact⟨a,t,rfl⟩
   ·exact hf v hv⟩
variable{prog:Program}{w:World}{A:iC}{E:Value→a9→Prop}{s:a9}
theorem TupsOk.kept{h h':Heap}{vs:List Value}(ok:TupsOk h vs)(k:∀b o,o.cls=.type "tuple"→h.get? b=some o→h'.get? b=some o):TupsOk h' vs:=fun v hv=>by
 obtain⟨a,b,⟨x,o,t,u,n,e1,e2,e3,e4⟩,q⟩:=ok v hv
 exact⟨a,b,⟨x,o,t,u,n,e1,k _ _ e3 e2,e3,e4⟩,q⟩
theorem TupsOk.rk{h h':Heap}{vs:List Value}(ok:TupsOk h vs)(k:∀b o,o.cls=.type "tuple"→h.get? b=some o→h'.get? b=some o){v:Value}(hv:v∈vs):UC h' (v,v)=UC h (v,v):=by
 obtain⟨a,b,t,q⟩:=ok v hv
 obtain⟨x,o,t',u,n,e1,e2,e3,e4⟩:=t
 rw[Fj (k:=(v,v)) (TupAt.pair ⟨x,o,t',u,n,e1,e2,e3,e4⟩),Fj (k:=(v,v)) (TupAt.pair ⟨x,o,t',u,n,e1,k _ _ e3 e2,e3,e4⟩)]
theorem RJ:Rk prog w (fun h v=>∃a b,TupAt h v a b∧0≤b∧b<65536) (fun h v=>UC h (v,v)) (.type "int") where
 cmp:=by
  intro A E s st x y Q hk hx hy h
  obtain⟨a,b,t,q⟩:=hx
  obtain⟨c,d,u,r⟩:=hy
  exact Ph st x y Q hk ⟨a,b,t.pair,q⟩ ⟨c,d,u.pair,r⟩ h
 kept:=fun{h h' v} ok k=> ⟨TupsOk.kept (vs:=[v]) (fun u hu=>e9.mp hu▸ok) k v (by simp),TupsOk.rk (vs:=[v]) (fun u hu=>e9.mp hu▸ok) k (by simp)⟩
 kat:=fun{h vs} ok=>by
  obtain⟨fs,kt,hl,hf⟩:=TupsOk.kat ok
  refine⟨fs,kt,hl,fun v hv M h'=>?_⟩
  obtain⟨x,t,rfl⟩:=hf v hv
  exact fun _ _ _ _ _ q=>b9 q
 t1:=rfl
 t2:=rfl
theorem Mp{a:Addr}{vs:List Value}{n:Nat}{P:rY→a9→Prop}(ho:s.heap.get? a=some (jG "list" vs.toArray n))(ok:TupsOk s.heap vs)(h2:2≤vs.length)(hn:vs.length≤4096)
  (h:∀out c h',out.Perm vs→out.Pairwise (fun x y=>UC s.heap (x,x)≤UC s.heap (y,y))→h'.get? a=some (jG "list" (rP out) c)→(∀b o,b≠a→s.heap.get? b=some o→h'.get? b=some o)→P (.done (.ret .none)) {s with heap:=h'}):
  wpAny (model prog w) A (Builtin.«list.sort» ⟨[.ref a],[]⟩) P E s:=RI ho RJ ok h2 (by omega) h
end SrtG
namespace StT
open PySem PySem.SetTable PyProof.Rows
section
variable{prog:Program}{w:World}{A:iC}{E:Value→a9→Prop}{s:a9}
abbrev BH(w:World):Obj:={cls:=.type "set",dict:=none,data:=.set #[] 0 (.fresh 0 0 (!w.params.followText "set-order"))}
theorem LM(a:Value){Q₁:Value→a9→Prop}(h:Q₁ (.ref s.heap.objs.size) {s with heap:=s.heap.push (BH w)}):
  mQ (model prog w) A (.call (.builtin "set.__new__") ⟨[.type "set",a],[]⟩) (wants Q₁ E) s:=by
 refine codeAny_of_tree ?_
 show wpAny _ A.in1 (do pN "set.__new__" ⟨[.type "set",a],[]⟩;again (.builtin "set.__new__" ⟨[.type "set",a],[]⟩)) _ _ s
 refine a7 (nY (PySem.F.newCall_set_1 a) (b9 ⟨mB PySem.F.plain_set_new _,ly PySem.F.entry_set_new ?_⟩))
 rw[lh PySem.F.plain_set_new _]
 unfold Builtin.«set.__new__» Builtin.Frozenset.newClass
 have hsub:=sub_set_self
 obtain⟨hp,g,d,tk,os⟩:=s
 dsimp only
 wp_walk
 refine nN (b9 ?_)
 dsimp only
 simp only[newObj]
 refine a7 (wpAny_alloc (b9 ?_))
 exact b9 h
theorem HW{T newId initId:String}{args:List Value}{Q Q₁:Value→a9→Prop}(ft:TypeCalled T newId initId)
  (hct:checkTypeCall T ⟨args,[]⟩=pure ())
  (hnew:mQ (model prog w) A.in1 (.call (.builtin newId) ⟨.type T::args,[]⟩) (wants Q₁ E) s)
  (hnext:∀obj s₁,Q₁ obj s₁→s₁.TypeIs obj T∧mQ (model prog w) A.in1 (.call (.builtin initId) ⟨obj::args,[]⟩) (wants (fun r s₂=>r=.none∧Q obj s₂) E) s₁):
  wpAny (model prog w) A (call (.type T) args) Q E s:=by
 obtain⟨c,tl,hmro⟩:=ft.mro
 have hmade:=ft.made
 have hsub:=ft.sub
 refine pW (codeAny_of_tree ?_)
 show wpAny _ _ (callAny (.type T) _) _ _ _
 refine b9 ⟨Code.quiet_builtin _ (by decide+kernel),ly PySem.F.entry_type_call ?_⟩
 rw[iC.under_plain (weight_type_call_type T args []) rfl]
 have h1:=ft.notType
 have h2:=ft.canCreate
 repeat (any_goals (first|assumption|wp_step))
 refine oA hnew fun r s₁ hr=>?_
 cases r with
 |error e=>exact hr
 |ok fl=>
  cases fl with
  |ret obj=>
   obtain⟨hT,hsi⟩:=hnext _ _ hr
   have hli:=ft.init.lookup
   have hbi:=ft.init.bind obj
   repeat (any_goals (first|assumption|wp_step))
   refine oA hsi fun r₂ s₂ hr₂=>?_
   cases r₂ with
   |error e=>exact hr₂
   |ok fl₂=>
    cases fl₂ with
    |ret r=>
     obtain⟨rfl,hq⟩:=hr₂
     repeat (any_goals (first|assumption|wp_step))
    |_=>exact hr₂.elim
  |_=>exact hr.elim
theorem HX{l:Addr}{items:Array Value}{ps:List (List Int×Addr)}{Q:Value→a9→Prop}
  (hh:A.handled=none) (hl:s.heap.IsList l items) (hps:items.toList=ps.map fun p=>Value.ref p.2) (hp:∀k x,(k,x)∈ps→IK prog w s.heap k x) (hz:ps.length≤300) (hu:A.units+8<cLine)
  (h:∀(h':Heap) (tk:Nat) (xs:List (List Int×Addr)),SetX prog w h' s.heap.objs.size xs→Jm ps xs→
   (∀b o,b<s.heap.objs.size→s.heap.get? b=some o→h'.get? b=some o)→Q (.ref s.heap.objs.size) {s with heap:=h',toks:=tk}):
  wpAny (model prog w) A (call (.type "set") [.ref l]) Q E s:=by
 refine HW (Q₁:=fun obj s₁=>obj=.ref s.heap.objs.size∧s₁={s with heap:=s.heap.push (BH w)}) nj (PySem.F.typeCall_set_1 _) (LM _ ⟨rfl,rfl⟩) ?_
 rintro obj s₁ ⟨rfl,rfl⟩
 have hS:(s.heap.push (BH w)).get? s.heap.objs.size=some (BH w):=iz _ rfl
 have hT:a9.TypeIs {s with heap:=s.heap.push (BH w)} (.ref s.heap.objs.size) "set":=⟨_,hS,rfl⟩
 refine⟨hT,lO nj.init.plain PySem.F.entry_set_init (check_set_init_1 hT ?_)⟩
 obtain⟨ol,hol,hcl,nl,hdl⟩:=hl
 obtain⟨ocls,odict,odata,oslots⟩:=ol
 simp only at hcl hdl
 subst hcl;subst hdl
 have hol':(s.heap.push (BH w)).get? l=some {cls:=.type "list",dict:=odict,data:=.seq items nl,slots:=oslots}:=e6 _ hol
 have hsls:=PySem.F.sub_list_set
 have hslf:=PySem.F.sub_list_frozenset
 have hne:(mq "list" ==mq "dict")=false:=by decide
 have hl1:(s.heap.push (BH w)).IsList l items:=⟨_,hol',rfl,nl,rfl⟩
 unfold Builtin.«set.__init__» noKeywords Builtin.Frozenset.updateFrom
 generalize hPI:qt=PI
 wp_walk
 subst hPI
 refine oY hl1 ?_
 refine a7 (wpAny_runValue ?_)
 have hlS:l<s.heap.objs.size:=ip hol
 have hneI:l≠(s.heap.push (BH w)).objs.size:=by
  rw[jA];exact iL (jO hlS)
 have kp:∀b o,s.heap.get? b=some o→((s.heap.push (BH w)).push {cls:=.type "list_iterator",data:=.fields #[.ref l,.int 0 0]}).get? b=some o:=fun b o e=>e6 _ (e6 _ e)
 refine Ud (a:=s.heap.objs.size) (l:=l) (ps:=ps) (by simpa using hh) hneI (by rw[jA];exact iL (k4 _)) (mw hlS) hps hz (by
   show A.in1.in1.units+1<cLine
   exact oQ (show A.units+1+1+1≤A.units+8 by omega) hu) (ps.length-0) 0 _ [] rfl (jl _)
  ⟨_,iz _ rfl,rfl,rfl⟩ (hl1.push _) (fun k x hx=> ⟨DD (hp k x hx) fun u e=>kp x u e,?_⟩) ⟨BH w,#[],0,_,e6 _ hS,⟨rfl,rfl,rfl⟩,rfl,rfl,fun i k x e=>by simp at e,List.nodup_nil,Tb.fresh _ _ _,rfl,(by show 0*5<7*3;decide),rfl⟩ ⟨fun p hp=>by simp at hp,fun k y hy=>by simp at hy,by simp⟩ ?_
 ·obtain⟨o',_,_,ho',_⟩:=hp k x hx
  have:=ip ho'
  rw[jA]
  exact iL (jO this)
 ·intro h' tk' xs' kk sx so
  refine b9 ?_
  show wpAny _ _ (ret kZ) _ _ _
  refine b9 ⟨rfl,h h' tk' xs' sx so fun b o hb e=>kk b o (iL hb) ?_ (kp b o e)⟩
  rw[jA];exact iL (jO hb)
end
open PySem.Calls PySem.W
section
variable{prog:Program}{w:World}{A:iC}{E:Value→a9→Prop}{s:a9}
theorem RL{a:Addr}{vs:List Value}{n:Nat}{P:rY→a9→Prop}(ho:s.heap.get? a=some (jG "list" vs.toArray n))(h2:vs.length<2)
  (h:∀c h',h'.get? a=some (jG "list" vs.toArray c)→(∀b o,b≠a→s.heap.get? b=some o→h'.get? b=some o)→P (.done (.ret .none)) {s with heap:=h'}):
  wpAny (model prog w) A (Builtin.«list.sort» ⟨[.ref a],[]⟩) P E s:=by
 obtain⟨e1,ho1⟩:∃e1,(s.heap.update a (kl fun _=> (#[]:Array Value))).get? a=some (jG "list" #[] e1):=⟨_,om ho fun _=> #[]⟩
 have keep:∀b o,b≠a→s.heap.get? b=some o→(((s.heap.update a (kl fun _=> (#[]:Array Value))).push (jG "tuple" vs.toArray 0)).push (jG "list" #[] 0)).get? b=some o:=fun b o hb e=>
  e6 _ (e6 _ (by rw[mZ _ _ _ _ hb];exact e))
 have ho3:(((s.heap.update a (kl fun _=> (#[]:Array Value))).push (jG "tuple" vs.toArray 0)).push (jG "list" #[] 0)).get? a=some (jG "list" #[] e1):=e6 _ (e6 _ ho1)
 rw[list_sort_plain]
 refine a7 (listItems_at ho rfl ?_)
 refine a7 (pC ho rfl ?_ (by rw[iu,jC];omega) (jl _))
 refine a7 (qr ho1 rfl ?_)
 refine a7 (qp ?_ (by show vs.length≤_;rw[jC];omega))
 refine a7 (nU ?_ (jl _))
 refine je ?_
 show wpAny (model prog w) A _ P E {s with heap:=((s.heap.update a (kl fun _=> (#[]:Array Value))).push (jG "tuple" vs.toArray 0)).push (jG "list" #[] 0)}
 generalize hG:((s.heap.update a (kl fun _=> (#[]:Array Value))).push (jG "tuple" vs.toArray 0)).push (jG "list" #[] 0)=G at keep ho3 ⊢
 dsimp only
 have hn2:vs.toArray.size<2:=by rw[iu];omega
 rw[if_pos hn2,if_pos hn2]
 refine a7 (b9 ?_)
 refine a7 (b9 ?_)
 dsimp only
 have har:((vs.toArray.zip vs.toArray).map (·.2))=vs.toArray:=by
  apply mP
  rw[pV,Array.toList_zip]
  show(vs.zip vs).map (·.2)=vs
  rw[SrtG.HV,i7]
  exact qA vs
 have har':(arrOf (p7 general' (vs.toArray.zip vs.toArray) #[] 7 none)).map (·.2)=vs.toArray:=har
 rw[har']
 obtain⟨c2,hc2⟩:∃c2,(G.update a (kl fun _=>vs.toArray)).get? a=some (jG "list" vs.toArray c2):=⟨_,om ho3 fun _=>vs.toArray⟩
 refine a7 (qr ho3 rfl ?_)
 refine a7 (pC ho3 rfl ?_ (jl _) (by rw[iu,jC];omega))
 show wpAny _ _ (if(e1 !=e1)=true then _ else _) _ _ _
 rw[if_neg (by simp)]
 exact b9 (h c2 _ hc2 fun b o hb e=>by rw[mZ _ _ _ _ hb];exact keep b o hb e)
theorem FA {α β : Type} {f : α → β} {l1 l2 : List β} (h : l1.Perm l2) : ∀ {xs : List α}, l2 = xs.map f → ∃ ys : List α, ys.Perm xs ∧ ys.map f = l1 := by
  induction h with
  | nil => intro xs e; cases xs with
    | nil => exact ⟨[], .refl _, rfl⟩
    | cons x xs => cases e
  | cons x _ ih => intro xs e; cases xs with
    | nil => cases e
    | cons y xs =>
      rw [iN] at e
      injection e with e1 e2
      obtain ⟨ys, h1, h2⟩ := ih e2
      exact ⟨y :: ys, h1.cons y, by rw [iN, h2, e1]⟩
  | swap x y l => intro xs e; match xs, e with
    | a :: b :: xs, e =>
      simp only [iN] at e
      injection e with e1 e2
      injection e2 with e2 e3
      exact ⟨b :: a :: xs, .swap _ _ _, by simp only [iN]; rw [← e1, ← e2, ← e3]⟩
  | trans _ _ ih1 ih2 => intro xs e
                         obtain ⟨ys, h1, h2⟩ := ih2 e
                         obtain ⟨zs, h3, h4⟩ := ih1 h2.symm
                         exact ⟨zs, h3.trans h1, h4⟩
theorem Mq{a:Addr}{xs:List (List Int×Addr)}{Q:Value→a9→Prop}(hh:A.handled=none)(S:SetX prog w s.heap a xs)(hz:xs.length≤300)
  (hp:∀k x,(k,x)∈xs→∃p q,k=[p,q]∧0≤q∧q<65536)
  (h:∀(h':Heap) (tk:Nat) (ys:List (List Int×Addr)) (D:Addr) (c:Nat),s.heap.get? D=none→h'.get? D=some (jG "list" (ys.map fun p=>Value.ref p.2).toArray c)→(∀b o,s.heap.get? b=some o→h'.get? b=some o)→
   ys.Perm xs→ys.Pairwise (fun x y=>65536*x.1.getD 0 0+x.1.getD 1 0≤65536*y.1.getD 0 0+y.1.getD 1 0)→Q (.ref D) {s with heap:=h',toks:=tk}):
  wpAny (model prog w) A (call (.builtin "sorted") [.ref a]) Q E s:=by
 obtain⟨o,es,ep,t,S⟩:=S
 refine call_function_entry sd rz rC (rH _) ?_
 unfold Builtin.«sorted»
 refine a7 (m:=checkCount "sorted" 1 1 _) (b9 ?_)
 refine a7 (kdu_collect (A:=A.in1) (Ue S.wk) hh S.get (by rw[S.size,jC];omega) fun h1 tk1 acc hk1 hacc=>?_)
 have hsz:acc.toList.length=xs.length:=by rw[iq,hacc.1,S.size]
 have hacc2:acc.toList=(EZ w a ep es).toList.map (·.2):=by
  apply jy
  intro i
  rw[e7]
  by_cases hi:i<acc.size
  ·have e1:acc[i]?=some acc[i]:=by simp[hi]
   obtain⟨hh',e2⟩:=hacc.2 i _ e1
   have e2':(EZ w a ep es).toList[i]?=some (hh',acc[i]):=by simpa using e2
   rw[e2']
   simpa using e1
  ·have h1':acc.toList[i]?=none:=by simp;omega
   have h2':(EZ w a ep es).toList[i]?=none:=by
    apply jh
    rw[iq,Ff,←hacc.1];omega
   rw[h1',h2'];rfl
 have hperm:acc.toList.Perm (xs.map fun p=>Value.ref p.2):=by
  rw[hacc2]
  refine((Ip w a ep es).map (·.2)).trans ?_
  rw[S.es,Pb,i7]
  exact lM.refl _
 have hIK:∀k x,(k,x)∈xs→IK prog w h1 k x:=fun k x hx=>by
  obtain⟨i,hi⟩:=jm hx
  exact DD (S.key i k x hi) fun u e=>hk1 x u e
 have tupAt:∀k x,(k,x)∈xs→∃p q,k=[p,q]∧SrtG.TupAt h1 (.ref x) p q∧0≤q∧q<65536:=fun k x hx=>by
  obtain⟨p,q,rfl,h0,h1'⟩:=hp k x hx
  obtain⟨o',items,n,ho',hc',hd',hi'⟩:=hIK _ x hx
  refine⟨p,q,rfl,?_,h0,h1'⟩
  generalize hL:items.toList=L at hi'
  cases hi' with
  |cons i1 i2=>
   cases i2 with
   |cons i3 i4=>
    cases i4
    obtain⟨t1,rfl⟩:=Fd i1
    obtain⟨t2,rfl⟩:=Fd i3
    have:items= #[.int p t1,.int q t2]:=by
     apply mP
     rw[hL]
    exact⟨x,o',t1,t2,n,rfl,ho',hc',by rw[hd',this]⟩
 refine a7 (nU ?_ (by rw[hsz,jC];omega))
 have hoL:(h1.push (jG "list" acc.toList.toArray 0)).get? h1.objs.size=some (jG "list" acc.toList.toArray 0):=iz _ rfl
 have hDn:s.heap.get? h1.objs.size=none:=by
  cases e:s.heap.get? h1.objs.size with
  |none=>rfl
  |some o'=>exact absurd (ip (hk1 _ _ e)) (jD _)
 have hkp:∀b o,h1.get? b=some o→(h1.push (jG "list" acc.toList.toArray 0)).get? b=some o:=fun b o e=>e6 _ e
 obtain⟨ws,hw1,hw2⟩:=FA hperm rfl
 have fin:∀(out:List Value) (c:Nat) (h2:Heap),out.Perm acc.toList→out.Pairwise (fun x y=>SrtG.UC (h1.push (jG "list" acc.toList.toArray 0)) (x,x)≤SrtG.UC (h1.push (jG "list" acc.toList.toArray 0)) (y,y))→
   h2.get? h1.objs.size=some (jG "list" (rP out) c)→(∀b o,b≠h1.objs.size→(h1.push (jG "list" acc.toList.toArray 0)).get? b=some o→h2.get? b=some o)→Q (.ref h1.objs.size) {s with heap:=h2,toks:=tk1}:=fun out c h2 pm pw hg hk=>by
  obtain⟨ys,y1,y2⟩:=FA (pm.trans hperm) rfl
  subst y2
  refine h h2 tk1 ys _ c hDn hg (fun b o e=>?_) y1 ?_
  ·have hlt:=ip (hk1 b o e)
   exact hk b o (iL hlt) (hkp b o (hk1 b o e))
  ·rw[jc] at pw
   refine k9 (fun{x y} hx hy q=>?_) pw
   obtain⟨k1,x1⟩:=x
   obtain⟨k2,x2⟩:=y
   obtain⟨p,q',rfl,t1,_⟩:=tupAt k1 x1 (y1.mem_iff.mp hx)
   obtain⟨p2,q2,rfl,t2,_⟩:=tupAt k2 x2 (y1.mem_iff.mp hy)
   have keepT:∀{v:Value} {i j:Int},SrtG.TupAt h1 v i j→SrtG.TupAt (h1.push (jG "list" acc.toList.toArray 0)) v i j:=fun t=>by
    obtain⟨x,o,t,u,n,e1,e2,e3,e4⟩:=t
    exact⟨x,o,t,u,n,e1,hkp _ _ e2,e3,e4⟩
   rw[SrtG.Fj (k:=(Value.ref x1,Value.ref x1)) (keepT t1).pair,SrtG.Fj (k:=(Value.ref x2,Value.ref x2)) (keepT t2).pair] at q
   exact q
 refine a7 (je (jF qq ⟨_,hoL,rfl⟩ qd ?body (qw _)))
 case body=>
  by_cases hlen:acc.toList.length<2
  ·refine RL (s:={s with heap:=h1.push (jG "list" acc.toList.toArray 0),toks:=tk1}) hoL hlen fun c h2 hg hk=> ⟨_,rfl,b9 ⟨_,rfl,fin acc.toList c h2 (.refl _) ?_ hg hk⟩⟩
   generalize acc.toList=l at hlen
   match l,hlen with
   | [],_=>exact .nil
   | [x],_=>exact mf _ _
  ·refine SrtG.Mp (s:={s with heap:=h1.push (jG "list" acc.toList.toArray 0),toks:=tk1}) hoL (fun v hv=>?_) (by omega) (by omega) fun out c h2 pm pw hg hk=> ⟨_,rfl,b9 ⟨_,rfl,fin out c h2 pm pw hg hk⟩⟩
   obtain⟨⟨k,x⟩,hx,rfl⟩:=ig.mp (hperm.mem_iff.mp hv)
   obtain⟨p,q,rfl,⟨x',o',t1,t2,n,e1,e2,e3,e4⟩,h0,h1'⟩:=tupAt k x hx
   exact⟨p,q,⟨x',o',t1,t2,n,e1,hkp _ _ e2,e3,e4⟩,h0,h1'⟩
end
end StT
namespace L2
open PySem PySem.Spec PyProof.Rows
section
variable{X:Cx}{pins:List (Addr×Obj)}{σ:St}{H:Hp}{s:a9}{h':Heap}
theorem Inv.laidF{a:Addr}{o:HO}{t':Nat}(I:Inv X pins σ H s)(k:∀b u,s.heap.get? b=some u→h'.get? b=some u)(hp:s.heap.get? a=none)(new:ObjOk X.prog X.w (upd H a o) h' a o):
  Inv X pins σ (upd H a o) {s with heap:=h',toks:=t'}:=by
 have hn:H a=none:=by
  cases q:H a with
  |none=>rfl
  |some u=>
   obtain⟨ob,e⟩:=(I.hok a u q).obj
   rw[hp] at e;cases e
 have ne:∀b u,s.heap.get? b=some u→b≠a:=fun b u e z=>by rw[z,hp] at e;cases e
 refine I.un ⟨fun b u q _ _ _=>k b u q,fun b u q _ _ _=> ⟨u.slots,k b u q⟩,fun b u q n _=>by rw[AO (ne b u q)];exact n,fun b u q _=> ⟨u,k b u q⟩,fun b xs q=>by rw[AO (AK q hn)];exact q,fun b u xs q=>by rw[AO (AK q hn)];exact q,fun b ps q=> ⟨#[],by rw[AO (AK q hn),q];simp⟩⟩ ?_
 intro b u e
 by_cases hb:b=a
 ·subst hb;rw[AQ] at e;cases e;exact new
 ·rw[AO hb] at e
  exact(I.hok b u e).stay (fun c v _ q=>k c v q) (fun c q=>by rw[AO (AK q hn)];exact q) fun c xs q=>by rw[AO (AK q hn)];exact q
def aq(P:Program)(w:World)(a:Addr)(xs:List (List Int×Addr))(h:Heap):Prop:=∃o es ep t,h.get? a=some o∧o.ExactSet∧o.data=.set es ep t∧es.toList=StT.Pb xs P w∧(xs.map (·.1)).Nodup∧StT.Tb t (xs.map fun p=> (StT.tk P w).hash p.1)∧t.plain=true∧xs.length*5<t.mask*3∧t.led=!w.params.followText "set-order"
def SetO(P:Program)(w:World)(a:Addr)(xs:List (List Int×Addr)):HO:=.ext (aq P w a xs)
theorem Uj{P:Program}{w:World}{H:Hp}{h:Heap}{a:Addr}{xs:List (List Int×Addr)}(S:StT.SetX P w h a xs):ObjOk P w H h a (SetO P w a xs):=by
 obtain⟨o,es,ep,t,S⟩:=S
 refine⟨⟨o,es,ep,t,S.get,S.ex,S.dat,S.es,S.nd,S.tb,S.pl,S.room,S.led⟩,⟨o,S.get⟩,fun h1 h2 ⟨o,es,ep,t,g,r⟩ hk=> ⟨o,es,ep,t,hk _ g,r⟩⟩
def RM(K:a8)(H:Hp)(xs:List (List Int×Addr)):Prop:=∀k x,(k,x)∈xs→DT K H x (k.map V.int)
theorem Iu{prog:Program}{w:World}:∀{k:List Int} {us:List Value},Vals (k.map V.int) us→ItemsAre (intKind prog w) k us
 | [],us,r=>by rw[oC] at r;cases r;exact .nil
 |n::k,us,r=>by
  rw[iN] at r
  cases r with
  |cons r1 r2=>
   obtain⟨t,rfl⟩:=r1
   exact .cons (intKind_is _ _ _ _) (Iu r2)
theorem Inv.ik{x:Addr}{k:List Int}(I:Inv X pins σ H s)(h:DT X.K H x (k.map V.int)):StT.IK X.prog X.w s.heap k x:=by
 obtain⟨its,r,⟨o,ho,hc,n,hd⟩,hz⟩:=I.tuple h
 exact⟨o,its.toArray,n,ho,hc,hd,by simpa using Iu r⟩
def eM(X:Cx):List V→Hp→VK→Prop:=fun vs H Q=>∃a ps,vs=[.ref a]∧Cz X.K H a (ps.map fun p=>V.ref p.2)∧RM X.K H ps∧ps.length≤300∧
 ∀p xs,H p=none→StT.Jm ps xs→(xs.map (·.1)).Nodup→Q (.ref p) (upd H p (SetO X.prog X.w p xs))
theorem Iv:∀{ps:List (List Int×Addr)} {us:List Value},Vals (ps.map fun p=>V.ref p.2) us→us=ps.map fun p=>Value.ref p.2
 | [],us,r=>by rw[oC] at r;cases r;rfl
 |p::ps,us,r=>by
  rw[iN] at r
  cases r with
  |cons r1 r2=>
   rw[Iv r2]
   have r1:_=Value.ref p.2:=r1
   rw[r1]
   rfl
theorem Pi(hc:X.calm=true)(hu:X.A.units+8<cLine):BB X (.type "set") (eM X):=by
 intro pins s σ H vs us Q I r h
 obtain⟨a,ps,rfl,hl,hk,hz,q⟩:=h
 obtain⟨u,rfl,ru⟩:=Vals.one r
 cases ru
 obtain⟨its,rv,p,_⟩:=I.list hl
 refine StT.HX (ps:=ps) (I.ok.hd hc) p.isList (by simpa using Iv rv) (fun k x hx=>I.ik (hk k x hx)) hz hu fun h' tk xs sx so kp=>?_
 have hf:H s.heap.objs.size=none:=I.hok.fresh (hC _)
 have nd:(xs.map (·.1)).Nodup:=by obtain⟨_,_,_,_,S⟩:=sx;exact S.nd
 exact⟨.ref s.heap.objs.size,upd H s.heap.objs.size (SetO X.prog X.w s.heap.objs.size xs),I.laid (t':=tk) (fun b u e=>kp b u (ip e) e) (hC _) (Uj sx),rfl,q _ _ hf so nd⟩
def YA(X:Cx):List V→Hp→VK→Prop:=fun vs H Q=>∃p xs,vs=[.ref p]∧H p=some (SetO X.prog X.w p xs)∧RM X.K H xs∧xs.length≤300∧(∀k x,(k,x)∈xs→∃i j,k=[i,j]∧0≤j∧j<65536)∧
 ∀(q:Addr) (ys:List (List Int×Addr)),H q=none→ys.Perm xs→ys.Pairwise (fun x y=>65536*x.1.getD 0 0+x.1.getD 1 0≤65536*y.1.getD 0 0+y.1.getD 1 0)→Q (.ref q) (upd H q (.lst (ys.map fun p=>V.ref p.2)))
theorem Iw:∀(ps:List (List Int×Addr)),Vals (ps.map fun p=>V.ref p.2) (ps.map fun p=>Value.ref p.2)
 | []=> .nil
 |p::ps=> .cons rfl (Iw ps)
theorem Jp(hc:X.calm=true):BB X (.builtin "sorted") (YA X):=by
 intro pins s σ H vs us Q I r h
 obtain⟨p,xs,rfl,hp,hk,hz,h2,q⟩:=h
 obtain⟨u,rfl,ru⟩:=Vals.one r
 cases ru
 obtain⟨⟨o,es,ep,t,g1,g2,g3,g4,g5,g6,g7,g8,g9⟩,_,_⟩:=I.hok p _ hp
 refine StT.Mq (xs:=xs) (I.ok.hd hc) ⟨o,es,ep,t,g1,g2,g3,g4,fun i k x e=>I.ik (hk k x (hZ e)),g5,g6,g7,g8,g9⟩ hz h2 fun h' tk ys D c hD hg kp pm pw=>?_
 have hf:H D=none:=I.hok.none_of hD
 refine⟨.ref D,upd H D (.lst (ys.map fun p=>V.ref p.2)),I.laidF (t':=tk) kp hD ⟨?_,_,c,Iw ys,hg⟩,rfl,q D ys hf pm pw⟩
 rw[c9,pm.length_eq,jC]
 omega
end
end L2
namespace ZpT
open PySem PySem.Spec PyProof.Rows
structure Nx(prog:Program)(w:World)(I ax:Addr)(items:Array Value)(St:Nat→Heap→Prop):Prop where
 item:∀(A:iC) (i:Nat) (s:a9) (x:Value) (Q:Value→a9→Prop) (E:Value→a9→Prop),St i s.heap→items[i]?=some x→(∀h',St (i+1) h'→kO I s.heap h'→Q x {s with heap:=h'})→wpAny (model prog w) A (jo (.ref I)) Q E s
 fin:∀(A:iC) (i:Nat) (s:a9) (Q:Value→a9→Prop) (E:Value→a9→Prop),A.handled=none→St i s.heap→items[i]?=none→(∀h' e,qE I s.heap h'→(∃o,h'.get? e=some o∧o.cls=.type "StopIteration")→E (.ref e) {s with heap:=h'})→wpAny (model prog w) A (jo (.ref I)) Q E s
 keep:∀(i:Nat) (h h':Heap),St i h→(∀o,h.get? I=some o→h'.get? I=some o)→(∀o,h.get? ax=some o→h'.get? ax=some o)→St i h'
 there:∀(i:Nat) (h:Heap),St i h→I<h.objs.size
section
variable{prog:Program}{w:World}
theorem RN{A:iC}{E:Value→a9→Prop}{s:a9}{it l:Addr}{i:Nat}{items:Array Value}{x:Value}{Q:Value→a9→Prop}(hit:s.heap.IsTupleIter it l i)(hl:s.heap.IsTuple l items)(hx:items[i]?=some x)
  (hQ:∀h',h'.IsTupleIter it l (i+1)→kO it s.heap h'→Q x {s with heap:=h'}):wpAny (model prog w) A (jo (.ref it)) Q E s:=by
 obtain⟨o,ho,hc,hd⟩:=id hit
 obtain⟨ol,hol,_,nl,hdl⟩:=hl
 have hne:¬((Value.ref l==kZ)=true):=gx
 unfold jo
 refine a7 (jJ (name:=lQ "__next__") hit.typeIs kN ?_)
 refine jF kN hit.typeIs PySem.F.entry_tuple_iterator_next ?_ (PySem.F.args_tuple_iterator_next_1 _)
 show wpAny _ _ (field (.ref it) 0>>=_) _ _ s;refine a7 (jZ ho hd (x:=.ref l) rfl ?_)
 show wpAny _ _ (if(Value.ref l==kZ)=true then _ else _) _ _ s;rw[if_neg hne]
 show wpAny _ _ (field (.ref it) 1>>=_) _ _ s;refine a7 (jZ ho hd (x:=.int i 0) rfl ?_)
 show wpAny _ _ (qJ (.ref l)>>=_) _ _ s;refine a7 (j8 hol hdl ?_)
 simp only[iS,hx]
 refine a7 (wpAny_setField ho hd (by simp) ?_)
 refine b9 ⟨x,rfl,b9 (hQ _ ⟨_,lJ _ ho (Obj.isFreed_of_fields (Obj.data_mapFields hd _)),(Obj.cls_mapFields ..).trans hc,?_⟩ (md ..))⟩
 rw[Obj.data_mapFields hd];simp[nB]
theorem Uk{A:iC}{E:Value→a9→Prop}{s:a9}{it l:Addr}{i:Nat}{items:Array Value}{Q:Value→a9→Prop}(hh:A.handled=none)(hit:s.heap.IsTupleIter it l i)(hl:s.heap.IsTuple l items)(hx:items[i]?=none)
  (hE:∀h' e,qE it s.heap h'→(∃o,h'.get? e=some o∧o.cls=.type "StopIteration")→E (.ref e) {s with heap:=h'}):wpAny (model prog w) A (jo (.ref it)) Q E s:=by
 obtain⟨o,ho,hc,hd⟩:=id hit
 obtain⟨ol,hol,_,nl,hdl⟩:=hl
 have hne:¬((Value.ref l==kZ)=true):=gx
 unfold jo
 refine a7 (jJ (name:=lQ "__next__") hit.typeIs kN ?_)
 refine jF kN hit.typeIs PySem.F.entry_tuple_iterator_next ?_ (PySem.F.args_tuple_iterator_next_1 _)
 show wpAny _ _ (field (.ref it) 0>>=_) _ _ s;refine a7 (jZ ho hd (x:=.ref l) rfl ?_)
 show wpAny _ _ (if(Value.ref l==kZ)=true then _ else _) _ _ s;rw[if_neg hne]
 show wpAny _ _ (field (.ref it) 1>>=_) _ _ s;refine a7 (jZ ho hd (x:=.int i 0) rfl ?_)
 show wpAny _ _ (qJ (.ref l)>>=_) _ _ s;refine a7 (j8 hol hdl ?_)
 simp only[iS,hx]
 refine a7 (lx (a7 (wpAny_setField ho hd (by simp) ?_)))
 show wpAny _ _ (newExc (.type "StopIteration") []>>=_) _ _ _
 refine a7 ?_
 simp only[newExc,newTuple]
 refine a7 (js (a7 (m:=oK _ _) (nY (a:=kZ) (by first|rfl| (simp only[oK];rfl)) ?_)) (by size_fits))
 refine js ?_ (by size_fits)
 simp only[raiseNew]
 refine a7 (wpAny_handled ?_)
 rw[show A.in1.handled=none from hh]
 exact a7 (b9 (wpAny_throw (hE _ _ (((md ..).extBut.push _).push _) ⟨_,iz _ rfl,rfl⟩)))
theorem Jq(I ax:Addr)(hne:ax≠I)(items:Array Value):Nx prog w I ax items (fun i h=>h.IsTupleIter I ax i∧h.IsTuple ax items) where
 item:=fun A i s x Q E st hx hQ=>RN st.1 st.2 hx fun h' hit sb=>hQ h' ⟨hit,st.2.at fun o e=> (sb.2 ax hne).trans e⟩ sb
 fin:=fun A i s Q E hh st hx hE=>Uk hh st.1 st.2 hx hE
 keep:=fun i h h' st h1 h2=> ⟨st.1.at h1,st.2.at h2⟩
 there:=fun i h st=>by obtain⟨_,e,_⟩:=st.1;exact ip e
end
section
variable{prog:Program}{w:World}{A:iC}{E:Value→a9→Prop}{s:a9}
variable{z TI TO i1 i2 l1 l2:Addr}{xs ys:Array Value}{S1 S2:Nat→Heap→Prop}
theorem DS{i:Nat}{I ax b:Addr}{h h':Heap}{items:Array Value}{St:Nat→Heap→Prop}(N:Nx prog w I ax items St)(st:St i h)(hs:qE b h h')(h1:I≠b)(h2:ax≠b):St i h':=N.keep i h h' st (fun o e=>hs I o h1 e) fun o e=>hs ax o h2 e
theorem RO(D:rJ z TI TO i1 i2 l1 l2)(N1:Nx prog w i1 l1 xs S1)(N2:Nx prog w i2 l2 ys S2){k1 k2:Nat}{x y a b:Value}{Q:Value→a9→Prop}
  (hz:IsZip s.heap z TI TO .none) (hTI:lY s.heap TI (.ref i1) (.ref i2)) (hTO:lY s.heap TO a b) (h1:S1 k1 s.heap) (h2:S2 k2 s.heap) (hx:xs[k1]?=some x) (hy:ys[k2]?=some y)
  (hQ:∀h',IsZip h' z TI TO (nB s.heap.objs.size)→lY h' TO x y→S1 (k1+1) h'→S2 (k2+1) h'→lY h' s.heap.objs.size x y→
   (∀c o,c≠z→c≠TO→c≠i1→c≠i2→s.heap.get? c=some o→h'.get? c=some o)→Q (.ref s.heap.objs.size) {s with heap:=h'}):
  wpAny (model prog w) A (Builtin.«zip.__next__» ⟨[.ref z],[]⟩) (fun fin s'=>∃v,fin=.done (.ret v)∧Q v s') E s:=by
 show wpAny _ _ (field (.ref z) 2>>=_) _ _ _;refine a7 (jZ hz rfl (x:=.bool false) rfl ?_)
 show wpAny _ _ (field (.ref z) 3>>=_) _ _ _;refine a7 (jZ hz rfl (x:=.ref TI) rfl (a7 (j8 hTI rfl ?_)))
 show wpAny _ _ (kG (.ref z)>>=_) _ _ _
 refine a7 ?_;unfold kG
 refine a7 (jZ hz rfl (x:=.none) rfl (b9 ?_));simp only[if_true]
 refine a7 (lx (a7 (jZ hz rfl (x:=.ref TO) rfl (a7 (kj hz (by simp) fun g1 z1 b1=>?_)))))
 replace z1:IsZip g1 z TI TO .ellipsis:=z1
 refine a7 ?_;simp only[pQ,List.zipIdx_nil,oq,qB]
 refine a7 (a7 (pA ?_));show wpAny _ _ (jo (.ref i1)>>=_) _ _ _
 refine a7 (N1.item _ k1 {s with heap:=g1} x _ _ (DS N1 h1 b1.extBut D.i1z D.l1z) hx fun g2 s12 b2=>b9 ?_)
 have t2:lY g2 TO a b:=b2.extBut _ _ D.TOi1 (b1.extBut _ _ D.TOz hTO)
 refine a7 (j8 t2 rfl (a7 (nX (s:={s with heap:=g2}) t2 fun g3 t3 b3=>?_)))
 replace t3:lY g3 TO x b:=t3
 refine a7 (nu (b9 (a7 (a7 (pA ?_)))));show wpAny _ _ (jo (.ref i2)>>=_) _ _ _
 have s23:S2 k2 g3:=DS N2 (DS N2 (DS N2 h2 b1.extBut D.i2z D.l2z) b2.extBut D.i12.symm D.l2i1) b3.extBut D.TOi2.symm D.l2TO
 refine a7 (N2.item _ k2 {s with heap:=g3} y _ _ s23 hy fun g4 s24 b4=>b9 ?_)
 have t4:lY g4 TO x b:=b4.extBut _ _ D.TOi2 t3
 refine a7 (j8 t4 rfl (a7 (nX (s:={s with heap:=g4}) t4 fun g5 t5 b5=>?_)))
 replace t5:lY g5 TO x y:=t5
 refine a7 (nu (b9 (b9 (a7 (j8 t5 rfl (a7 (qp ?_)))))))
 have hsz:g5.objs.size=s.heap.objs.size:=by rw[b5.1,b4.1,b3.1,b2.1,b1.1]
 have z5:IsZip g5 z TI TO .ellipsis:=b5.extBut _ _ D.TOz.symm (b4.extBut _ _ D.i2z.symm (b3.extBut _ _ D.TOz.symm (b2.extBut _ _ D.i1z.symm z1)))
 have k5:∀c o,c≠z→c≠TO→c≠i1→c≠i2→s.heap.get? c=some o→g5.get? c=some o:=fun c o c1 c2 c3 c4 e=>b5.extBut _ _ c2 (b4.extBut _ _ c4 (b3.extBut _ _ c2 (b2.extBut _ _ c3 (b1.extBut _ _ c1 e))))
 have s15:S1 (k1+1) g5:=DS N1 (DS N1 (DS N1 s12 b3.extBut D.TOi1.symm D.l1TO) b4.extBut D.i12 D.l1i2) b5.extBut D.TOi1.symm D.l1TO
 have s25:S2 (k2+1) g5:=DS N2 s24 b5.extBut D.TOi2.symm D.l2TO
 have zlt:z<g5.objs.size:=ip z5
 show wpAny _ _ (Builtin.SmallTypes.ownedTupleHandOut (.ref z) (.ref g5.objs.size)>>=_) _ _ _
 refine a7 ?_;unfold Builtin.SmallTypes.ownedTupleHandOut
 have z6:IsZip (g5.push {cls:=.type "tuple",data:=.seq #[x,y]}) z TI TO .ellipsis:=e6 _ z5
 refine a7 (kj z6 (by simp) fun g7 z7 b7=>?_)
 replace z7:IsZip g7 z TI TO (nB g5.objs.size):=z7
 refine kj (s:={s with heap:=g7}) z7 (by simp) fun g8 z8 b8=>?_
 replace z8:IsZip g8 z TI TO (nB g5.objs.size):=z8
 have up:∀c o,c≠z→g5.get? c=some o→g8.get? c=some o:=fun c o c1 e=>b8.extBut _ _ c1 (b7.extBut _ _ c1 (e6 _ e))
 have t8:lY g8 g5.objs.size x y:=b8.extBut _ _ (mw zlt) (b7.extBut _ _ (mw zlt) (iz _ rfl))
 rw[hsz] at z8 t8
 refine b9 ⟨_,rfl,?_⟩
 show Q (.ref g5.objs.size) _
 rw[hsz]
 exact hQ g8 z8 (up _ _ D.TOz t5) (N1.keep _ _ _ s15 (fun o e=>up _ o D.i1z e) fun o e=>up _ o D.l1z e) (N2.keep _ _ _ s25 (fun o e=>up _ o D.i2z e) fun o e=>up _ o D.l2z e) t8 fun c o c1 c2 c3 c4 e=>up c o c1 (k5 c o c1 c2 c3 c4 e)
theorem Ul(hh:A.handled=none)(D:rJ z TI TO i1 i2 l1 l2)(N1:Nx prog w i1 l1 xs S1)(N2:Nx prog w i2 l2 ys S2){k1 k2:Nat}{a b:Value}{Q:rY→a9→Prop}
  (hz:IsZip s.heap z TI TO .none) (hTI:lY s.heap TI (.ref i1) (.ref i2)) (hTO:lY s.heap TO a b) (h1:S1 k1 s.heap) (h2:S2 k2 s.heap) (hend:xs[k1]?=none∨ys[k2]?=none)
  (hE:∀h' e,(∀c o,c≠z→c≠TO→c≠i1→c≠i2→s.heap.get? c=some o→h'.get? c=some o)→(∃o,h'.get? e=some o∧o.cls=.type "StopIteration")→E (.ref e) {s with heap:=h'}):
  wpAny (model prog w) A (Builtin.«zip.__next__» ⟨[.ref z],[]⟩) Q E s:=by
 show wpAny _ _ (field (.ref z) 2>>=_) _ _ _;refine a7 (jZ hz rfl (x:=.bool false) rfl ?_)
 show wpAny _ _ (field (.ref z) 3>>=_) _ _ _;refine a7 (jZ hz rfl (x:=.ref TI) rfl (a7 (j8 hTI rfl ?_)))
 show wpAny _ _ (kG (.ref z)>>=_) _ _ _
 refine a7 ?_;unfold kG
 refine a7 (jZ hz rfl (x:=.none) rfl (b9 ?_));simp only[if_true]
 refine a7 (lx (a7 (jZ hz rfl (x:=.ref TO) rfl (a7 (kj hz (by simp) fun g1 z1 b1=>?_)))))
 replace z1:IsZip g1 z TI TO .ellipsis:=z1
 refine a7 ?_;simp only[pQ,List.zipIdx_nil,oq,qB]
 refine a7 (a7 (pA ?_));show wpAny _ _ (jo (.ref i1)>>=_) _ _ _
 have s11:=DS N1 h1 b1.extBut D.i1z D.l1z
 cases hx:xs[k1]? with
 |none=>
  refine a7 (N1.fin _ k1 {s with heap:=g1} _ _ hh s11 hx fun g2 e b2 ⟨oe,hoe,hce⟩=>?_)
  have z2:IsZip g2 z TI TO .ellipsis:=b2 _ _ D.i1z.symm z1
  have hez:e≠z:=fun q=>by rw[q,z2] at hoe;cases hoe;simp at hce
  exact kj (s:={s with heap:=g2}) z2 (by simp) fun g3 _ b3=>hE g3 e (fun c o c1 _ c3 _ q=>b3.extBut _ _ c1 (b2 _ _ c3 (b1.extBut _ _ c1 q))) ⟨oe,b3.extBut _ _ hez hoe,hce⟩
 |some x=>
  have hy:ys[k2]?=none:=hend.resolve_left (by rw[hx];simp)
  refine a7 (N1.item _ k1 {s with heap:=g1} x _ _ s11 hx fun g2 s12 b2=>b9 ?_)
  have t2:lY g2 TO a b:=b2.extBut _ _ D.TOi1 (b1.extBut _ _ D.TOz hTO)
  refine a7 (j8 t2 rfl (a7 (nX (s:={s with heap:=g2}) t2 fun g3 t3 b3=>?_)))
  refine a7 (nu (b9 (a7 (a7 (pA ?_)))));show wpAny _ _ (jo (.ref i2)>>=_) _ _ _
  have s23:S2 k2 g3:=DS N2 (DS N2 (DS N2 h2 b1.extBut D.i2z D.l2z) b2.extBut D.i12.symm D.l2i1) b3.extBut D.TOi2.symm D.l2TO
  refine a7 (N2.fin _ k2 {s with heap:=g3} _ _ hh s23 hy fun g4 e b4 ⟨oe,hoe,hce⟩=>?_)
  have z4:IsZip g4 z TI TO .ellipsis:=b4 _ _ D.i2z.symm (b3.extBut _ _ D.TOz.symm (b2.extBut _ _ D.i1z.symm z1))
  have hez:e≠z:=fun q=>by rw[q,z4] at hoe;cases hoe;simp at hce
  exact kj (s:={s with heap:=g4}) z4 (by simp) fun g5 _ b5=>hE g5 e (fun c o c1 c2 c3 c4 q=>b5.extBut _ _ c1 (b4 _ _ c4 (b3.extBut _ _ c2 (b2.extBut _ _ c3 (b1.extBut _ _ c1 q))))) ⟨oe,b5.extBut _ _ hez hoe,hce⟩
theorem Fg(D:rJ z TI TO i1 i2 l1 l2)(N1:Nx prog w i1 l1 xs S1)(N2:Nx prog w i2 l2 ys S2){k1 k2:Nat}{x y a b:Value}{Q:Option Value→a9→Prop}
  (hz:IsZip s.heap z TI TO .none) (hTI:lY s.heap TI (.ref i1) (.ref i2)) (hTO:lY s.heap TO a b) (h1:S1 k1 s.heap) (h2:S2 k2 s.heap) (hx:xs[k1]?=some x) (hy:ys[k2]?=some y)
  (hQ:∀h',IsZip h' z TI TO (nB s.heap.objs.size)→lY h' TO x y→S1 (k1+1) h'→S2 (k2+1) h'→lY h' s.heap.objs.size x y→
   (∀c o,c≠z→c≠TO→c≠i1→c≠i2→s.heap.get? c=some o→h'.get? c=some o)→Q (some (.ref s.heap.objs.size)) {s with heap:=h'}):wpAny (model prog w) A (nh (.ref z)) Q E s:=by
 have hT:s.TypeIs (.ref z) "zip":=⟨_,hz,rfl⟩
 unfold nh
 refine a7 (mz (jJ (name:=lQ "__next__") hT mG ?_))
 refine jF mG hT PySem.F.entry_zip_next (RO D N1 N2 hz hTI hTO h1 h2 hx hy fun h' a1 a2 a3 a4 a5 a6=>?_) (PySem.F.args_zip_next_1 _)
 exact b9 (hQ h' a1 a2 a3 a4 a5 a6)
theorem HR(hh:A.handled=none)(D:rJ z TI TO i1 i2 l1 l2)(N1:Nx prog w i1 l1 xs S1)(N2:Nx prog w i2 l2 ys S2){k1 k2:Nat}{a b:Value}{Q:Option Value→a9→Prop}
  (hz:IsZip s.heap z TI TO .none) (hTI:lY s.heap TI (.ref i1) (.ref i2)) (hTO:lY s.heap TO a b) (h1:S1 k1 s.heap) (h2:S2 k2 s.heap) (hend:xs[k1]?=none∨ys[k2]?=none)
  (hQ:∀h',(∀c o,c≠z→c≠TO→c≠i1→c≠i2→s.heap.get? c=some o→h'.get? c=some o)→Q none {s with heap:=h'}):wpAny (model prog w) A (nh (.ref z)) Q E s:=by
 have hT:s.TypeIs (.ref z) "zip":=⟨_,hz,rfl⟩
 unfold nh
 refine a7 (mz (jJ (name:=lQ "__next__") hT mG ?_))
 refine jF mG hT PySem.F.entry_zip_next (Ul (A:=A.in1) hh D N1 N2 hz hTI hTO h1 h2 hend fun h' e hk ⟨o,ho,hc⟩=>?_) (PySem.F.args_zip_next_1 _)
 exact a7 (pK (T:="StopIteration") (b:=true) ⟨o,ho,hc⟩ isSubtype_stop (b9 (hQ _ hk)))
theorem RQ{t u:Addr}{xs ys:Array Value}{Q:Value→a9→Prop}(ht:s.heap.IsTuple t xs)(hu:s.heap.IsTuple u ys)
  (h:∀h' n,n=s.heap.objs.size→IsZip h' (n+4) (n+2) (n+3) .none→lY h' (n+2) (.ref n) (.ref (n+1))→lY h' (n+3) .none .none→h'.IsTupleIter n t 0→h'.IsTupleIter (n+1) u 0→
   (∀c o,s.heap.get? c=some o→h'.get? c=some o)→Q (.ref (n+4)) {s with heap:=h'}):wpAny (model prog w) A (call (.type "zip") [.ref t,.ref u]) Q E s:=by
 have M:Meets (Builtin.«zip.__new__» ⟨[.type "zip",.ref t,.ref u],[]⟩) (fun _ R s=>s.heap.IsTuple t xs∧s.heap.IsTuple u ys∧
   ∀h',h'=((((s.heap.push {cls:=.type "tuple_iterator",data:=.fields #[.ref t,.int 0 0]}).push {cls:=.type "tuple_iterator",data:=.fields #[.ref u,.int 0 0]}).push {cls:=.type "tuple",data:=.seq #[.ref s.heap.objs.size,.ref (s.heap.objs.size+1)]}).push {cls:=.type "tuple",data:=.seq #[.none,.none]}).push
     {cls:=.type "zip",data:=.fields #[.none,.bool false,.bool false,.ref (s.heap.objs.size+2),.ref (s.heap.objs.size+3)]}→R (.ok (.ret (.ref (s.heap.objs.size+4)))) {s with heap:=h'}):=
  .of_wp fun prog w A R s h=>by
   obtain⟨hp,g,d,tk,os⟩:=s
   obtain⟨hl1,hl2,h⟩:=h
   have hsub:=sub_zip
   have hL1:Heap.IsTuple (a9.heap ⟨hp,g,d,tk,os⟩) t xs:=hl1
   have hL2:Heap.IsTuple (a9.heap ⟨hp.push {cls:=.type "tuple_iterator",data:=.fields #[.ref t,.int 0 0]},g,d,tk,os⟩) u ys:=hl2.at fun o e=>e6 _ e
   wp_walk using mj hL1,mj hL2
   simp only[jA] at h ⊢
   exact⟨_,rfl,h _ rfl⟩
 refine callType_new PySem.F.called_zip (by decide) (PySem.F.typeCall_zip_2 _ _) (PySem.F.newCall_zip_2 _ _) (fun obj=>PySem.F.args_object_init_3 obj _ _) PySem.F.entry_zip_new M ⟨ht,hu,?_⟩
 rintro h' rfl
 have sz:∀(h:Heap) (o:Obj),(h.push o).objs.size=h.objs.size+1:=fun h o=>jA ..
 have up:∀{h:Heap} {c:Addr} {o o':Obj},h.get? c=some o→(h.push o').get? c=some o:=fun e=>e6 _ e
 have g0:∀(h:Heap) (o:Obj) (n:Nat),h.objs.size=n→o.isFreed=false→(h.push o).get? n=some o:=fun h o n e f=>by rw[←e];exact iz _ f
 refine⟨⟨_,g0 _ _ _ (by simp[sz]) rfl,rfl⟩,h _ _ rfl (g0 _ _ _ (by simp[sz]) rfl) (up (up (g0 _ _ _ (by simp[sz]) rfl))) (up (g0 _ _ _ (by simp[sz]) rfl)) ⟨_,up (up (up (up (g0 _ _ _ rfl rfl)))),rfl,rfl⟩ ⟨_,up (up (up (g0 _ _ _ (by simp[sz]) rfl))),rfl,rfl⟩ fun c o e=>up (up (up (up (up e))))⟩
end
end ZpT
namespace L2
open PySem PySem.Spec PyProof.Rows
def eO(K:a8)(t u:Addr):It:=⟨fun i H=>∃xs ys x y,DT K H t xs∧DT K H u ys∧xs[i]?=some x∧ys[i]?=some y,
 fun i H v H'=>∃p x y,H p=none∧v=.ref p∧H'=upd H p (.tup [x,y])∧(∀xs,DT K H t xs→xs[i]?=some x)∧∀ys,DT K H u ys→ys[i]?=some y,fun i H=>∃xs ys,DT K H t xs∧DT K H u ys∧(xs.length≤i∨ys.length≤i)⟩
section
variable{X:Cx}
theorem Inv.turns{pins:List (Addr×Obj)}{σ:St}{H:Hp}{s:a9}{h':Heap}{t':Nat}{ch:List Addr}(I:Inv X pins σ H s)(hf:∀b∈ch,Gq X pins H b)(k:∀b o,b∉ch→s.heap.get? b=some o→h'.get? b=some o):Inv X pins σ H {s with heap:=h',toks:=t'}:=by
 refine I.call' (s':={s with heap:=h',toks:=t'}) (ch:=ch) rfl ⟨fun b o e _ _ hb=>k b o hb e,fun b o e _ _ hb=> ⟨o.slots,k b o hb e⟩,fun _ _ _ n _=>n,fun b o e hb=> ⟨o,k b o hb e⟩,fun _ _ e=>e,fun _ _ _ e=>e,fun b ps e=> ⟨#[],by rw[e];simp⟩⟩ (I.hok.by_keep fun b o hb e=>k b o (fun z=>hb (hf b z).1) e) I.bare fun b hb=>?_
 obtain⟨_,q2,q3,q4,q5,q6⟩:=hf b hb
 exact⟨q4,q2,q5,q6⟩
theorem RS{P:Program}{w:World}{K:a8}{es:List Expr}{k:Nat}{pos:Pos}{z TI TO i1 i2 t u:Addr}(D:rJ z TI TO i1 i2 t u):
  Turn P w K (.Tuple es k pos) (eO K t u) [z,TI,TO,i1,i2] z (fun i h=>IsZip h z TI TO .none∧lY h TI (.ref i1) (.ref i2)∧(∃a b,lY h TO a b)∧h.IsTupleIter i1 t i∧h.IsTupleIter i2 u i) where
 mem:=by simp
 obj:=fun i h st b hb=>by
  obtain⟨s1,s2,⟨a,c,s3⟩,⟨o4,e4,c4,d4⟩,⟨o5,e5,c5,d5⟩⟩:=st
  simp only[ic,i9,or_false] at hb
  rcases hb with rfl|rfl|rfl|rfl|rfl
  ·exact⟨_,s1,fun v q=>by have q:sf _=qO v:=q;cases q⟩
  ·exact⟨_,s2,fun v q=>by have q:Data.seq _ _=qO v:=q;cases q⟩
  ·exact⟨_,s3,fun v q=>by have q:Data.seq _ _=qO v:=q;cases q⟩
  ·exact⟨o4,e4,fun v q=>by rw[d4] at q;cases q⟩
  ·exact⟨o5,e5,fun v q=>by rw[d5] at q;cases q⟩
 keep:=fun i h h' st kk=>by
  obtain⟨s1,s2,⟨a,c,s3⟩,s4,s5⟩:=st
  exact⟨kk z (by simp) _ s1,kk TI (by simp) _ s2,⟨a,c,kk TO (by simp) _ s3⟩,s4.at fun o e=>kk i1 (by simp) o e,s5.at fun o e=>kk i2 (by simp) o e⟩
 item:=by
  intro X hP hw hK hc i pins s σ H E I hf st hg
  subst hP hw hK
  obtain⟨xs,ys,x,y,hq1,hq2,hx,hy⟩:=hg
  obtain⟨its,rv,p,hz⟩:=I.tuple hq1
  obtain⟨its2,rv2,p2,hz2⟩:=I.tuple hq2
  obtain⟨a,ha,ra⟩:=rv.get hx
  obtain⟨b,hb,rb⟩:=rv2.get hy
  obtain⟨s1,s2,⟨c,d,s3⟩,s4,s5⟩:=st
  refine ZpT.Fg D (ZpT.Jq i1 t D.l1i1 its.toArray) (ZpT.Jq i2 u D.l2i2 its2.toArray) s1 s2 s3 ⟨s4,p⟩ ⟨s5,p2⟩ (by simpa using ha) (by simpa using hb) fun h1 z1 to1 a1 a2 n1 k1=>?_
  refine⟨_,rfl,wpAny_letOwnedTupleGo_zip (s:={s with heap:=h1}) z1 fun h2 z2 sb2=>?_⟩
  have hlt:∀v o,s.heap.get? v=some o→v≠s.heap.objs.size:=fun v o e=>iL (ip e)
  have zs:z≠s.heap.objs.size:=hlt z _ s1
  have up2:∀v o,v≠z→h1.get? v=some o→h2.get? v=some o:=fun v o hv e=> (sb2.2 v hv).trans e
  have hT:H s.heap.objs.size=none:=I.hok.fresh (hC _)
  have kk:∀v o,v∉[z,TI,TO,i1,i2]→s.heap.get? v=some o→h2.get? v=some o:=fun v o hv e=>by
   simp only[ic,i9,or_false,not_or] at hv
   exact up2 v o hv.1 (k1 v o hv.1 hv.2.2.1 hv.2.2.2.1 hv.2.2.2.2 e)
  have I1:Inv X pins σ (upd H s.heap.objs.size (.tup [x,y])) {s with heap:=h2}:=by
   have ne:∀v o,s.heap.get? v=some o→upd H s.heap.objs.size (.tup [x,y]) v=H v:=fun v o e=>AO (hlt v o e)
   refine I.call' (s':={s with heap:=h2}) (ch:=[z,TI,TO,i1,i2]) rfl ⟨fun v o e _ _ hv=>kk v o hv e,fun v o e _ _ hv=> ⟨o.slots,kk v o hv e⟩,fun v o e n _=>by rw[ne v o e];exact n,fun v o e hv=> ⟨o,kk v o hv e⟩,fun v xs e=>?_,fun v o xs e=>?_,fun v ps e=>?_⟩ ?_ I.bare fun v hv=>?_
   ·rw[AO (AK e hT)];exact e
   ·rw[AO (AK e hT)];exact e
   ·exact⟨#[],by rw[AO (AK e hT),e];simp⟩
   ·intro v o e
    by_cases hv:v=s.heap.objs.size
    ·subst hv
     rw[AQ] at e;cases e
     exact⟨by show 2≤sizeLine;decide,[a,b],.cons ra (.cons rb .nil),⟨_,up2 _ _ (Ne.symm zs) n1,rfl,_,rfl⟩⟩
    ·rw[AO hv] at e
     refine(I.hok v o e).stay (fun c w' hc' q=>kk c w' (fun hm=>?_) q) (fun c q=>by rw[AO (AK q hT)];exact q) fun c xs q=>by rw[AO (AK q hT)];exact q
     have hn:=(hf c hm).1
     rcases hc' with rfl|hc'
     ·rw[e] at hn;cases hn
     ·rw[hc'] at hn;cases hn
   ·obtain⟨_,q2,q3,q4,q5,q6⟩:=hf v hv
    exact⟨q4,q2,q5,q6⟩
  refine⟨.ref s.heap.objs.size,_,I1,rfl,⟨_,x,y,hT,rfl,rfl,fun xs' q=>by rw[I.tuple_inj q hq1];exact hx,fun ys' q=>by rw[I.tuple_inj q hq2];exact hy⟩,⟨z2,up2 TI _ D.TIz (k1 TI _ D.TIz D.TITO D.TIi1 D.TIi2 s2),⟨_,_,up2 TO _ D.TOz to1⟩,a1.1.at fun o e=>up2 i1 o D.i1z e,a2.1.at fun o e=>up2 i2 o D.i2z e⟩,fun v hv=>?_⟩
  have hvo:∃o,s.heap.get? v=some o:=by
   simp only[ic,i9,or_false] at hv
   rcases hv with rfl|rfl|rfl|rfl|rfl
   ·exact⟨_,s1⟩
   ·exact⟨_,s2⟩
   ·exact⟨_,s3⟩
   ·obtain⟨o,e,_⟩:=s4;exact⟨o,e⟩
   ·obtain⟨o,e,_⟩:=s5;exact⟨o,e⟩
  obtain⟨o,e⟩:=hvo
  rw[AO (hlt v o e)]
  exact(hf v hv).1
 done:=by
  intro X hP hw hK hc i pins s σ H E I hf st hg
  subst hP hw hK
  obtain⟨xs,ys,hq1,hq2,hl⟩:=hg
  obtain⟨its,rv,p,hz⟩:=I.tuple hq1
  obtain⟨its2,rv2,p2,hz2⟩:=I.tuple hq2
  have l1:=rv.length
  have l2:=rv2.length
  obtain⟨s1,s2,⟨c,d,s3⟩,s4,s5⟩:=st
  refine ZpT.HR (I.ok.hd hc) D (ZpT.Jq i1 t D.l1i1 its.toArray) (ZpT.Jq i2 u D.l2i2 its2.toArray) s1 s2 s3 ⟨s4,p⟩ ⟨s5,p2⟩ (hl.imp (fun q=>by simp;omega) fun q=>by simp;omega) fun h' k1=> ⟨rfl,I.turns (t':=s.toks) hf fun v o hv e=>?_⟩
  simp only[ic,i9,or_false,not_or] at hv
  exact k1 v o hv.1 hv.2.2.1 hv.2.2.2.1 hv.2.2.2.2 e
 self:=fun _ _ _ _ _ st h=>wpAny_pyIter_zip st.1 h
theorem RU:i5 "zip" =some (.type "zip"):=by decide+kernel
def eP(K:a8)(ta:TA):TI:=fun σ H R=>ta σ H fun vs H1=>∃t u,vs=[.ref t,.ref u]∧(∃xs,DT K H1 t xs)∧(∃ys,DT K H1 u ys)∧R (eO K t u) H1
theorem YB{a b:Expr}{ta:TA}{p pos tpos:Pos}{es:List Expr}{k:Nat}(hg:Gl X "zip")(hm:X.mg "zip" =none)(ha:PA X [a,b] ta)(hs:e8 [a,b] X.env=[(false,eval a X.env),(false,eval b X.env)]:=by rfl)(hs2:e8 [b] X.env=[(false,eval b X.env)]:=by rfl):
  PI X (.Tuple es k tpos) (.Call (.Name "zip" p) [a,b] [] pos) (eP X.K ta):=by
 intro pins s σ H R I h
 refine Call_ (DV I hg hm RU (kM (Aw (ha pos pins s σ H _ I h) fun us s1 ⟨vs,H1,I1,r1,q1⟩=>?_) (by rw[hs,hs2]) (by rw[hs2];rfl)))
 obtain⟨t,u,rfl,⟨xs,h1⟩,⟨ys,h2⟩,q⟩:=q1
 obtain⟨v1,v2,rfl,e1,e2⟩:=Np r1
 cases e1;cases e2
 obtain⟨its,rv,p1,_⟩:=I1.tuple h1
 obtain⟨its2,rv2,p2,_⟩:=I1.tuple h2
 have a1:t<s1.heap.objs.size:=by obtain⟨_,e,_⟩:=p1;exact ip e
 have a2:u<s1.heap.objs.size:=by obtain⟨_,e,_⟩:=p2;exact ip e
 refine ZpT.RQ (xs:=its.toArray) (ys:=its2.toArray) p1 p2 fun h' n hn z1 z2 z3 z4 z5 kp=>?_
 subst hn
 refine wpAny_pyIter_zip z1 ?_
 refine⟨_,_,_,_,H1,rfl,I1.kept (t':=s1.toks) kp,RS (zipApart_new a1 a2),⟨z1,z2,⟨_,_,z3⟩,z4,z5⟩,fun b hb=>?_,q⟩
 have hge:s1.heap.objs.size≤b:=by
  simp only[ic,i9,or_false] at hb
  rcases hb with rfl|rfl|rfl|rfl|rfl<;>omega
 exact I1.fpOk hge (I1.hok.fresh hge)
end
open PySem.Calls
section
variable{X:Cx}
def Wa(K:a8)(H:Hp)(a:Addr)(xs:List V):Prop:=Cz K H a xs∨DT K H a xs
theorem Inv.walk{pins:List (Addr×Obj)}{σ:St}{H:Hp}{s:a9}{a:Addr}{xs:List V}(I:Inv X pins σ H s)(hq:Wa X.K H a xs):∃its:List Value,Vals xs its∧a<s.heap.objs.size∧∀(A:iC) (E:Value→a9→Prop) (Q:Value→a9→Prop),A.handled=none→
  (∀(o:Obj) (St:Nat→Heap→Prop),Walks X.prog X.w A s.heap.objs.size [s.heap.objs.size,a] [s.heap.objs.size] its.length (fun i v=>its[i]?=some v) St→St 0 (s.heap.push o)→Q (.ref s.heap.objs.size) {s with heap:=s.heap.push o})→wpAny (model X.prog X.w) A (qt (.ref a)) Q E s:=by
 rcases hq with hq|hq
 ·obtain⟨its,rv,p,_⟩:=I.list hq
  have lt:a<s.heap.objs.size:=by obtain⟨_,_,e,_⟩:=p;exact ip e
  refine⟨its,rv,lt,fun A E Q hh h=>oY p.isList ?_⟩
  have W:=Walks.list (prog:=X.prog) (w:=X.w) (A:=A) hh s.heap.objs.size a (iL lt) its.toArray
  have W':Walks X.prog X.w A s.heap.objs.size [s.heap.objs.size,a] [s.heap.objs.size] its.length (fun i v=>its[i]?=some v) (fun i h=>h.IsListIter s.heap.objs.size a i∧h.IsList a its.toArray):=by simpa using W
  exact h _ _ W' ⟨⟨_,iz _ rfl,rfl,rfl⟩,p.isList.push _⟩
 ·obtain⟨its,rv,p,_⟩:=I.tuple hq
  have lt:a<s.heap.objs.size:=by obtain⟨_,e,_⟩:=p;exact ip e
  refine⟨its,rv,lt,fun A E Q hh h=>mj (items:=its.toArray) p ?_⟩
  have W:=Walks.tuple (prog:=X.prog) (w:=X.w) (A:=A) hh s.heap.objs.size a (iL lt) its.toArray
  have W':Walks X.prog X.w A s.heap.objs.size [s.heap.objs.size,a] [s.heap.objs.size] its.length (fun i v=>its[i]?=some v) (fun i h=>h.IsTupleIter s.heap.objs.size a i∧h.IsTuple a its.toArray):=by simpa using W
  have p':s.heap.IsTuple a its.toArray:=p
  exact h _ _ W' ⟨⟨_,iz _ rfl,rfl,rfl⟩,p'.at fun o e=>e6 _ e⟩
theorem Eb{s:a9}{o:Obj}{h':Heap}(hk:∀b x,b∉[s.heap.objs.size]→(s.heap.push o).get? b=some x→h'.get? b=some x):∀b x,s.heap.get? b=some x→h'.get? b=some x:=fun b x e=>
 hk b x (by simpa using iL (ip e)) (e6 _ e)
theorem OI{bs:List Bool}:∀{us:List Value},Vals (bs.map V.bl) us→us=bs.map nP:=by
 induction bs with
 |nil=>intro us r;rw[oC] at r;cases r;rfl
 |cons b bs ih=>
  intro us r
  rw[iN] at r
  cases r with
  |cons r1 r2=>
   cases r1
   rw[ih r2];rfl
theorem LN(bs:List Bool):((iA bs.length).all fun i=> (bs[i]?).getD true)=bs.all id:=LSm.range_all bs
theorem Mr(bs:List Bool):((iA bs.length).any fun i=> (bs[i]?).getD false)=bs.any id:=LSm.range_any bs
theorem RV(hc:X.calm=true):BB X (.builtin "all") (fun vs H Q=>∃(a:Addr) (bs:List Bool),vs=[.ref a]∧Wa X.K H a (bs.map V.bl)∧Q (.bl (bs.all id)) H):=by
 intro pins s σ H vs us Q I r h
 obtain⟨a,bs,rfl,hq,q⟩:=h
 obtain⟨u,rfl,ru⟩:=Cj r
 cases ru
 obtain⟨its,rv,lt,wk⟩:=I.walk hq
 have e:=OI rv
 refine call_all_walk (wk X.A.in1 _ _ (I.ok.hd hc) fun o St W st=> ⟨_,_,_,_,_,_,fun i=> (bs[i]?).getD true,rfl,W,st,fun i v s' Q' E' hP hQ=>?_,fun h' tk hk=>?_⟩)
 ·rw[e,e7] at hP
  cases hb:bs[i]? with
  |none=>rw[hb] at hP;cases hP
  |some b=>
   rw[hb] at hP
   cases hP
   simp only[hb,pP] at hQ
   exact lj hQ
 ·have e2:its.length=bs.length:=by rw[e,c9]
  rw[e2,LN]
  exact⟨.bl _,H,I.kept (t':=tk) (Eb hk),rfl,q⟩
theorem RW(hc:X.calm=true):BB X (.builtin "any") (fun vs H Q=>∃(a:Addr) (bs:List Bool),vs=[.ref a]∧Wa X.K H a (bs.map V.bl)∧Q (.bl (bs.any id)) H):=by
 intro pins s σ H vs us Q I r h
 obtain⟨a,bs,rfl,hq,q⟩:=h
 obtain⟨u,rfl,ru⟩:=Cj r
 cases ru
 obtain⟨its,rv,lt,wk⟩:=I.walk hq
 have e:=OI rv
 refine call_any_walk (wk X.A.in1 _ _ (I.ok.hd hc) fun o St W st=> ⟨_,_,_,_,_,_,fun i=> (bs[i]?).getD false,rfl,W,st,fun i v s' Q' E' hP hQ=>?_,fun h' tk hk=>?_⟩)
 ·rw[e,e7] at hP
  cases hb:bs[i]? with
  |none=>rw[hb] at hP;cases hP
  |some b=>
   rw[hb] at hP
   cases hP
   simp only[hb,pP] at hQ
   exact lj hQ
 ·have e2:its.length=bs.length:=by rw[e,c9]
  rw[e2,Mr]
  exact⟨.bl _,H,I.kept (t':=tk) (Eb hk),rfl,q⟩
theorem CH{ns:List Int}{us:List Value}(r:Vals (ns.map V.int) us)(i:Nat)(v:Value)(h:us[i]?=some v):∃t,v=.int (ns.getD i 0) t:=by
 have hl:=r.length
 have hi:i<ns.length:=by
  have:=(ie.mp h).1
  rw[c9] at hl;omega
 obtain⟨u,e,t,rfl⟩:=r.get (i:=i) (x:=.int ns[i]) (by simp[hi])
 rw[h] at e;cases e
 exact⟨t,by simp[kc,hi]⟩
def HY(ns:List Int)(m:Int):Prop:=m∈ns∧∀n∈ns,m≤n
def OJ(ns:List Int)(m:Int):Prop:=m∈ns∧∀n∈ns,n≤m
theorem HZ{ns:List Int}{i:Nat}(h:i<ns.length):ns.getD i 0∈ns:=by simp[kc,h]
theorem Iy(hc:X.calm=true):BB X (.builtin "min") (fun vs H Q=>∃(a:Addr) (ns:List Int),vs=[.ref a]∧Wa X.K H a (ns.map V.int)∧0<ns.length∧∀m,HY ns m→Q (.int m) H):=by
 intro pins s σ H vs us Q I r h
 obtain⟨a,ns,rfl,hq,h0,q⟩:=h
 obtain⟨u,rfl,ru⟩:=Cj r
 cases ru
 obtain⟨its,rv,lt,wk⟩:=I.walk hq
 have hl:its.length=ns.length:=by have:=rv.length;rw[c9] at this;exact this.symm
 refine call_min_walk (wk X.A.in1 _ _ (I.ok.hd hc) fun o St W st=> ⟨_,_,_,_,_,_,_,rfl,W,st,fun b hb=>?_,by omega,CmpOf.ints_lt (fun i=>ns.getD i 0) (fun i v hv=>CH rv i v hv),fun v h' tk hP hk=>?_⟩)
 ·show b< (s.heap.push o).objs.size
  rw[jA]
  simp only[ic,i9,or_false] at hb
  rcases hb with rfl|rfl
  ·exact k4 _
  ·exact jO lt
 ·obtain⟨t,rfl⟩:=CH rv _ v hP
  obtain⟨b1,b2⟩:=argBest_lt (fun i=>ns.getD i 0) (its.length-1)
  exact⟨.int _,H,I.kept (t':=tk) (Eb hk),⟨t,rfl⟩,q _ ⟨HZ (by omega),fun n hn=>by
   obtain⟨j,hj,rfl⟩:=l9 hn
   have:=b2 j (by omega)
   simpa[kc,hj] using this⟩⟩
theorem Iz(hc:X.calm=true):BB X (.builtin "max") (fun vs H Q=>∃(a:Addr) (ns:List Int),vs=[.ref a]∧Wa X.K H a (ns.map V.int)∧0<ns.length∧∀m,OJ ns m→Q (.int m) H):=by
 intro pins s σ H vs us Q I r h
 obtain⟨a,ns,rfl,hq,h0,q⟩:=h
 obtain⟨u,rfl,ru⟩:=Cj r
 cases ru
 obtain⟨its,rv,lt,wk⟩:=I.walk hq
 have hl:its.length=ns.length:=by have:=rv.length;rw[c9] at this;exact this.symm
 refine call_max_walk (wk X.A.in1 _ _ (I.ok.hd hc) fun o St W st=> ⟨_,_,_,_,_,_,_,rfl,W,st,fun b hb=>?_,by omega,CmpOf.ints_gt (fun i=>ns.getD i 0) (fun i v hv=>CH rv i v hv),fun v h' tk hP hk=>?_⟩)
 ·show b< (s.heap.push o).objs.size
  rw[jA]
  simp only[ic,i9,or_false] at hb
  rcases hb with rfl|rfl
  ·exact k4 _
  ·exact jO lt
 ·obtain⟨t,rfl⟩:=CH rv _ v hP
  obtain⟨b1,b2⟩:=argBest_gt (fun i=>ns.getD i 0) (its.length-1)
  exact⟨.int _,H,I.kept (t':=tk) (Eb hk),⟨t,rfl⟩,q _ ⟨HZ (by omega),fun n hn=>by
   obtain⟨j,hj,rfl⟩:=l9 hn
   have:=b2 j (by omega)
   simpa[kc,hj] using this⟩⟩
theorem GB:BB X (.type "tuple") (fun vs H Q=>∃a xs,vs=[.ref a]∧Cz X.K H a xs∧∀p,H p=none→Q (.ref p) (upd H p (.tup xs))):=by
 intro pins s σ H vs us Q I r h
 obtain⟨a,xs,rfl,hq,q⟩:=h
 obtain⟨u,rfl,ru⟩:=Cj r
 cases ru
 obtain⟨its,rv,p,hz⟩:=I.list hq
 have hl:=rv.length
 refine call_tuple_list p.isList (fun h' hk=>?_) (by simpa[←hl] using hz)
 have hn:s.heap.get? h'.objs.size=none:=by
  cases e:s.heap.get? h'.objs.size with
  |none=>rfl
  |some o=>exact absurd (ip (hk _ _ e)) (jD _)
 exact⟨.ref h'.objs.size,upd H h'.objs.size (.tup xs),I.laidF (t':=s.toks) (fun b u e=>e6 _ (hk b u e)) hn ⟨hz,its,rv,⟨_,iz _ rfl,rfl,_,rfl⟩⟩,rfl,q _ (I.hok.none_of hn)⟩
theorem Ec:BB X (.type "list") (fun vs H Q=>∃a xs,vs=[.ref a]∧Wa X.K H a xs∧∀p,H p=none→Q (.ref p) (upd H p (.lst xs))):=by
 intro pins s σ H vs us Q I r h
 obtain⟨a,xs,rfl,hq,q⟩:=h
 obtain⟨u,rfl,ru⟩:=Cj r
 cases ru
 have hf:H s.heap.objs.size=none:=I.hok.fresh (hC _)
 have fin:∀(its:List Value) (h':Heap) (c:Nat),Vals xs its→xs.length≤sizeLine→(∀b o',s.heap.get? b=some o'→h'.get? b=some o')→h'.get? s.heap.objs.size=some {cls:=.type "list",dict:=none,data:=.seq its.toArray c,slots:=#[]}→EP X pins σ Q (.ref s.heap.objs.size) {s with heap:=h'}:=fun its h' c rv hz hk hD=>
  ⟨.ref s.heap.objs.size,upd H s.heap.objs.size (.lst xs),I.laid (t':=s.toks) hk (hC _) ⟨hz,its,c,rv,hD⟩,rfl,q _ hf⟩
 rcases hq with hq|hq
 ·obtain⟨its,rv,⟨o,n,ho,hc,hd,hdt⟩,hz⟩:=I.list hq
  have hl:=rv.length
  exact call_list_seq (hsz:=by simpa[←hl] using hz) a (.inl rfl) ho hc hdt fun h' c' hk hD=>fin its h' c' rv hz hk hD
 ·obtain⟨its,rv,⟨o,ho,hc,n,hdt⟩,hz⟩:=I.tuple hq
  have hl:=rv.length
  exact call_list_seq (hsz:=by simpa[←hl] using hz) a (.inr rfl) ho hc hdt fun h' c' hk hD=>fin its h' c' rv hz hk hD
theorem GC:BB X (.type "range") (fun vs H Q=>∃k:Int,vs=[.int k]∧∀p,H p=none→Q (.ref p) (upd H p (.rng 0 k))):=by
 intro pins s σ H vs us Q I r h
 obtain⟨k,rfl,q⟩:=h
 obtain⟨u,rfl,t,rfl⟩:=Cj r
 have hf:H s.heap.objs.size=none:=I.hok.fresh (hC _)
 exact call_range_1 ⟨.ref s.heap.objs.size,upd H s.heap.objs.size (.rng 0 k),I.laid (fun b u e=>e6 _ e) (hC _) ⟨_,_,_,iz _ rfl⟩,rfl,q _ hf⟩
theorem Ha(hc:X.calm=true):BB X (.type "list") (fun vs H Q=>∃(a:Addr) (k:Int),vs=[.ref a]∧H a=some (.rng 0 k)∧0≤k∧k≤1000∧∀p,H p=none→Q (.ref p) (upd H p (.lst ((iA k.toNat).map fun(i:Nat)=>V.int i)))):=by
 intro pins s σ H vs us Q I r h
 obtain⟨a,k,rfl,ha,k0,k1,q⟩:=h
 obtain⟨u,rfl,ru⟩:=Cj r
 cases ru
 obtain⟨t,u,v,hr⟩:=I.hok a _ ha
 have hf:H s.heap.objs.size=none:=I.hok.fresh (hC _)
 have hn:Builtin.Range.rangeSize 0 k 1=k.toNat:=by rw[rangeSize_one];split<;>omega
 refine call_list_range (I.ok.hd hc) hr (small_one (by omega) (by omega) (by omega) (by omega)) hn (by omega) fun h' tk acc c hk hD hacc=>?_
 refine⟨.ref s.heap.objs.size,_,I.laid (o:=.lst ((iA k.toNat).map fun(i:Nat)=>V.int i)) (t':=tk) hk (hC _) ⟨?_,acc.toList,c,?_,by rw[Array.toArray_toList];exact hD⟩,rfl,q _ hf⟩
 ·rw[c9,jQ,jC];omega
 ·have all:∀(l:List Value) (n m:Nat),l.length=n→(∀i v,l[i]?=some v→∃t,v=pO ((m+i:Nat):Int) t)→Vals ((List.range' m n).map fun(i:Nat)=>V.int i) l:=by
   intro l
   induction l with
   |nil=>intro n m e _;subst e;exact .nil
   |cons x l ih=>
    intro n m e hv
    subst e
    rw[iw,List.range'_succ,iN]
    refine .cons ?_ (ih l.length (m+1) rfl fun i v e=>?_)
    ·obtain⟨t,e⟩:=hv 0 x rfl
     exact⟨t,by rw[e];simp⟩
    ·obtain⟨t,e'⟩:=hv (i+1) v (by simpa using e)
     exact⟨t,by rw[e'];congr 1;omega⟩
  rw[List.range_eq_range']
  refine all acc.toList _ 0 (by rw[iq];exact hacc.1) fun i v e=>?_
  obtain⟨t,e'⟩:=hacc.2 i v (by rw[←iR];exact e)
  exact⟨t,by rw[e'];congr 1;omega⟩
theorem RX(hu:X.A.units<cLine):CY X (jB .NotEq) (fun x y H Q=>∃a b xs,x=.ref a∧y=.ref b∧Cz X.K H a xs∧Cz X.K H b []∧Q (.bl (!xs.isEmpty)) H):=by
 intro pins s σ H x y v u Q I rx ry h
 obtain⟨a,b,xs,rfl,rfl,ha,hb,q⟩:=h
 cases rx;cases ry
 obtain⟨its,r1,p1,_⟩:=I.list ha
 obtain⟨its2,r2,p2,_⟩:=I.list hb
 cases r2
 cases xs with
 |nil=>
  cases r1
  exact p8.lists (e:=fun _=>true) p1.isList p2.isList rfl hu (fun j h1 _=>by simp at h1) _ _ _ _ ⟨.bl _,H,I,rfl,q⟩
 |cons x xs=>
  have hl:=r1.length
  exact p8.lists_lengths p1.isList p2.isList (by simp;intro e;rw[e] at hl;simp at hl) hu _ _ _ _ ⟨.bl _,H,I,rfl,q⟩
end
end L2
namespace HT
open PySem PySem.Spec PyProof.Rows
section
open PySem.SeqAt
open PySem.AutoSeq1 (wpAny_loadPart')
open PySem.MeetsSeq PySem.MeetsSeq2 PySem.MeetsSeq3
end
section
variable{prog:Program}{w:World}{A:iC}{E:Value→a9→Prop}{s:a9}
theorem LO(l b:Addr)(items items2:Array Value)(n n2:Nat)(dd dd2:Option Addr)(sl sl2:Array (Option Value))(hc0:items.isEmpty=true):
  Meets (Builtin.«tuple.__add__» ⟨[.ref l,.ref b],[]⟩) (fun _ R s=>s.heap.get? l=some ⟨.type "tuple",dd,.seq items n,sl⟩∧s.heap.get? b=some ⟨.type "tuple",dd2,.seq items2 n2,sl2⟩∧R (.ok (.ret (Value.ref b))) s):=
 .of_wp fun prog w A R s h=>by
  obtain⟨hp,g,d,tk,os⟩:=s
  obtain⟨hl,hb,h⟩:=h
  have f2:=AutoSeq1.sub_tuple_tuple
  wp_walk using AutoSeq1.wpAny_loadPart' hl,AutoSeq1.wpAny_loadPart' hb
  exact⟨_,rfl,h⟩
theorem RY{t b:Addr}{ws:List Value}{Q:Value→a9→Prop}(ht:IsTup s.heap t #[])(hb:IsTup s.heap b ws.toArray)(h1:Q (.ref b) s):wpAny (model prog w) A (lP .Add (.ref t) (.ref b)) Q E s:=by
 obtain⟨⟨cls,dd,data,sl⟩,ho,hc,n,hd⟩:=id ht
 obtain⟨⟨cls2,dd2,data2,sl2⟩,ho2,hc2,n2,hd2⟩:=id hb
 simp only at hc hd hc2 hd2
 subst hc hd hc2 hd2
 exact rF ⟨_,ho,rfl⟩ ⟨_,ho2,rfl⟩ pM qQ nE nv (m7 _ _) (LO t b _ ws.toArray n n2 dd dd2 sl sl2 rfl) ⟨ho,ho2,h1⟩
theorem EU{t sl:Addr}{items:Array Value}{vl vu:Value}{lo hi:Option Int}{Q:Value→a9→Prop}(ht:IsTup s.heap t items)(hs:s.heap.IsSliceOf sl vl vu .none)(pl:qb vl lo)(pu:qb vu hi)
  (h1:BV items.size 0 lo=0) (h2:BV items.size items.size hi=items.size) (h:Q (.ref t) s):wpAny (model prog w) A (o7 (.ref t) (.ref sl)) Q E s:=by
 obtain⟨os,hos,hcs,hds⟩:=id hs
 have hTs:s.TypeIs (.ref sl) "slice":=⟨os,hos,hcs⟩
 unfold o7
 try with_reducible refine je ?_
 first|refine a7 (b9 ?_)|skip
 refine a7 (oX ht.typeIs (by decide) ?_)
 refine a7 (jJ (name:=lQ "__getitem__") ht.typeIs ja
  (jF ja ht.typeIs ou ?_ (oN _ _)))
 show wpAny _ _ (mN (.ref t)>>=_) _ _ s
 refine a7 (qP ht ?_)
 refine a7 (nz hTs ?_)
 rw[if_pos (by decide)]
 refine a7 (Ck hs pl pu ?_)
 rw[h1,h2]
 show wpAny _ _ (if(((0:Nat):Int)==0&&(1:Int)==1&&(items.size-0)==items.size)=true then _ else _) _ _ s
 rw[if_pos (by simp)]
 unfold Builtin.Tuple.tupleIsExact
 refine a7 (a7 (nz ht.typeIs (b9 ?_)))
 rw[if_pos (by decide)]
 exact a7 (lx (b9 ⟨_,rfl,b9 h⟩))
theorem FB{t sl:Addr}{items:Array Value}{tk:Tok}{Q:Value→a9→Prop}(ht:IsTup s.heap t items)(hs:s.heap.IsSliceOf sl .none .none (.int (-1) tk))
  (h:Q (.ref s.heap.objs.size) {s with heap:=s.heap.push {cls:=.type "tuple",data:=.seq items.toList.reverse.toArray}}) (hsz:items.size≤sizeLine):wpAny (model prog w) A (o7 (.ref t) (.ref sl)) Q E s:=by
 obtain⟨os,hos,hcs,hds⟩:=id hs
 have hTs:s.TypeIs (.ref sl) "slice":=⟨os,hos,hcs⟩
 unfold o7
 try with_reducible refine je ?_
 first|refine a7 (b9 ?_)|skip
 refine a7 (oX ht.typeIs (by decide) ?_)
 refine a7 (jJ (name:=lQ "__getitem__") ht.typeIs ja
  (jF ja ht.typeIs ou ?_ (oN _ _)))
 show wpAny _ _ (mN (.ref t)>>=_) _ _ s
 refine a7 (qP ht ?_)
 refine a7 (nz hTs ?_)
 rw[if_pos (by decide)]
 refine a7 ?_
 unfold mO Builtin.Slice.sliceFields
 refine a7 (a7 (jZ hos hds (x:=.none) rfl (a7 (jZ hos hds (x:=.none) rfl (a7 (jZ hos hds (x:=.int (-1) tk) rfl (b9 ?_)))))))
 refine a7 (slicePart_int ?_)
 show wpAny _ _ (if((-1:Int)==0)=true then _ else _) _ _ s
 rw[if_neg (by decide)]
 refine a7 (oI (a7 (oI (a7 (b9 ?_)))))
 have e1:jL none none (-1) (items.size:Int)=((items.size:Int)-1,-1):=by
  unfold jL
  simp
 have e2:j5 ((items.size:Int)-1) (-1) (-1)=items.size:=by
  unfold j5
  rw[if_neg (by decide)]
  simp only[Int.neg_neg,rQ]
  split<;>omega
 show wpAny _ _ (pure ((jL none none (-1) (items.size:Int)).1,(-1:Int),j5 (jL none none (-1) (items.size:Int)).1 (jL none none (-1) (items.size:Int)).2 (-1))) _ _ s
 rw[e1]
 dsimp only
 rw[e2]
 refine b9 ?_
 have hno:¬((((items.size:Int)-1)==0&&(-1:Int)==1&&items.size==items.size)=true):=by simp
 show wpAny _ _ (if(((items.size:Int)-1)==0&&(-1:Int)==1&&items.size==items.size)=true then _ else _) _ _ s
 rw[if_neg hno]
 have e3:((iA items.size).filterMap fun(k:Nat)=>items[(((items.size:Int)-1)+(k:Int)*(-1)).toNat]?)=items.toList.reverse:=by
  have:∀n,n≤items.size→((iA n).filterMap fun(k:Nat)=>items[(((items.size:Int)-1)+(k:Int)*(-1)).toNat]?)=(items.toList.drop (items.size-n)).reverse:=by
   intro n
   induction n with
   |zero=>intro _;simp
   |succ n ih=>
    intro hn
    rw[qi,nL,ih (by omega)]
    have hk:(((items.size:Int)-1)+(n:Int)*(-1)).toNat=items.size- (n+1):=by omega
    have hlt:items.size- (n+1)<items.size:=by omega
    have hd:items.toList.drop (items.size- (n+1))=items[items.size- (n+1)]::items.toList.drop (items.size-n):=by
     rw[ku (by simpa using hlt)]
     congr 2
     omega
    rw[hd,jI]
    congr 1
    rw[jU,hk,Array.getElem?_eq_getElem hlt]
    rfl
  have:=this items.size (hC _)
  rw[this]
  simp
 rw[e3]
 have hz:sizeOk (.seq items.toList.reverse.toArray):=by
  show items.toList.reverse.toArray.size≤sizeLine
  simpa using hsz
 first
  |exact a7 (m:=ke _) (js (b9 ⟨_,rfl,b9 h⟩) hz)
  |exact a7 (a7 (m:=ke _) (js (b9 (b9 ⟨_,rfl,b9 h⟩)) hz))
  |exact a7 (a7 (m:=ke _) (js (b9 ⟨_,rfl,b9 h⟩) hz))
end
end HT
namespace L2
open PySem PySem.Spec PyProof.Rows
section
variable{X:Cx}{e:Expr}{te:TE}{pos p2 p3 p4:Pos}
def ar(K:a8):V→Option Int→Option Int→Hp→VK→Prop:=fun x lo hi H Q=>∃a xs,x=.ref a∧DT K H a xs∧∀p H',((p=a∧H'=H∧Fb xs lo hi=xs)∨(H p=none∧H'=upd H p (.tup (Fb xs lo hi))))→Q (.ref p) H'
theorem OK:dJ X (ar X.K):=by
 intro pins s σ H x v vl vu lo hi sl Q I rx hs pl pu h
 obtain⟨a,xs,rfl,hx,q⟩:=h
 cases rx
 by_cases hw:HT.BV xs.length 0 lo=0∧HT.BV xs.length xs.length hi=xs.length
 ·obtain⟨its,r,ht,hz⟩:=I.tuple hx
  have hlen:its.toArray.size=xs.length:=by rw[iu];exact r.length.symm
  refine⟨"tuple",_,ja.lookup,ht.typeIs,HT.EU ht hs pl pu (by rw[hlen];exact hw.1) (by rw[hlen];exact hw.2) ⟨.ref a,H,I,rfl,q a H (.inl ⟨rfl,rfl,?_⟩)⟩⟩
  unfold Fb
  rw[hw.1,hw.2]
  simp
 ·exact Xe pins s σ H (.ref a) (.ref a) vl vu lo hi sl Q I rfl hs pl pu ⟨a,xs,rfl,hx,hw,fun p hp=>q p _ (.inr ⟨hp,rfl⟩)⟩
theorem Um(he:PE X e te):PE X (.Subscript e (.Slice none none (some (.UnaryOp .USub (.Constant (.int 1) 0 p3) p4)) p2) pos) (fun σ H Q=>te σ H fun x H1=>∃a xs,x=.ref a∧DT X.K H1 a xs∧∀p,H1 p=none→Q (.ref p) (upd H1 p (.tup xs.reverse))):=by
 intro pins s σ H Q I h
 refine rj (Aw (he pins s σ H _ I h) fun v s1 ⟨x,H1,I1,r1,q1⟩=>?_)
 obtain⟨a,xs,rfl,hx,q⟩:=q1
 cases r1
 refine r8 ?_
 rw[pD]
 refine b9 ?_
 refine b9 ?_
 rw[qR]
 refine Aw (QY MQ JV pins s1 σ H1 (fun x H'=>x=.int (-1)∧H'=H1) I1 ⟨1,rfl,rfl,rfl⟩) fun st s2 ⟨x2,H2,I2,r2,ex,eH⟩=>?_
 subst ex eH
 obtain⟨tk,rfl⟩:=r2
 have I4:Inv X pins σ H2 {s2 with heap:=s2.heap.push {cls:=.type "slice",data:=.fields #[.none,.none,.int (-1) tk]}}:=I2.kept (t':=s2.toks) fun b ob q=>e6 _ q
 obtain⟨its,r,ht,hz⟩:=I4.tuple hx
 have hl:=r.length
 show wpAny (model X.prog X.w) X.A (pB e (.Slice none none (some (.UnaryOp .USub (.Constant (.int 1) 0 p3) p4)) p2) (.ref a) (.ref s2.heap.objs.size)) (EP X pins σ Q) X.xe {s2 with heap:=s2.heap.push {cls:=.type "slice",data:=.fields #[.none,.none,.int (-1) tk]}}
 refine tail_any (ops:=[.ref a,.ref s2.heap.objs.size]) ht.typeIs ja.lookup (HT.FB ht (qD.new ..) ?_ (by simpa[←hl] using hz)) (by with_unfolding_all rfl)
 have hf:=I4.hok.fresh (hC _)
 have rr:Vals xs.reverse its.reverse:=by
  have:∀{xs:List V} {us:List Value},Vals xs us→Vals xs.reverse us.reverse:=by
   intro xs us r
   induction r with
   |nil=>exact .nil
   |cons r1 _ ih=>rw[jI,jI];exact ih.append (.cons r1 .nil)
  exact this r
 exact⟨.ref _,_,I4.laid (o:=.tup xs.reverse) (fun b ob q=>e6 _ q) (hC _) ⟨by rw[kP];exact hz,_,rr,⟨_,iz _ rfl,rfl,_,rfl⟩⟩,rfl,q _ hf⟩
def au(K:a8):R2:=fun x y H Q=>∃a b xs ys,x=.ref a∧y=.ref b∧DT K H a xs∧DT K H b ys∧xs.length+ys.length≤sizeLine∧∀p H',((p=a∧H'=H∧ys=[])∨(p=b∧H'=H∧xs=[])∨(H p=none∧H'=upd H p (.tup (xs++ys))))→Q (.ref p) H'
theorem Uo:CY X (lP .Add) (au X.K):=by
 intro pins s σ H x y v u Q I rx ry h
 obtain⟨a,b,xs,ys,rfl,rfl,ha,hb,hz,q⟩:=h
 cases xs with
 |cons x xs=>exact UQ pins s σ H _ _ v u Q I rx ry ⟨a,b,x::xs,ys,rfl,rfl,ha,hb,by simp,hz,fun e=>q a H (.inl ⟨rfl,rfl,e⟩),fun _ p hp=>q p _ (.inr (.inr ⟨hp,rfl⟩))⟩
 |nil=>
  cases rx;cases ry
  obtain⟨its,r1,p1,_⟩:=I.tuple ha
  obtain⟨its2,r2,p2,_⟩:=I.tuple hb
  cases r1
  exact HT.RY p1 p2 ⟨.ref b,H,I,rfl,q b H (.inr (.inl ⟨rfl,rfl,rfl⟩))⟩
end
end L2
namespace L2.TL
open PySem PySem.Spec PyProof.Rows
inductive T where
 |non|bl (b:Bool)|int (i:Int)|str (x:Str)|tup (ts:List T)|lst (ts:List T)|frz (ts:List T)|dct|raw (v:V)
abbrev AJ:=Addr→Option (List T)
def Ad(O:AJ)(a:Addr)(ts:List T):AJ:=fun b=>if b=a then some ts else O b
def CQ(O:AJ)(a:Addr):AJ:=fun b=>if b=a then none else O b
theorem AF{O:AJ}{a:Addr}{ts:List T}:Ad O a ts a=some ts:=by unfold Ad;rw[if_pos rfl]
theorem AV{O:AJ}{a b:Addr}{ts:List T}(h:b≠a):Ad O a ts b=O b:=by unfold Ad;rw[if_neg h]
theorem Av{O:AJ}{a:Addr}{ts us:List T}:Ad (Ad O a ts) a us=Ad O a us:=by
 funext b;unfold Ad;split<;>rfl
theorem DF{O:AJ}{a:Addr}:CQ O a a=none:=by unfold CQ;rw[if_pos rfl]
theorem Da{O:AJ}{a b:Addr}(h:b≠a):CQ O a b=O b:=by unfold CQ;rw[if_neg h]
mutual
inductive Rep (K:a8) (O:AJ) (H:Hp):V→T→Prop
 |non:Rep K O H .non .non
 |bl (b:Bool):Rep K O H (.bl b) (.bl b)
 |int (i:Int):Rep K O H (.int i) (.int i)
 |str (x:Str):Rep K O H (.str x) (.str x)
 |tup {a:Addr} {xs:List V} {ts:List T}:H a=some (.tup xs)→Reps K O H xs ts→Rep K O H (.ref a) (.tup ts)
 |lst {a:Addr} {xs:List V} {ts:List T}:H a=some (.lst xs)→O a=none→Reps K O H xs ts→Rep K O H (.ref a) (.lst ts)
 |frz {a:Addr} {o:Obj} {xs:List V} {ts:List T}:H a=some (.frz o (.lst xs))→Reps K O H xs ts→Rep K O H (.ref a) (.frz ts)
 |dct {a:Addr}:H a=some (.dK [])→Rep K O H (.ref a) .dct
 |raw (v:V):Rep K O H v (.raw v)
inductive Reps (K:a8) (O:AJ) (H:Hp):List V→List T→Prop
 |nil:Reps K O H [] []
 |cons {v:V} {t:T} {vs:List V} {ts:List T}:Rep K O H v t→Reps K O H vs ts→Reps K O H (v::vs) (t::ts)
end
section
variable{K:a8}{O O' O1:AJ}{H H' H1:Hp}
mutual
theorem Rep.mono (hT:∀a o,H a=some o→(∀xs,o≠.lst xs)→H' a=some o) (hL:∀a xs,H a=some (.lst xs)→O a=none→H' a=some (.lst xs)∧O' a=none):∀{v:V} {t:T},Rep K O H v t→Rep K O' H' v t
 |_,_,.non=> .non
 |_,_,.bl b=> .bl b
 |_,_,.int i=> .int i
 |_,_,.str x=> .str x
 |_,_,.tup h r=> .tup (hT _ _ h fun _ z=>by cases z) (Reps.mono hT hL r)
 |_,_,.lst h o r=> .lst (hL _ _ h o).1 (hL _ _ h o).2 (Reps.mono hT hL r)
 |_,_,.frz h r=> .frz (hT _ _ h fun _ z=>by cases z) (Reps.mono hT hL r)
 |_,_,.dct h=> .dct (hT _ _ h fun _ z=>by cases z)
 |_,_,.raw v=> .raw v
theorem Reps.mono (hT:∀a o,H a=some o→(∀xs,o≠.lst xs)→H' a=some o) (hL:∀a xs,H a=some (.lst xs)→O a=none→H' a=some (.lst xs)∧O' a=none):∀{v:List V} {t:List T},Reps K O H v t→Reps K O' H' v t
 |_,_,.nil=> .nil
 |_,_,.cons h r=> .cons (Rep.mono hT hL h) (Reps.mono hT hL r)
end
theorem Reps.length:∀{vs:List V} {ts:List T},Reps K O H vs ts→vs.length=ts.length
 |_,_,.nil=>rfl
 |_,_,.cons _ r=>congrArg (· +1) r.length
theorem Reps.get:∀{vs:List V} {ts:List T} {i:Nat} {t:T},Reps K O H vs ts→ts[i]?=some t→∃v,vs[i]?=some v∧Rep K O H v t
 |_,_,_,_,.nil,e=>by simp at e
 |_,_,0,_,.cons h _,e=>by simp at e;subst e;exact⟨_,rfl,h⟩
 |_,_,i+1,t,.cons _ r,e=>by
  obtain⟨u,h1,h2⟩:=Reps.get (i:=i) (t:=t) r (by simpa using e)
  exact⟨u,by simpa using h1,h2⟩
theorem Reps.append:∀{vs ws:List V} {ts us:List T},Reps K O H vs ts→Reps K O H ws us→Reps K O H (vs++ws) (ts++us)
 |_,_,_,_,.nil,s=>s
 |_,_,_,_,.cons h r,s=> .cons h (r.append s)
theorem Reps.take:∀{vs:List V} {ts:List T} (n:Nat),Reps K O H vs ts→Reps K O H (vs.take n) (ts.take n)
 |_,_,0,_=> .nil
 |_,_,_+1,.nil=> .nil
 |_,_,n+1,.cons h r=> .cons h (r.take n)
theorem Reps.drop:∀{vs:List V} {ts:List T} (n:Nat),Reps K O H vs ts→Reps K O H (vs.drop n) (ts.drop n)
 |_,_,0,r=>r
 |_,_,_+1,.nil=> .nil
 |_,_,n+1,.cons h r=>r.drop n
theorem Reps.set{x:V}{t:T}(h:Rep K O H x t):∀{vs:List V} {ts:List T} (i:Nat),Reps K O H vs ts→Reps K O H (vs.set i x) (ts.set i t)
 |_,_,_,.nil=> .nil
 |_,_,0,.cons _ r=> .cons h r
 |_,_,i+1,.cons q r=> .cons q (Reps.set h i r)
theorem Reps.one{v:V}{t:T}(h:Rep K O H v t):Reps K O H [v] [t]:=.cons h .nil
theorem Reps.rev:∀{vs:List V} {ts:List T},Reps K O H vs ts→Reps K O H vs.reverse ts.reverse
 |_,_,.nil=> .nil
 |_,_,.cons h r=>by
  rw[jI,jI]
  exact r.rev.append (.one h)
theorem Reps.eraseIdx:∀{vs:List V} {ts:List T} (i:Nat),Reps K O H vs ts→Reps K O H (vs.eraseIdx i) (ts.eraseIdx i)
 |_,_,_,.nil=> .nil
 |_,_,0,.cons _ r=>r
 |_,_,i+1,.cons q r=> .cons q (Reps.eraseIdx i r)
def Kp(O:AJ)(H:Hp)(O':AJ)(H':Hp):Prop:=∀b o,H b=some o→O b=none→H' b=some o∧O' b=none
def OwnOk(K:a8)(O:AJ)(H:Hp):Prop:=∀a ts,O a=some ts→∃xs,H a=some (.lst xs)∧Reps K O H xs ts
theorem OwnOk.free(w:OwnOk K O H){a:Addr}{o:HO}(h:H a=some o)(hn:∀xs,o≠.lst xs):O a=none:=by
 cases e:O a with
 |none=>rfl
 |some ts=>
  obtain⟨xs,e',_⟩:=w a ts e
  rw[h] at e'
  exact absurd (i8.inj e') (hn xs)
theorem OwnOk.none_of(w:OwnOk K O H){a:Addr}(h:H a=none):O a=none:=by
 cases e:O a with
 |none=>rfl
 |some ts=>
  obtain⟨xs,e',_⟩:=w a ts e
  rw[h] at e';cases e'
theorem Kp.refl:Kp O H O H:=fun _ _ h n=> ⟨h,n⟩
theorem Kp.trans(a:Kp O H O1 H1)(b:Kp O1 H1 O' H'):Kp O H O' H':=fun c o h n=>b c o (a c o h n).1 (a c o h n).2
theorem Kp.oth(k:Kp O H O' H')(w:OwnOk K O H){a:Addr}{o:HO}(h:H a=some o)(hn:∀xs,o≠.lst xs):H' a=some o:=(k a _ h (w.free h hn)).1
theorem Kp.lst(k:Kp O H O' H'){a:Addr}{xs:List V}(h:H a=some (.lst xs))(n:O a=none):H' a=some (.lst xs)∧O' a=none:=k a _ h n
theorem Rep.kp(k:Kp O H O' H')(w:OwnOk K O H){v:V}{t:T}(r:Rep K O H v t):Rep K O' H' v t:=r.mono (fun _ _ h hn=>k.oth w h hn) fun _ _=>k.lst
theorem Reps.kp(k:Kp O H O' H')(w:OwnOk K O H){v:List V}{t:List T}(r:Reps K O H v t):Reps K O' H' v t:=r.mono (fun _ _ h hn=>k.oth w h hn) fun _ _=>k.lst
structure Frm(K:a8)(O:AJ)(H:Hp)(O':AJ)(H':Hp):Prop where
 kp:Kp O H O' H'
 own:∀b ts,O b=some ts→∃ts',O' b=some ts'
 ok:OwnOk K O' H'
theorem Frm.refl(w:OwnOk K O H):Frm K O H O H:=⟨.refl,fun _ ts e=> ⟨ts,e⟩,w⟩
theorem Frm.trans(a:Frm K O H O1 H1)(b:Frm K O1 H1 O' H'):Frm K O H O' H':=⟨a.kp.trans b.kp,fun c ts e=>by
 obtain⟨t1,e1⟩:=a.own c ts e
 exact b.own c t1 e1,b.ok⟩
theorem BN{p:Addr}{o:HO}(w:OwnOk K O H)(hp:H p=none):Kp O H O (upd H p o):=fun b u h n=> ⟨by rw[AO (AK h hp)];exact h,n⟩
theorem Frm.new{p:Addr}{o:HO}(w:OwnOk K O H)(hp:H p=none):Frm K O H O (upd H p o) where
 kp:=BN w hp
 own:=fun _ ts e=> ⟨ts,e⟩
 ok:=fun a ts e=>by
  obtain⟨xs,h,r⟩:=w a ts e
  exact⟨xs,by rw[AO (AK h hp)];exact h,r.kp (BN w hp) w⟩
theorem Jr{p:Addr}{o:HO}{ts:List T}(w:OwnOk K O H)(hp:H p=none):Kp O H (Ad O p ts) (upd H p o):=fun b u h n=>by
 have:=AK h hp
 rw[AO this,AV this]
 exact⟨h,n⟩
theorem Frm.newO{p:Addr}{xs:List V}{ts:List T}(w:OwnOk K O H)(hp:H p=none)(r:Reps K O H xs ts):Frm K O H (Ad O p ts) (upd H p (.lst xs)) where
 kp:=Jr w hp
 own:=fun b us e=>by
  by_cases hb:b=p
  ·exact⟨ts,by rw[hb,AF]⟩
  ·exact⟨us,by rw[AV hb];exact e⟩
 ok:=fun a us e=>by
  by_cases hb:a=p
  ·subst hb
   rw[AF] at e;cases e
   exact⟨xs,AQ,r.kp (Jr w hp) w⟩
  ·rw[AV hb] at e
   obtain⟨ys,h,q⟩:=w a us e
   exact⟨ys,by rw[AO hb];exact h,q.kp (Jr w hp) w⟩
theorem Js{a:Addr}{o:HO}{ts us:List T}(ha:O a=some ts):Kp O H (Ad O a us) (upd H a o):=fun b u h n=>by
 have:b≠a:=fun z=>by rw[z,ha] at n;cases n
 rw[AO this,AV this]
 exact⟨h,n⟩
theorem Frm.put{a:Addr}{xs:List V}{ts us:List T}(w:OwnOk K O H)(ha:O a=some ts)(r:Reps K O H xs us):Frm K O H (Ad O a us) (upd H a (.lst xs)) where
 kp:=Js ha
 own:=fun b vs e=>by
  by_cases hb:b=a
  ·exact⟨us,by rw[hb,AF]⟩
  ·exact⟨vs,by rw[AV hb];exact e⟩
 ok:=fun b vs e=>by
  by_cases hb:b=a
  ·subst hb
   rw[AF] at e;cases e
   exact⟨xs,AQ,r.kp (Js ha) w⟩
  ·rw[AV hb] at e
   obtain⟨ys,h,q⟩:=w b vs e
   exact⟨ys,by rw[AO hb];exact h,q.kp (Js ha) w⟩
theorem Bm{a:Addr}:Kp O H (CQ O a) H:=fun b u h n=> ⟨h,by
 by_cases hb:b=a
 ·rw[hb,DF]
 ·rw[Da hb];exact n⟩
theorem OwnOk.drop{a:Addr}(w:OwnOk K O H):OwnOk K (CQ O a) H:=fun b ts e=>by
 by_cases hb:b=a
 ·rw[hb,DF] at e;cases e
 ·rw[Da hb] at e
  obtain⟨xs,h,r⟩:=w b ts e
  exact⟨xs,h,r.kp Bm w⟩
theorem OwnOk.rep{a:Addr}{ts:List T}(w:OwnOk K O H)(e:O a=some ts):Rep K (CQ O a) H (.ref a) (.lst ts):=by
 obtain⟨xs,h,r⟩:=w a ts e
 exact .lst h DF (r.kp Bm w)
end
def Rl(K:a8)(O:AJ)(H:Hp)(σ:St)(ρ:List (Option T)):Prop:=σ.length=ρ.length∧∀(i:Nat) (t:T),ρ[i]?=some (some t)→∃v,σ[i]?=some (some v)∧Rep K O H v t
section
variable{K:a8}{O O':AJ}{H H':Hp}{σ:St}{ρ:List (Option T)}
theorem Rl.kp(k:Kp O H O' H')(w:OwnOk K O H)(r:Rl K O H σ ρ):Rl K O' H' σ ρ:=⟨r.1,fun i t e=>by
 obtain⟨v,h1,h2⟩:=r.2 i t e
 exact⟨v,h1,h2.kp k w⟩⟩
theorem Rl.set{i:Nat}{v:V}{t:T}(r:Rl K O H σ ρ)(h:Rep K O H v t):Rl K O H (σ.set i (some v)) (ρ.set i (some t)):=⟨by simpa using r.1,fun j u e=>by
 by_cases hj:j=i
 ·subst hj
  have hl:j<ρ.length:=by
   have:=(ie.mp e).1
   simpa using this
  rw[jb hl] at e
  cases e
  exact⟨v,by rw[jb (by rw[r.1];exact hl)],h⟩
 ·rw[i6 (Ne.symm hj)] at e ⊢
  exact r.2 j u e⟩
end
structure Zx where
 X:Cx
 Oe:AJ
 He:Hp
 Xi:Value→AJ→Prop
abbrev Zx.K(Z:Zx):a8:=Z.X.K
def Zx.W(Z:Zx):St→XK:=fun _ cls d H'=>d=none∧∃O',Z.Xi cls O'∧Frm Z.K Z.Oe Z.He O' H'
structure Asr(Z:Zx)(ρ:List (Option T))(O:AJ)(σ:St)(H:Hp):Prop where
 rl:Rl Z.K O H σ ρ
 fr:Frm Z.K Z.Oe Z.He O H
section
variable{Z:Zx}{ρ:List (Option T)}{O O':AJ}{σ:St}{H H':Hp}
theorem Asr.ok(a:Asr Z ρ O σ H):OwnOk Z.K O H:=a.fr.ok
theorem Asr.step(a:Asr Z ρ O σ H)(f:Frm Z.K O H O' H'):Asr Z ρ O' σ H':=⟨a.rl.kp f.kp a.ok,a.fr.trans f⟩
theorem Asr.refl(a:Asr Z ρ O σ H):Frm Z.K O H O H:=.refl a.ok
end
abbrev Bf:=T→AJ→Prop
abbrev Ms:=List T→AJ→Prop
abbrev LP:=Bool→AJ→Prop
def Acc(K:a8)(O:AJ)(H:Hp)(Φ:Bf)(Q:VK):Prop:=∀v H' t O',Φ t O'→Frm K O H O' H'→Rep K O' H' v t→Q v H'
def eQ(K:a8)(O:AJ)(H:Hp)(Φ:Ms)(Q:List V→Hp→Prop):Prop:=∀vs H' ts O',Φ ts O'→Frm K O H O' H'→Reps K O' H' vs ts→Q vs H'
def AccT(K:a8)(O:AJ)(H:Hp)(Φ:LP)(Q:Bool→Hp→Prop):Prop:=∀b H' O',Φ b O'→Frm K O H O' H'→Q b H'
def tW(Z:Zx)(ρ:List (Option T))(O:AJ)(Φ:Bf):TE:=fun σ H Q=>Asr Z ρ O σ H∧Acc Z.K O H Φ Q
def fV(Z:Zx)(ρ:List (Option T))(O:AJ)(Φ:Ms):TA:=fun σ H Q=>Asr Z ρ O σ H∧eQ Z.K O H Φ Q
def Zq(Z:Zx)(ρ:List (Option T))(O:AJ)(Φ:LP):TT:=fun σ H Q=>Asr Z ρ O σ H∧AccT Z.K O H Φ Q
def WE(Z:Zx)(ρ:List (Option T))(O:AJ)(e:Expr)(Φ:Bf):Prop:=PE Z.X e (tW Z ρ O Φ)
def WA(Z:Zx)(ρ:List (Option T))(O:AJ)(es:List Expr)(Φ:Ms):Prop:=PA Z.X es (fV Z ρ O Φ)
def WT(Z:Zx)(ρ:List (Option T))(O:AJ)(e:Expr)(Φ:LP):Prop:=PT Z.X e (Zq Z ρ O Φ)
def WW(Z:Zx)(ρ:List (Option T))(O:AJ)(e:Expr)(Φ:LP):Prop:=PW Z.X e (Zq Z ρ O Φ)
def ET(Z:Zx)(ρ:List (Option T))(O:AJ)(e:Expr)(t:T):Prop:=∀Φ:Bf,Φ t O→WE Z ρ O e Φ
def EA(Z:Zx)(ρ:List (Option T))(O:AJ)(es:List Expr)(ts:List T):Prop:=∀Φ:Ms,Φ ts O→WA Z ρ O es Φ
def EB(Z:Zx)(ρ:List (Option T))(O:AJ)(e:Expr)(b:Bool):Prop:=∀Φ:LP,Φ b O→WT Z ρ O e Φ
theorem PE.weak{X:Cx}{e:Expr}{t t':TE}(h:PE X e t)(w:∀σ H Q,t' σ H Q→t σ H Q):PE X e t':=fun pins s σ H Q I q=>h pins s σ H Q I (w σ H Q q)
theorem PA.weak{X:Cx}{e:List Expr}{t t':TA}(h:PA X e t)(w:∀σ H Q,t' σ H Q→t σ H Q):PA X e t':=fun pos pins s σ H Q I q=>h pos pins s σ H Q I (w σ H Q q)
theorem PT.weak{X:Cx}{e:Expr}{t t':TT}(h:PT X e t)(w:∀σ H Q,t' σ H Q→t σ H Q):PT X e t':=fun pins s σ H Q I q=>h pins s σ H Q I (w σ H Q q)
theorem PW.weak{X:Cx}{e:Expr}{t t':TT}(h:PW X e t)(w:∀σ H Q,t' σ H Q→t σ H Q):PW X e t':=fun whole pins s σ H Q I q=>h whole pins s σ H Q I (w σ H Q q)
theorem PS.weak{X:Cx}{e:Stmt}{t t':TS}(h:PS X e t)(w:∀D σ H,t' D σ H→t D σ H):PS X e t':=fun pins s σ H D I q=>h pins s σ H D I (w D σ H q)
theorem PSs.weak{X:Cx}{e:List Stmt}{t t':TS}(h:PSs X e t)(w:∀D σ H,t' D σ H→t D σ H):PSs X e t':=fun pins s σ H D I q=>h pins s σ H D I (w D σ H q)
def tX(Z:Zx)(ρ:List (Option T))(e:Expr):TE:=fun σ H Q=>∃O Φ,WE Z ρ O e Φ∧tW Z ρ O Φ σ H Q
theorem BW{Z:Zx}{ρ:List (Option T)}{e:Expr}:PE Z.X e (tX Z ρ e):=fun pins s σ H Q I ⟨_,_,w,q⟩=>w pins s σ H Q I q
def gD(Z:Zx)(ρ:List (Option T))(e:List Expr):TA:=fun σ H Q=>∃O Φ,WA Z ρ O e Φ∧fV Z ρ O Φ σ H Q
theorem IR{Z:Zx}{ρ:List (Option T)}{e:List Expr}:PA Z.X e (gD Z ρ e):=fun pos pins s σ H Q I ⟨_,_,w,q⟩=>w pos pins s σ H Q I q
def gE(Z:Zx)(ρ:List (Option T))(e:Expr):TT:=fun σ H Q=>∃O Φ,WW Z ρ O e Φ∧Zq Z ρ O Φ σ H Q
theorem av{Z:Zx}{ρ:List (Option T)}{e:Expr}:PW Z.X e (gE Z ρ e):=fun whole pins s σ H Q I ⟨_,_,w,q⟩=>w whole pins s σ H Q I q
section
variable{Z:Zx}{ρ:List (Option T)}{O:AJ}{e a b:Expr}{es:List Expr}{Φ Φ':Bf}{pos:Pos}{t ta tb:T}{ts:List T}
theorem Acc.mono{K:a8}{H:Hp}{Q:VK}(h:Acc K O H Φ' Q)(w:∀t O',Φ t O'→Φ' t O'):Acc K O H Φ Q:=fun v H' t O' p=>h v H' t O' (w t O' p)
theorem Acc.step{K:a8}{H H1:Hp}{O1:AJ}{Q:VK}(h:Acc K O H Φ Q)(f:Frm K O H O1 H1):Acc K O1 H1 Φ Q:=fun v H' t O' p f' r=>h v H' t O' p (f.trans f') r
theorem AccT.step{K:a8}{H H1:Hp}{O1:AJ}{Φ:LP}{Q:Bool→Hp→Prop}(h:AccT K O H Φ Q)(f:Frm K O H O1 H1):AccT K O1 H1 Φ Q:=fun v H' O' p f'=>h v H' O' p (f.trans f')
theorem Dp(h:WE Z ρ O e Φ)(w:∀t O',Φ t O'→Φ' t O'):WE Z ρ O e Φ':=PE.weak h fun _ _ _ q=> ⟨q.1,q.2.mono w⟩
theorem ET.we(h:ET Z ρ O e t)(p:Φ t O):WE Z ρ O e Φ:=h Φ p
theorem YC{i:Nat}{x:Str}(hN:Z.X.N[i]?=some x)(hv:Zo Z.X.env.scope x)(e:ρ[i]?=some (some t))(p:Φ t O)(hd:(x==("__debug__" :Str))=false:=by decide)(hcd:(x==("__classdict__" :Str))=false:=by decide):WE Z ρ O (.Name x pos) Φ:=
 PE.weak (QT hN hv hd hcd) fun σ H Q q=>by
  obtain⟨v,h1,h2⟩:=q.1.rl.2 i t e
  exact⟨v,h1,q.2 v H t O p q.1.refl h2⟩
theorem ev(i:Nat){x:Str}(e:ρ[i]?=some (some t):=by rfl)(hN:Z.X.N[i]?=some x:=by rfl)(hv:Zo Z.X.env.scope x:=by first|exact pH rfl|exact oO (pH rfl)|exact oO (oO rfl))(hd:(x==("__debug__" :Str))=false:=by decide)
  (hcd:(x==("__classdict__" :Str))=false:=by decide):ET Z ρ O (.Name x pos) t:=fun _ p=>YC hN hv e p hd hcd
theorem RZ{v:V}(h:PE Z.X e (tC v))(r:∀O H,Rep Z.K O H v t):ET Z ρ O e t:=fun _ p=>PE.weak h fun _ H _ q=>q.2 v H _ O p q.1.refl (r O H)
theorem AC{i:Int}{j:Nat}:ET Z ρ O (.Constant (.int i) j pos) (.int i):=RZ JV fun _ _=> .int i
theorem Ra{i:Bool}{j:Nat}:ET Z ρ O (.Constant (.bool i) j pos) (.bl i):=RZ Zt fun _ _=> .bl i
theorem DG{j:Nat}:ET Z ρ O (.Constant .none j pos) .non:=RZ XA fun _ _=> .non
theorem GX{x:Str}{i:Int}(hm:∃t:Tok,Z.X.mg x=some (.int i t))(hg:Gl Z.X x:=by rfl)(hd:(x==("__debug__" :Str))=false:=by decide):ET Z ρ O (.Name x pos) (.int i):=by
 cases hm with
 |intro t hm=>exact RZ (UF (v:=.int i) hg hm ⟨t,rfl⟩ hd) fun _ _=> .int i
theorem aw{x:Str}{n:String}(hm:Z.X.mg x=none)(hv:i5 x=some (.type n))(hg:Gl Z.X x:=by rfl)(hn:x≠"__name__":=by decide)(hd:(x==("__debug__" :Str))=false:=by decide):ET Z ρ O (.Name x pos) (.raw (.ty n)):=
 RZ (UG (v:=.ty n) hg hm hv rfl hn hd) fun _ _=> .raw _
def RT(K:a8)(r:R2)(ta tb:T)(O:AJ)(Φ:Bf):Prop:=∀H v w Q,OwnOk K O H→Rep K O H v ta→Rep K O H w tb→Acc K O H Φ Q→r v w H Q
def RP(K:a8)(r:R2)(ta tb:T)(O:AJ)(t:T):Prop:=∀Φ:Bf,Φ t O→RT K r ta tb O Φ
theorem Jt{r:R2}{σ:St}{H:Hp}{Q:VK}(q:tW Z ρ O Φ σ H Q)(h:WE Z ρ O a fun ta O1=>WE Z ρ O1 b fun tb O2=>RT Z.K r ta tb O2 Φ):aH r (tX Z ρ a) (tX Z ρ b) σ H Q:=
 ⟨O,_,h,q.1,fun v H1 ta O1 p f1 r1=> ⟨O1,_,p,q.1.step f1,fun w H2 tb O2 p2 f2 r2=>p2 H2 v w Q f2.ok (r1.kp f2.kp f1.ok) r2 (q.2.step (f1.trans f2))⟩⟩
theorem GD{op:qz}{r:R2}(ho:CY Z.X (lP op) r)(h:WE Z ρ O a fun ta O1=>WE Z ρ O1 b fun tb O2=>RT Z.K r ta tb O2 Φ):WE Z ρ O (.BinOp a op b pos) Φ:=
 PE.weak (aI ho BW BW) fun _ _ _ q=>Jt q h
theorem YD{op:CmpOp}{r:R2}(ho:CY Z.X (jB op) r)(hm:behindInMarks op b=false)(h:WE Z ρ O a fun ta O1=>WE Z ρ O1 b fun tb O2=>RT Z.K r ta tb O2 Φ):WE Z ρ O (.Compare a [op] [b] pos) Φ:=
 PE.weak (UM ho BW BW hm) fun _ _ _ q=>Jt q h
theorem GE{op:qz}{r:R2}(ho:CY Z.X (lP op) r)(hp:RP Z.K r ta tb O t)(ha:ET Z ρ O a ta)(hb:ET Z ρ O b tb):ET Z ρ O (.BinOp a op b pos) t:=fun Φ p=>GD ho (ha _ (hb _ (hp Φ p)))
theorem Bb{op:CmpOp}{r:R2}(ho:CY Z.X (jB op) r)(hm:behindInMarks op b=false)(hp:RP Z.K r ta tb O t)(ha:ET Z ρ O a ta)(hb:ET Z ρ O b tb):ET Z ρ O (.Compare a [op] [b] pos) t:=fun Φ p=>YD ho hm (ha _ (hb _ (hp Φ p)))
theorem Rb{r:R2}(ho:aU Z.X r)(hs:Dn b)(h:WE Z ρ O a fun ta O1=>WE Z ρ O1 b fun tb O2=>RT Z.K r ta tb O2 Φ):WE Z ρ O (.Subscript a b pos) Φ:=
 PE.weak (WQ ho BW BW hs) fun _ _ _ q=>Jt q h
theorem Re{r:R2}(ho:aU Z.X r)(hs:Dn b)(hp:RP Z.K r ta tb O t)(ha:ET Z ρ O a ta)(hb:ET Z ρ O b tb):ET Z ρ O (.Subscript a b pos) t:=fun Φ p=>Rb ho hs (ha _ (hb _ (hp Φ p)))
theorem Ap{Φ:Ms}(p:Φ [] O):WA Z ρ O [] Φ:=PA.weak FZ fun _ H _ q=>q.2 [] H [] O p q.1.refl .nil
theorem Bn{Φ:Ms}(h:WE Z ρ O e fun t O1=>WA Z ρ O1 es fun ts O2=>Φ (t::ts) O2)(hs:e8 (e::es) Z.X.env=(false,eval e Z.X.env)::e8 es Z.X.env:=by rfl):WA Z ρ O (e::es) Φ:=
 PA.weak (Dm BW IR hs) fun σ H Q q=> ⟨O,_,h,q.1,fun v H1 t O1 p f1 r1=> ⟨O1,_,p,q.1.step f1,fun vs H2 ts O2 p2 f2 r2=>q.2 _ H2 _ O2 p2 (f1.trans f2) (.cons (r1.kp f2.kp f1.ok) r2)⟩⟩
theorem AB:EA Z ρ O [] []:=fun _ p=>Ap p
theorem AI(h:ET Z ρ O e t)(hr:EA Z ρ O es ts)(hs:e8 (e::es) Z.X.env=(false,eval e Z.X.env)::e8 es Z.X.env:=by rfl):EA Z ρ O (e::es) (t::ts):=fun Φ p=>Bn (h _ (hr _ p)) hs
theorem Bt{x1}(h:WA Z ρ O es fun ts O1=>ts.length≤sizeLine∧Φ (.tup ts) O1):WE Z ρ O (.Tuple es x1 pos) Φ:=
 PE.weak (Xc h) fun σ H Q q=> ⟨q.1,fun vs H1 ts O1 p f r=> ⟨by rw[r.length];exact p.1,fun a ha=>q.2 _ _ _ O1 p.2 (f.trans (.new f.ok ha)) (.tup AQ (r.kp (BN f.ok ha) f.ok))⟩⟩
theorem DH{x1}(h:EA Z ρ O es ts)(hl:ts.length≤sizeLine:=by first| (show 1≤sizeLine;decide)| (show 2≤sizeLine;decide)| (show 3≤sizeLine;decide)| (show 0≤sizeLine;decide)):ET Z ρ O (.Tuple es x1 pos) (.tup ts):=fun _ p=>Bt (h _ ⟨hl,p⟩)
theorem Rf(h:WA Z ρ O es fun ts O1=>ts.length≤sizeLine∧Φ (.lst ts) O1):WE Z ρ O (.List es pos) Φ:=
 PE.weak (Qf h) fun σ H Q q=> ⟨q.1,fun vs H1 ts O1 p f r=> ⟨by rw[r.length];exact p.1,fun a ha=>q.2 _ _ _ O1 p.2 (f.trans (.new f.ok ha)) (.lst AQ (f.ok.none_of ha) (r.kp (BN f.ok ha) f.ok))⟩⟩
theorem Bu(h:EA Z ρ O es ts)(hl:ts.length≤sizeLine):ET Z ρ O (.List es pos) (.lst ts):=fun _ p=>Rf (h _ ⟨hl,p⟩)
theorem Dq(h:WA Z ρ O es fun ts O1=>ts.length≤sizeLine∧∀a,O1 a=none→Φ (.raw (.ref a)) (Ad O1 a ts)):WE Z ρ O (.List es pos) Φ:=
 PE.weak (Qf h) fun σ H Q q=> ⟨q.1,fun vs H1 ts O1 p f r=> ⟨by rw[r.length];exact p.1,fun a ha=>q.2 _ _ _ _ (p.2 a (f.ok.none_of ha)) (f.trans (.newO f.ok ha r)) (.raw _)⟩⟩
end
section
variable{K:a8}{O:AJ}{H:Hp}{v:V}
theorem Rep.int_inv{i:Int}(r:Rep K O H v (.int i)):v=.int i:=by cases r;rfl
theorem Rep.bl_inv{i:Bool}(r:Rep K O H v (.bl i)):v=.bl i:=by cases r;rfl
theorem Rep.non_inv(r:Rep K O H v .non):v=.non:=by cases r;rfl
theorem Rep.raw_inv{i:V}(r:Rep K O H v (.raw i)):v=i:=by cases r;rfl
theorem Rep.tup_inv{ts:List T}(r:Rep K O H v (.tup ts)):∃a xs,v=.ref a∧H a=some (.tup xs)∧Reps K O H xs ts:=by
 cases r with
 |tup h r=>exact⟨_,_,rfl,h,r⟩
theorem Rep.lst_inv{ts:List T}(r:Rep K O H v (.lst ts)):∃a xs,v=.ref a∧H a=some (.lst xs)∧O a=none∧Reps K O H xs ts:=by
 cases r with
 |lst h o r=>exact⟨_,_,rfl,h,o,r⟩
theorem Reps.cons_inv{vs:List V}{t:T}{ts:List T}(r:Reps K O H vs (t::ts)):∃v vs',vs=v::vs'∧Rep K O H v t∧Reps K O H vs' ts:=by
 cases r with
 |cons h r=>exact⟨_,_,rfl,h,r⟩
theorem Reps.nil_inv{vs:List V}(r:Reps K O H vs []):vs=[]:=by cases r;rfl
theorem Reps.one_inv{vs:List V}{t:T}(r:Reps K O H vs [t]):∃v,vs=[v]∧Rep K O H v t:=by
 obtain⟨v,vs',rfl,h,r⟩:=r.cons_inv
 cases r.nil_inv
 exact⟨v,rfl,h⟩
theorem Reps.two_inv{vs:List V}{t u:T}(r:Reps K O H vs [t,u]):∃v w,vs=[v,w]∧Rep K O H v t∧Rep K O H w u:=by
 obtain⟨v,vs',rfl,h,r⟩:=r.cons_inv
 obtain⟨w,rfl,h2⟩:=r.one_inv
 exact⟨v,w,rfl,h,h2⟩
theorem Reps.ints:∀{vs:List V} {ns:List Int},Reps K O H vs (ns.map T.int)→vs=ns.map V.int
 |_,[],r=>r.nil_inv
 |_,n::ns,r=>by
  obtain⟨v,vs',rfl,h,r⟩:=Reps.cons_inv r
  rw[h.int_inv,Reps.ints r]
  rfl
end
section
variable{Z:Zx}{ρ:List (Option T)}{O:AJ}{e a b c:Expr}{es:List Expr}{Φ Φ':Bf}{pos:Pos}{t ta tb:T}{ts:List T}{K:a8}{i j:Int}
theorem JA{g:Int→Int→Int}:RP K (UA fun i j=> .int (g i j)) (.int i) (.int j) O (.int (g i j)):=fun Φ p H v w Q ok r1 r2 q=> ⟨i,j,r1.int_inv,r2.int_inv,q _ H _ O p (.refl ok) (.int _)⟩
theorem Hb{g:Int→Int→Bool}:RP K (UA fun i j=> .bl (g i j)) (.int i) (.int j) O (.bl (g i j)):=fun Φ p H v w Q ok r1 r2 q=> ⟨i,j,r1.int_inv,r2.int_inv,q _ H _ O p (.refl ok) (.bl _)⟩
theorem Rg{C:Int→Int→Prop}{g:Int→Int→Int}(hc:C i j):RP K (rI C fun i j=> .int (g i j)) (.int i) (.int j) O (.int (g i j)):=fun Φ p H v w Q ok r1 r2 q=> ⟨i,j,r1.int_inv,r2.int_inv,hc,q _ H _ O p (.refl ok) (.int _)⟩
theorem Cd(ha:ET Z ρ O a (.int i))(hb:ET Z ρ O b (.int j)):ET Z ρ O (.BinOp a .Add b pos) (.int (i+j)):=GE Gv JA ha hb
theorem Ce(ha:ET Z ρ O a (.int i))(hb:ET Z ρ O b (.int j)):ET Z ρ O (.BinOp a .Sub b pos) (.int (i-j)):=GE XW JA ha hb
theorem Mt(ha:ET Z ρ O a (.int i))(hb:ET Z ρ O b (.int j))(h:CMul i j):ET Z ρ O (.BinOp a .Mult b pos) (.int (i*j)):=GE XX (Rg h) ha hb
theorem GY(ha:ET Z ρ O a (.int i))(hb:ET Z ρ O b (.int j))(h:aK i j):ET Z ρ O (.BinOp a .FloorDiv b pos) (.int (i/j)):=GE UL (Rg h) ha hb
theorem Fk(ha:ET Z ρ O a (.int i))(hb:ET Z ρ O b (.int j))(h:0<j):ET Z ρ O (.BinOp a .Mod b pos) (.int (i%j)):=GE QZ (Rg h) ha hb
theorem YE(ha:ET Z ρ O a (.int i))(hb:ET Z ρ O b (.int j))(h:aL i j):ET Z ρ O (.BinOp a .Pow b pos) (.int (i^j.toNat)):=GE XY (Rg h) ha hb
theorem Rh(ha:ET Z ρ O a (.int i))(hb:ET Z ρ O b (.int j)):ET Z ρ O (.Compare a [.Lt] [b] pos) (.bl (decide (i<j))):=Bb Qb (Ai _) Hb ha hb
theorem ay(ha:ET Z ρ O a (.int i))(hb:ET Z ρ O b (.int j)):ET Z ρ O (.Compare a [.GtE] [b] pos) (.bl (decide (j≤i))):=Bb aN (Ai _) Hb ha hb
theorem Ju:RP K dv (.int i) (.int j) O (.bl (decide (i=j))):=fun Φ p H v w Q ok r1 r2 q=>by
 cases r1.int_inv;cases r2.int_inv
 refine⟨rfl,?_⟩
 have:decide (V.int i=V.int j)=decide (i=j):=by simp
 rw[this]
 exact q _ H _ O p (.refl ok) (.bl _)
theorem Ri:RP K dw (.int i) (.int j) O (.bl (!decide (i=j))):=fun Φ p H v w Q ok r1 r2 q=>by
 cases r1.int_inv;cases r2.int_inv
 refine⟨rfl,?_⟩
 have:decide (V.int i=V.int j)=decide (i=j):=by simp
 rw[this]
 exact q _ H _ O p (.refl ok) (.bl _)
theorem YF{x y:Bool}:RP K dv (.bl x) (.bl y) O (.bl (x==y)):=fun Φ p H v w Q ok r1 r2 q=>by
 cases r1.bl_inv;cases r2.bl_inv
 refine⟨rfl,?_⟩
 have:decide (V.bl x=V.bl y)=(x==y):=JZ
 rw[this]
 exact q _ H _ O p (.refl ok) (.bl _)
theorem YG{x y:Bool}:RP K dw (.bl x) (.bl y) O (.bl (!(x==y))):=fun Φ p H v w Q ok r1 r2 q=>by
 cases r1.bl_inv;cases r2.bl_inv
 refine⟨rfl,?_⟩
 have:decide (V.bl x=V.bl y)=(x==y):=JZ
 rw[this]
 exact q _ H _ O p (.refl ok) (.bl _)
theorem YH(ha:ET Z ρ O a (.int i))(hb:ET Z ρ O b (.int j)):ET Z ρ O (.Compare a [.NotEq] [b] pos) (.bl (!decide (i=j))):=Bb Qa (Ai _) Ri ha hb
theorem az{op:UnaryOp}{g:Int→Int}(ho:dH Z.X (unaryOp op) (rU fun i=> .int (g i)))(h:ET Z ρ O a (.int i)):ET Z ρ O (.UnaryOp op a pos) (.int (g i)):=fun Φ p=>
 PE.weak (QY ho BW) fun σ H Q q=> ⟨O,_,h (fun t O'=>t=.int i∧O'=O) ⟨rfl,rfl⟩,q.1,fun v H1 t O1 ⟨e1,e2⟩ f r=>by
  subst e1;subst e2
  exact⟨i,r.int_inv,q.2 _ H1 _ _ p f (.int _)⟩⟩
theorem Rj(h:ET Z ρ O a (.int i)):ET Z ρ O (.UnaryOp .USub a pos) (.int (-i)):=az MQ h
theorem Rm{op op':CmpOp}{r r':R2}{tc:T}{x y:Bool}(ho:CY Z.X (jB op) r)(ho':CY Z.X (jB op') r')(hp:RP Z.K r ta tb O (.bl x))(hp':x=true→RP Z.K r' tb tc O (.bl y))
  (ha:ET Z ρ O a ta) (hb:ET Z ρ O b tb) (hc:x=true→ET Z ρ O c tc) (hm:lastMarks [op,op'] [b,c]=false:=by with_unfolding_all rfl):ET Z ρ O (.Compare a [op,op'] [b,c] pos) (.bl (x&&y)):=fun Φ p=>
 by
 refine PE.weak (Qd ho ho' (BW (ρ:=ρ)) (BW (ρ:=ρ)) (BW (ρ:=ρ)) hm) fun σ H Q q=>?_
 refine⟨O,_,ha (fun t O'=>t=ta∧O'=O) ⟨rfl,rfl⟩,q.1,?_⟩
 rintro v H1 _ _ ⟨rfl,rfl⟩ f1 r1
 refine⟨_,_,hb (fun t O'=>t=tb∧O'=_) ⟨rfl,rfl⟩,q.1.step f1,?_⟩
 rintro w H2 _ _ ⟨rfl,rfl⟩ f2 r2
 refine hp (fun t O'=>t=.bl x∧O'=_) ⟨rfl,rfl⟩ H2 v w _ f2.ok (r1.kp f2.kp f1.ok) r2 ?_
 rintro z H3 _ _ ⟨rfl,rfl⟩ f3 r3
 refine⟨x,r3.bl_inv,?_⟩
 cases x with
 |false=>exact Qo (q.2 _ H3 _ _ p (f1.trans (f2.trans f3)) (.bl _))
 |true=>
  refine Jc ⟨_,_,hc rfl (fun t O'=>t=tc∧O'=_) ⟨rfl,rfl⟩,q.1.step (f1.trans (f2.trans f3)),?_⟩
  rintro w' H4 _ _ ⟨rfl,rfl⟩ f4 r4
  exact hp' rfl _ p H4 w w' _ f4.ok (r2.kp (f3.trans f4).kp f2.ok) r4 (q.2.step (f1.trans (f2.trans (f3.trans f4))))
def TruT(O:AJ):T→Bool→Prop
 | .non,k=>k=false
 | .bl b,k=>k=b
 | .int i,k=>k=(i !=0)
 | .str y,k=>y.length≤sizeLine∧k=((y.length:Int) !=0)
 | .tup ts,k=>k=!ts.isEmpty
 | .lst ts,k=>k=!ts.isEmpty
 | .frz ts,k=>k=!ts.isEmpty
 | .dct,_=>False
 | .raw (.ref a),k=>∃ts,O a=some ts∧k=!ts.isEmpty
 | .raw _,_=>False
theorem Reps.isEmpty{vs:List V}{ts:List T}{H:Hp}(r:Reps K O H vs ts):vs.isEmpty=ts.isEmpty:=by cases r<;>rfl
theorem TruT.v{H:Hp}{v:V}{k:Bool}(h:TruT O t k)(r:Rep K O H v t)(ok:OwnOk K O H):Xa K v H k:=by
 cases r with
 |non=>exact h
 |bl=>exact h
 |int=>exact h
 |str=>exact h
 |tup h1 r=>
  have h:k=!_:=h
  exact .inr (.inl ⟨_,.inl (.inl h1),by rw[h,r.isEmpty]⟩)
 |lst h1 o r=>
  have h:k=!_:=h
  exact .inl ⟨_,.inl (.inl h1),by rw[h,r.isEmpty]⟩
 |frz h1 r=>
  have h:k=!_:=h
  exact .inl ⟨_,.inl (.inr ⟨_,h1⟩),by rw[h,r.isEmpty]⟩
 |dct=>exact h.elim
 |raw v=>
  cases v with
  |ref a=>
   obtain⟨ts,e,h⟩:=h
   obtain⟨xs,h1,r⟩:=ok a ts e
   exact .inl ⟨xs,.inl (.inl h1),by rw[h,r.isEmpty]⟩
  |_=>exact h.elim
theorem LQ{Φ:LP}(h:WE Z ρ O e fun t O'=>∃k,TruT O' t k∧Φ k O')(he:∀whole,isTrue e Z.X.env whole=(do let v←whole;standAt e.pos;holding [v] (truthy v)):=by intro _;rfl):WT Z ρ O e Φ:=
 PT.weak (Qe BW he) fun σ H Q q=> ⟨O,_,h,q.1,fun v H1 t O1 ⟨k,tr,p⟩ f r=> ⟨k,tr.v r f.ok,q.2 k H1 O1 p f⟩⟩
theorem Hc{k:Bool}(h:ET Z ρ O e t)(tr:TruT O t k)(he:∀whole,isTrue e Z.X.env whole=(do let v←whole;standAt e.pos;holding [v] (truthy v)):=by intro _;rfl):EB Z ρ O e k:=fun Φ p=>LQ (h _ ⟨k,tr,p⟩) he
theorem CS{k:Bool}(h:ET Z ρ O e (.bl k))(he:∀whole,isTrue e Z.X.env whole=(do let v←whole;standAt e.pos;holding [v] (truthy v)):=by intro _;rfl):EB Z ρ O e k:=Hc h rfl he
theorem Jv{Φ:LP}{op:CmpOp}{r:R2}(ho:CY Z.X (jB op) r)(hm:behindInMarks op b=false)(h:WE Z ρ O a fun ta O1=>WE Z ρ O1 b fun tb O2=>RT Z.K r ta tb O2 fun t O3=>∃k,t=.bl k∧Φ k O3):WT Z ρ O (.Compare a [op] [b] pos) Φ:=
 PT.weak (Nn ho BW BW hm) fun σ H Q q=>Jt (Φ:=fun t O3=>∃k,t=.bl k∧Φ k O3) ⟨q.1,fun v H' t O' ⟨k,e,p⟩ f r=>by
  subst e
  exact⟨k,r.bl_inv,q.2 k H' O' p f⟩⟩ h
theorem Bc{op:CmpOp}{r:R2}{k:Bool}(ho:CY Z.X (jB op) r)(hm:behindInMarks op b=false)(hp:RP Z.K r ta tb O (.bl k))(ha:ET Z ρ O a ta)(hb:ET Z ρ O b tb):EB Z ρ O (.Compare a [op] [b] pos) k:=fun Φ p=>
 Jv ho hm (ha _ (hb _ (hp _ ⟨k,rfl,p⟩)))
theorem Wb(ha:ET Z ρ O a (.int i))(hb:ET Z ρ O b (.int j)):EB Z ρ O (.Compare a [.Lt] [b] pos) (decide (i<j)):=Bc Qb (Ai _) Hb ha hb
theorem OL(ha:ET Z ρ O a (.int i))(hb:ET Z ρ O b (.int j)):EB Z ρ O (.Compare a [.Gt] [b] pos) (decide (j<i)):=Bc WO (Ai _) Hb ha hb
theorem Dc(ha:ET Z ρ O a (.int i))(hb:ET Z ρ O b (.int j)):EB Z ρ O (.Compare a [.Eq] [b] pos) (decide (i=j)):=Bc Kq (Ai _) Ju ha hb
theorem Ed(ha:ET Z ρ O a (.int i))(hb:ET Z ρ O b (.int j)):EB Z ρ O (.Compare a [.NotEq] [b] pos) (!decide (i=j)):=Bc Qa (Ai _) Ri ha hb
theorem Rn{x y:Bool}(ha:ET Z ρ O a (.bl x))(hb:ET Z ρ O b (.bl y)):EB Z ρ O (.Compare a [.NotEq] [b] pos) (!(x==y)):=Bc Qa (Ai _) YG ha hb
theorem Up{k:Int}(ha:ET Z ρ O a (.int i))(hb:ET Z ρ O b (.int j))(hc:ET Z ρ O c (.int k))(hm:lastMarks [CmpOp.LtE,.LtE] [b,c]=false:=by with_unfolding_all rfl):ET Z ρ O (.Compare a [.LtE,.LtE] [b,c] pos) (.bl (decide (i≤j)&&decide (j≤k))):=Rm WN WN Hb (fun _=>Hb) ha hb (fun _=>hc) hm
theorem Ro{Φ:LP}(h:WT Z ρ O a fun k O'=>Φ (!k) O'):WT Z ρ O (.UnaryOp .Not a pos) Φ:=PT.weak (XD h) fun σ H Q q=> ⟨q.1,fun k H1 O1 p f=>q.2 _ H1 O1 p f⟩
theorem BF{k:Bool}(h:EB Z ρ O a k):EB Z ρ O (.UnaryOp .Not a pos) (!k):=fun Φ p=>Ro (h _ p)
def EW(Z:Zx)(ρ:List (Option T))(O:AJ)(e:Expr)(b:Bool):Prop:=∀Φ:LP,Φ b O→WW Z ρ O e Φ
theorem EW.eb{k:Bool}(h:EW Z ρ O e k):EB Z ρ O e k:=fun Φ p=> (h Φ p).pt
theorem Uq{Φ:LP}(h:WT Z ρ O a Φ):WW Z ρ O (.BoolOp .And [a] pos) Φ:=UH h
theorem YI{Φ:LP}(h:WT Z ρ O a Φ):WW Z ρ O (.BoolOp .Or [a] pos) Φ:=XB h
theorem YJ{Φ:LP}(h:WT Z ρ O a fun k O1=>if k=true then WW Z ρ O1 (.BoolOp .And (b::es) pos) Φ else Φ false O1):WW Z ρ O (.BoolOp .And (a::b::es) pos) Φ:=
 PW.weak (XC h av) fun σ H Q q=> ⟨q.1,fun k H1 O1 p f=>by
  cases k with
  |true=>rw[if_pos rfl] at p ⊢;exact⟨O1,_,p,q.1.step f,q.2.step f⟩
  |false=>rw[if_neg gx] at p ⊢;exact q.2 _ H1 O1 p f⟩
theorem bA{Φ:LP}(h:WT Z ρ O a fun k O1=>if k=true then Φ true O1 else WW Z ρ O1 (.BoolOp .Or (b::es) pos) Φ):WW Z ρ O (.BoolOp .Or (a::b::es) pos) Φ:=
 PW.weak (Zu h av) fun σ H Q q=> ⟨q.1,fun k H1 O1 p f=>by
  cases k with
  |true=>rw[if_pos rfl] at p ⊢;exact q.2 _ H1 O1 p f
  |false=>rw[if_neg gx] at p ⊢;exact⟨O1,_,p,q.1.step f,q.2.step f⟩⟩
theorem Dr{k:Bool}(h:EB Z ρ O a k):EW Z ρ O (.BoolOp .And [a] pos) k:=fun Φ p=>Uq (h _ p)
theorem CI{k:Bool}(h:EB Z ρ O a k):EW Z ρ O (.BoolOp .Or [a] pos) k:=fun Φ p=>YI (h _ p)
theorem Fl{x y:Bool}(ha:EB Z ρ O a x)(hb:x=true→EW Z ρ O (.BoolOp .And (b::es) pos) y):EW Z ρ O (.BoolOp .And (a::b::es) pos) (x&&y):=fun Φ p=>YJ (ha _ (by
 cases x with
 |true=>rw[if_pos rfl];exact hb rfl _ p
 |false=>rw[if_neg gx];exact p))
theorem Cp{x y:Bool}(ha:EB Z ρ O a x)(hb:x=false→EW Z ρ O (.BoolOp .Or (b::es) pos) y):EW Z ρ O (.BoolOp .Or (a::b::es) pos) (x||y):=fun Φ p=>bA (ha _ (by
 cases x with
 |true=>rw[if_pos rfl];exact p
 |false=>rw[if_neg gx];exact hb rfl _ p))
theorem Fm{op}(h:ET Z ρ O a t):ET Z ρ O (.BoolOp op [a] pos) t:=fun Φ p=>XE (h Φ p)
theorem Fn{x y:Bool}(ha:ET Z ρ O a (.bl x))(hb:x=true→ET Z ρ O (.BoolOp .And (b::es) pos) (.bl y)):ET Z ρ O (.BoolOp .And (a::b::es) pos) (.bl (x&&y)):=fun Φ p=>
 by
 refine PE.weak (XF (BW (ρ:=ρ)) (BW (ρ:=ρ))) fun σ H Q q=>?_
 refine⟨O,_,ha (fun t O'=>t=.bl x∧O'=O) ⟨rfl,rfl⟩,q.1,?_⟩
 rintro v H1 _ _ ⟨rfl,rfl⟩ f r
 refine⟨x,r.bl_inv,?_⟩
 cases x with
 |true=>exact Jc ⟨_,_,hb rfl _ p,q.1.step f,q.2.step f⟩
 |false=>exact Qo (q.2 _ H1 _ _ p f (.bl _))
theorem bB(h:WT Z ρ O c fun k O1=>if k=true then WE Z ρ O1 a Φ else WE Z ρ O1 b Φ):WE Z ρ O (.IfExp c a b pos) Φ:=
 PE.weak (QU h BW BW) fun σ H Q q=> ⟨q.1,fun k H1 O1 p f=>by
  cases k with
  |true=>rw[if_pos rfl] at p ⊢;exact⟨O1,_,p,q.1.step f,q.2.step f⟩
  |false=>rw[if_neg gx] at p ⊢;exact⟨O1,_,p,q.1.step f,q.2.step f⟩⟩
theorem Rp{x:Bool}(hc:EB Z ρ O c x)(ha:x=true→ET Z ρ O a ta)(hb:x=false→ET Z ρ O b tb):ET Z ρ O (.IfExp c a b pos) (if x=true then ta else tb):=fun Φ p=>bB (hc _ (by
 cases x with
 |true=>rw[if_pos rfl] at p ⊢;exact ha rfl _ p
 |false=>rw[if_neg gx] at p ⊢;exact hb rfl _ p))
theorem Reps.atI{vs:List V}{H:Hp}(r:Reps K O H vs ts)(e:L2.atI ts i=some t):∃v,L2.atI vs i=some v∧Rep K O H v t:=by
 unfold L2.atI at e ⊢
 rw[r.length]
 cases hx:PU ts.length i with
 |none=>rw[hx] at e;cases e
 |some j=>rw[hx] at e;exact r.get e
theorem YK(e:atI ts i=some t):RP K (aV K) (.tup ts) (.int i) O t:=fun Φ p H v w Q ok r1 r2 q=>by
 obtain⟨a,xs,rfl,h1,r1⟩:=r1.tup_inv
 obtain⟨x,ex,rx⟩:=r1.atI e
 exact⟨a,xs,i,x,rfl,r2.int_inv,.inl (.inl h1),ex,q _ H _ O p (.refl ok) rx⟩
theorem Mu(e:atI ts i=some t):RP K (Xg K) (.lst ts) (.int i) O t:=fun Φ p H v w Q ok r1 r2 q=>by
 obtain⟨a,xs,rfl,h1,o1,r1⟩:=r1.lst_inv
 obtain⟨x,ex,rx⟩:=r1.atI e
 exact⟨a,xs,i,x,rfl,r2.int_inv,.inl (.inl h1),ex,q _ H _ O p (.refl ok) rx⟩
theorem YL{a:Addr}(ha:O a=some ts)(e:atI ts i=some t):RP K (Xg K) (.raw (.ref a)) (.int i) O t:=fun Φ p H v w Q ok r1 r2 q=>by
 cases r1.raw_inv
 obtain⟨xs,h1,r1⟩:=ok a ts ha
 obtain⟨x,ex,rx⟩:=r1.atI e
 exact⟨a,xs,i,x,rfl,r2.int_inv,.inl (.inl h1),ex,q _ H _ O p (.refl ok) rx⟩
theorem AZ(ha:ET Z ρ O a (.tup ts))(hb:ET Z ρ O b (.int i))(e:atI ts i=some t:=by rfl)(hs:Dn b:=by exact fun _ _=>rfl):ET Z ρ O (.Subscript a b pos) t:=Re Xh hs (YK e) ha hb
theorem DI(ha:ET Z ρ O a (.lst ts))(hb:ET Z ρ O b (.int i))(e:atI ts i=some t:=by rfl)(hs:Dn b:=by exact fun _ _=>rfl):ET Z ρ O (.Subscript a b pos) t:=Re Et hs (Mu e) ha hb
theorem Dd{p:Addr}(hp:O p=some ts)(ha:ET Z ρ O a (.raw (.ref p)))(hb:ET Z ρ O b (.int i))(e:atI ts i=some t:=by rfl)(hs:Dn b:=by exact fun _ _=>rfl):ET Z ρ O (.Subscript a b pos) t:=Re Et hs (YL hp e) ha hb
end
abbrev CB:=List T→AJ→Bf→(Value→AJ→Prop)→Prop
def Ci(K:a8)(s:CB):Sp:=fun vs H Q E=>∃ts O Φ Ξ,Reps K O H vs ts∧OwnOk K O H∧s ts O Φ Ξ∧Acc K O H Φ Q∧∀cls O' H',Ξ cls O'→Frm K O H O' H'→E cls none H'
structure FnT(P:Program)(w:World)(K:a8)(mg:Str→Option Value)(base:Heap)(x:Str)(k:Nat)(ps:List Str)(s:CB):Prop where
 ex:∃f fd,FnOk P w K mg base (CXe P w) k f fd ps (Ci K s)∧mg x=some (.ref f)∧lG K (.ref f)=true∧Binds K fd ps []
def GF(φ:List T→T→Prop):CB:=fun ts O Φ _=>∃t,φ ts t∧Φ t O
section
variable{Z:Zx}{ρ:List (Option T)}{O:AJ}{e a b c:Expr}{es:List Expr}{Φ Φ':Bf}{pos p:Pos}{t ta tb:T}{ts:List T}{K:a8}{i j:Int}{x:Str}
theorem Aj{k:Nat}{ps:List Str}{s:CB}(G:FnT Z.X.prog Z.X.w Z.X.K Z.X.mg Z.X.base x k ps s)(hr:Room k Z.X.A)(xf:XFly Z.X Z.W)(h:WA Z ρ O (e::es) fun ts O1=>s ts O1 Φ Z.Xi)(hg:Gl Z.X x:=by rfl)
  (hdb:(x==("__debug__" :Str))=false:=by decide) (he:e8 (e::es) Z.X.env=(false,eval e Z.X.env)::e8 es Z.X.env:=by rfl) (hpl:(lz pos (e8 es Z.X.env)).any (·.1)=false:=by rfl):WE Z ρ O (.Call (.Name x p) (e::es) [] pos) Φ:=by
 obtain⟨f,fd,F,hm,hk,hb⟩:=G.ex
 refine PE.weak (Ky xf F hr hg hm hk hb (IR (ρ:=ρ)) hdb he hpl) fun σ H Q q=>?_
 exact⟨O,_,h,q.1,fun vs H1 ts O1 p f r=> ⟨ts,O1,Φ,Z.Xi,r,f.ok,p,q.2.step f,fun cls O' H' x f'=> ⟨rfl,O',x,(q.1.fr.trans f).trans f'⟩⟩⟩
theorem OM{k:Nat}{ps:List Str}{s:CB}(G:FnT Z.X.prog Z.X.w Z.X.K Z.X.mg Z.X.base x k ps s)(hr:Room k Z.X.A)(xf:XFly Z.X Z.W)(h:EA Z ρ O (e::es) ts)(hs:∀Φ:Bf,Φ t O→s ts O Φ Z.Xi)(hg:Gl Z.X x:=by rfl)
  (hdb:(x==("__debug__" :Str))=false:=by decide) (he:e8 (e::es) Z.X.env=(false,eval e Z.X.env)::e8 es Z.X.env:=by rfl) (hpl:(lz pos (e8 es Z.X.env)).any (·.1)=false:=by rfl):ET Z ρ O (.Call (.Name x p) (e::es) [] pos) t:=
 fun Φ p=>Aj G hr xf (h _ (hs Φ p)) hg hdb he hpl
theorem AS{k:Nat}{ps:List Str}{φ:List T→T→Prop}(G:FnT Z.X.prog Z.X.w Z.X.K Z.X.mg Z.X.base x k ps (GF φ))(hr:Room k Z.X.A)(xf:XFly Z.X Z.W)(h:EA Z ρ O (e::es) ts)(hs:φ ts t)(hg:Gl Z.X x:=by rfl)
  (hdb:(x==("__debug__" :Str))=false:=by decide) (he:e8 (e::es) Z.X.env=(false,eval e Z.X.env)::e8 es Z.X.env:=by rfl) (hpl:(lz pos (e8 es Z.X.env)).any (·.1)=false:=by rfl):ET Z ρ O (.Call (.Name x p) (e::es) [] pos) t:=
 OM G hr xf h (fun Φ p=> ⟨t,hs,p⟩) hg hdb he hpl
def CT(K:a8)(r:List V→Hp→VK→Prop)(ts:List T)(O:AJ)(Φ:Bf):Prop:=∀H vs Q,OwnOk K O H→Reps K O H vs ts→Acc K O H Φ Q→r vs H Q
def CP(K:a8)(r:List V→Hp→VK→Prop)(ts:List T)(O:AJ)(t:T):Prop:=∀Φ:Bf,Φ t O→CT K r ts O Φ
theorem Hf{id:String}{r:List V→Hp→VK→Prop}(hc:BB Z.X (.builtin id) r)(hm:Z.X.mg x=none)(hv:i5 x=some (.builtin id))(h:WA Z ρ O (e::es) fun ts O1=>CT Z.K r ts O1 Φ)(hg:Gl Z.X x:=by rfl)(hn:x≠"__name__":=by decide)(hdb:(x==("__debug__" :Str))=false:=by decide)
  (he:e8 (e::es) Z.X.env=(false,eval e Z.X.env)::e8 es Z.X.env:=by rfl) (hpl:(lz pos (e8 es Z.X.env)).any (·.1)=false:=by rfl):WE Z ρ O (.Call (.Name x p) (e::es) [] pos) Φ:=
 PE.weak (En hc hg hm hv (IR (ρ:=ρ)) hn hdb he hpl) fun σ H Q q=> ⟨O,_,h,q.1,fun vs H1 ts O1 p f r=>p H1 vs Q f.ok r (q.2.step f)⟩
theorem Ds{id:String}{r:List V→Hp→VK→Prop}(hc:BB Z.X (.type id) r)(hm:Z.X.mg x=none)(hv:i5 x=some (.type id))(h:WA Z ρ O (e::es) fun ts O1=>CT Z.K r ts O1 Φ)(hg:Gl Z.X x:=by rfl)(hn:x≠"__name__":=by decide)(hdb:(x==("__debug__" :Str))=false:=by decide)
  (he:e8 (e::es) Z.X.env=(false,eval e Z.X.env)::e8 es Z.X.env:=by rfl) (hpl:(lz pos (e8 es Z.X.env)).any (·.1)=false:=by rfl):WE Z ρ O (.Call (.Name x p) (e::es) [] pos) Φ:=
 PE.weak (Bh hc hg hm hv (IR (ρ:=ρ)) hn hdb he hpl) fun σ H Q q=> ⟨O,_,h,q.1,fun vs H1 ts O1 p f r=>p H1 vs Q f.ok r (q.2.step f)⟩
theorem Ay{id:String}{r:List V→Hp→VK→Prop}(hc:BB Z.X (.builtin id) r)(hm:Z.X.mg x=none)(hv:i5 x=some (.builtin id))(h:EA Z ρ O (e::es) ts)(hp:CP Z.K r ts O t)(hg:Gl Z.X x:=by rfl)(hn:x≠"__name__":=by decide)(hdb:(x==("__debug__" :Str))=false:=by decide)
  (he:e8 (e::es) Z.X.env=(false,eval e Z.X.env)::e8 es Z.X.env:=by rfl) (hpl:(lz pos (e8 es Z.X.env)).any (·.1)=false:=by rfl):ET Z ρ O (.Call (.Name x p) (e::es) [] pos) t:=fun Φ q=>Hf hc hm hv (h _ (hp Φ q)) hg hn hdb he hpl
theorem Fo{id:String}{r:List V→Hp→VK→Prop}(hc:BB Z.X (.type id) r)(hm:Z.X.mg x=none)(hv:i5 x=some (.type id))(h:EA Z ρ O (e::es) ts)(hp:CP Z.K r ts O t)(hg:Gl Z.X x:=by rfl)(hn:x≠"__name__":=by decide)(hdb:(x==("__debug__" :Str))=false:=by decide)
  (he:e8 (e::es) Z.X.env=(false,eval e Z.X.env)::e8 es Z.X.env:=by rfl) (hpl:(lz pos (e8 es Z.X.env)).any (·.1)=false:=by rfl):ET Z ρ O (.Call (.Name x p) (e::es) [] pos) t:=fun Φ q=>Ds hc hm hv (h _ (hp Φ q)) hg hn hdb he hpl
def MT(K:a8)(ty:String)(r:V→List V→Hp→VK→Prop)(t:T)(ts:List T)(O:AJ)(Φ:Bf):Prop:=∀H v vs Q,OwnOk K O H→Rep K O H v t→Reps K O H vs ts→Acc K O H Φ Q→r v vs H Q
def fW(K:a8)(ty:String)(O:AJ)(t:T):Prop:=∀H v,OwnOk K O H→Rep K O H v t→eE K ty v H
theorem Wc{o:Expr}{name:Str}{apos cpos:Pos}{ty id:String}{r:V→List V→Hp→VK→Prop}(pa:PlainAttrs ty)(slot:Slot ty name id)(hty:typeOf (.builtin id)=pure (.type "method_descriptor"))(hm:fR Z.X id r)
  (h:WE Z ρ O o fun t O1=>fW Z.K ty O1 t∧WA Z ρ O1 (e::es) fun ts O2=>MT Z.K ty r t ts O2 Φ)
  (hbase:pE o name Z.X.env (eval o Z.X.env)=eval o Z.X.env:=by rfl)
  (hfew:((lz cpos (e8 (e::es) Z.X.env)).all (fun x=>!x.1)&&(sv cpos (qv [] Z.X.env)).all (fun x=>x.1.isSome)
   &&decide ((e::es).length+([]:List pq).length+(if([]:List pq).isEmpty then 0 else 1)<30))=true:=by rfl)
  (hline:(apos.endLine==cpos.line)=true:=by rfl) (hs:e8 (e::es) Z.X.env=(false,eval e Z.X.env)::e8 es Z.X.env:=by rfl) (hplain:(lz cpos (e8 es Z.X.env)).any (·.1)=false:=by rfl):WE Z ρ O (.Call (.Attribute o name apos) (e::es) [] cpos) Φ:=
 PE.weak (aX pa slot hty hm (BW (ρ:=ρ)) (IR (ρ:=ρ)) hbase hfew hline hs hplain) fun σ H Q q=> ⟨O,_,h,q.1,fun v H1 t O1 ⟨ty,p⟩ f1 r1=> ⟨ty H1 v f1.ok r1,O1,_,p,q.1.step f1,fun vs H2 ts O2 p2 f2 r2=>
  p2 H2 v vs Q f2.ok (r1.kp f2.kp f1.ok) r2 (q.2.step (f1.trans f2))⟩⟩
theorem ON{a:Addr}(ha:O a=some ts):fW K "list" O (.raw (.ref a)):=fun H v ok r=>by
 cases r.raw_inv
 obtain⟨xs,h,_⟩:=ok a ts ha
 exact .inl ⟨rfl,xs,.inl (.inl h)⟩
theorem Mv{a:Addr}{u:T}(ha:O a=some ts)(hl:ts.length<sizeLine)(p:Φ .non (Ad O a (ts++[u]))):MT K "list" Nv (.raw (.ref a)) [u] O Φ:=fun H v vs Q ok r1 r2 q=>by
 cases r1.raw_inv
 obtain⟨w,rfl,r3⟩:=r2.one_inv
 obtain⟨xs,h,r⟩:=ok a ts ha
 exact⟨a,xs,w,rfl,rfl,h,by rw[r.length];exact hl,q _ _ _ _ p (.put ok ha (r.append (.one r3))) .non⟩
theorem Bj{o:Expr}{apos cpos:Pos}(h:WE Z ρ O o fun t O1=>∃a,t=.raw (.ref a)∧(∃ts,O1 a=some ts)∧WE Z ρ O1 e fun u O2=>∃ts,O2 a=some ts∧ts.length<sizeLine∧Φ .non (Ad O2 a (ts++[u])))
  (hbase:pE o "append" Z.X.env (eval o Z.X.env)=eval o Z.X.env:=by rfl)
  (hfew:((lz cpos (e8 [e] Z.X.env)).all (fun x=>!x.1)&&(sv cpos (qv [] Z.X.env)).all (fun x=>x.1.isSome)
   &&decide ([e].length+([]:List pq).length+(if([]:List pq).isEmpty then 0 else 1)<30))=true:=by rfl)
  (hline:(apos.endLine==cpos.line)=true:=by rfl) (hs:e8 [e] Z.X.env=(false,eval e Z.X.env)::e8 [] Z.X.env:=by rfl) (hplain:(lz cpos (e8 [] Z.X.env)).any (·.1)=false:=by rfl):WE Z ρ O (.Call (.Attribute o "append" apos) [e] [] cpos) Φ:=by
 refine Wc PySem.F.plainAttrs_list PySem.F.slot_list_append PySem.F.type_list_append Ii (Dp h ?_) hbase hfew hline hs hplain
 rintro t O1 ⟨a,rfl,⟨ts,hts⟩,w⟩
 refine⟨ON hts,Bn (Dp w ?_) hs⟩
 rintro u O2 ⟨us,h1,h2,p⟩
 exact Ap (Mv h1 h2 p)
end
abbrev Jw:=List (Option T)→AJ→Prop
structure Es where
 nx:Jw
 rt:Bf
 bk:Jw:=fun _ _=>False
 ct:Jw:=fun _ _=>False
def AccN(Z:Zx)(O:AJ)(H:Hp)(N:Jw)(D:St→Hp→Prop):Prop:=∀ρ' O' σ' H',N ρ' O'→Asr Z ρ' O' σ' H'→Kp O H O' H'→D σ' H'
structure AccS(Z:Zx)(O:AJ)(H:Hp)(Ψ:Es)(D:Ends):Prop where
 nx:AccN Z O H Ψ.nx D.nx
 rt:∀v H' t O',Ψ.rt t O'→Frm Z.K Z.Oe Z.He O' H'→Rep Z.K O' H' v t→D.rt v H'
 bk:AccN Z O H Ψ.bk D.bk
 ct:AccN Z O H Ψ.ct D.ct
def tS(Z:Zx)(ρ:List (Option T))(O:AJ)(Ψ:Es):TS:=fun D σ H=>Asr Z ρ O σ H∧AccS Z O H Ψ D
def WS(Z:Zx)(ρ:List (Option T))(O:AJ)(s:Stmt)(Ψ:Es):Prop:=PS Z.X s (tS Z ρ O Ψ)
def Hg(Z:Zx)(ρ:List (Option T))(O:AJ)(s:List Stmt)(Ψ:Es):Prop:=PSs Z.X s (tS Z ρ O Ψ)
def gF(Z:Zx)(ss:List Stmt):TS:=fun D σ H=>∃ρ O Ψ,Hg Z ρ O ss Ψ∧tS Z ρ O Ψ D σ H
theorem LR{Z:Zx}{ss:List Stmt}:PSs Z.X ss (gF Z ss):=fun pins s σ H D I ⟨_,_,_,w,q⟩=>w pins s σ H D I q
section
variable{Z:Zx}{ρ:List (Option T)}{O O1:AJ}{e a b c:Expr}{es:List Expr}{Ψ:Es}{pos p:Pos}{t ta tb:T}{ts:List T}{i j:Nat}{x:Str}{s:Stmt}{ss:List Stmt}{H H1:Hp}{D:Ends}
theorem AccN.step{N:Jw}{D:St→Hp→Prop}(h:AccN Z O H N D)(k:Kp O H O1 H1):AccN Z O1 H1 N D:=fun ρ' O' σ' H' n a k'=>h ρ' O' σ' H' n a (k.trans k')
theorem AccS.step(h:AccS Z O H Ψ D)(k:Kp O H O1 H1):AccS Z O1 H1 Ψ D:=⟨h.nx.step k,h.rt,h.bk.step k,h.ct.step k⟩
theorem Ab(h:Ψ.nx ρ O):Hg Z ρ O [] Ψ:=PSs.weak Ng fun D σ H q=>q.2.nx ρ O σ H h q.1 .refl
theorem AD(h:WS Z ρ O s {Ψ with nx:=fun ρ' O'=>Hg Z ρ' O' ss Ψ}):Hg Z ρ O (s::ss) Ψ:=
 PSs.weak (Km h LR) fun D σ H q=> ⟨q.1,fun ρ' O' σ' H' w a k=> ⟨ρ',O',Ψ,w,a,q.2.step k⟩,q.2.rt,q.2.bk,q.2.ct⟩
theorem AG(h:WS Z ρ O s Ψ):Hg Z ρ O [s] Ψ:=PSs.weak (JW h) fun _ _ _ q=>q
theorem OO{Ψ':Es}(h:WS Z ρ O s Ψ)(n:∀ρ' O',Ψ.nx ρ' O'→Ψ'.nx ρ' O')(r:∀t O',Ψ.rt t O'→Ψ'.rt t O')(bk:∀ρ' O',Ψ.bk ρ' O'→Ψ'.bk ρ' O')(ct:∀ρ' O',Ψ.ct ρ' O'→Ψ'.ct ρ' O'):WS Z ρ O s Ψ':=
 PS.weak h fun D σ H q=> ⟨q.1,fun ρ' O' σ' H' w=>q.2.nx ρ' O' σ' H' (n ρ' O' w),fun v H' t O' w=>q.2.rt v H' t O' (r t O' w),fun ρ' O' σ' H' w=>q.2.bk ρ' O' σ' H' (bk ρ' O' w),fun ρ' O' σ' H' w=>q.2.ct ρ' O' σ' H' (ct ρ' O' w)⟩
theorem Cq{p:Addr}{n:Nat}(hp:O p=some ts)(he:Z.Oe p=none)(hn:ρ[n]?=some (some (.raw (.ref p))))(h:Hg Z (ρ.set n (some (.lst ts))) (CQ O p) ss Ψ):Hg Z ρ O ss Ψ:=PSs.weak h fun D σ H q=>by
 refine⟨⟨?_,⟨q.1.fr.kp.trans Bm,fun b us e=>?_,q.1.ok.drop⟩⟩,q.2.step Bm⟩
 ·have r1:=q.1.rl.kp (Bm (a:=p)) q.1.ok
  obtain⟨v,e1,e2⟩:=q.1.rl.2 n _ hn
  cases e2.raw_inv
  have r2:=r1.set (i:=n) (q.1.ok.rep hp)
  have:σ.set n (some (.ref p))=σ:=by
   apply jy
   intro m
   by_cases hm:m=n
   ·subst hm
    have hl:m<σ.length:=(ie.mp e1).1
    rw[jb hl,e1]
   ·rw[i6 (Ne.symm hm)]
  rw[this] at r2
  exact r2
 ·obtain⟨us',e'⟩:=q.1.fr.own b us e
  have:b≠p:=fun z=>by rw[z,he] at e;cases e
  exact⟨us',by rw[Da this];exact e'⟩
theorem AN(h:WE Z ρ O e Ψ.rt):WS Z ρ O (.Return (some e) pos) Ψ:=PS.weak (JX h) fun D σ H q=> ⟨q.1,fun v H' t O' p f r=>q.2.rt v H' t O' p (q.1.fr.trans f) r⟩
theorem BY(h:WE Z ρ O e fun _ O'=>Ψ.nx ρ O')(hs:nO e none pos.line Z.X.env=pure false:=by rfl):WS Z ρ O (.Expr e pos) Ψ:=
 PS.weak (UI h hs) fun D σ H q=> ⟨q.1,fun v H' t O' p f r=>q.2.nx ρ O' σ H' p (q.1.step f) f.kp⟩
theorem AW(i:Nat)(h:WE Z ρ O e fun t O'=>Ψ.nx (ρ.set i (some t)) O')(hN:Z.X.N.Nodup){pos':Pos}(hi:Z.X.N[i]?=some x:=by rfl)(hx:QP Z.X.env.scope x:=by first|exact pH rfl|exact oO rfl)(hs:nO e (some (.Name x pos')) pos.line Z.X.env=pure false:=by rfl)
  (hf:Z.X.fn x=true∨Z.X.env.scope.names.lookup x=some .local:=by first|exact .inl rfl|exact .inr rfl):WS Z ρ O (.Assign [.Name x pos'] e pos) Ψ:=
 PS.weak (XM hN hi hx h hs hf) fun D σ H q=> ⟨q.1,fun v H' t O' p f r=>q.2.nx _ O' _ H' p ⟨(q.1.step f).rl.set r,(q.1.step f).fr⟩ f.kp⟩
theorem YM{op:qz}{ti:aA}(i:Nat){pos':Pos}(ho:dc Z.X op ti)(hρ:ρ[i]?=some (some ta))(h:WE Z ρ O e fun tb O1=>RT Z.K ti ta tb O1 fun t O2=>Ψ.nx (ρ.set i (some t)) O2)(hN:Z.X.N.Nodup)(hi:Z.X.N[i]?=some x:=by rfl)(hx:QP Z.X.env.scope x:=by first|exact pH rfl|exact oO rfl)
  (hf:Z.X.fn x=true∨Z.X.env.scope.names.lookup x=some .local:=by first|exact .inl rfl|exact .inr rfl):WS Z ρ O (.AugAssign (.Name x pos') op e pos) Ψ:=
 PS.weak (XO hN hi hx h ho hf) fun D σ H q=>by
  obtain⟨v,e1,r1⟩:=q.1.rl.2 i _ hρ
  exact⟨v,e1,q.1,fun w H1 tb O1 p f r=>p H1 v w _ f.ok (r1.kp f.kp q.1.ok) r fun z H2 t O2 p2 f2 r2=>q.2.nx _ O2 _ H2 p2 ⟨(q.1.step (f.trans f2)).rl.set r2,(q.1.step (f.trans f2)).fr⟩ (f.trans f2).kp⟩
theorem Rq{ea eb:List Stmt}(h:WT Z ρ O c fun k O1=>if k=true then Hg Z ρ O1 ea Ψ else Hg Z ρ O1 eb Ψ):WS Z ρ O (.If c ea eb pos) Ψ:=
 PS.weak (WL h LR LR) fun D σ H q=> ⟨q.1,fun k H1 O1 p f=>by
  cases k with
  |true=>rw[if_pos rfl] at p ⊢;exact⟨ρ,O1,Ψ,p,q.1.step f,q.2.step f.kp⟩
  |false=>rw[if_neg gx] at p ⊢;exact⟨ρ,O1,Ψ,p,q.1.step f,q.2.step f.kp⟩⟩
theorem Ae{ea eb:List Stmt}{k:Bool}(hc:EB Z ρ O c k)(h1:k=true→Hg Z ρ O ea Ψ)(h2:k=false→Hg Z ρ O eb Ψ):WS Z ρ O (.If c ea eb pos) Ψ:=Rq (hc _ (by
 cases k with
 |true=>rw[if_pos rfl];exact h1 rfl
 |false=>rw[if_neg gx];exact h2 rfl))
def tG(Z:Zx)(n:Nat)(ρ:List (Option T))(O:AJ)(t:T)(ρ':List (Option T)):TG:=fun v σ H Q=>Asr Z ρ O σ H∧Rep Z.K O H v t∧∀σ',Asr Z ρ' O σ' H→(σ'.length=σ.length∧∀j,n≤j→σ'[j]?=σ[j]?)→Q σ' H
def WG(Z:Zx)(n:Nat)(ρ:List (Option T))(O:AJ)(tg:Expr)(t:T)(ρ':List (Option T)):Prop:=PG Z.X tg (tG Z n ρ O t ρ')
theorem PG.weak{X:Cx}{e:Expr}{t t':TG}(h:PG X e t)(w:∀v σ H Q,t' v σ H Q→t v σ H Q):PG X e t':=fun pins s σ H v u Q I r q=>h pins s σ H v u Q I r (w v σ H Q q)
def gG(Z:Zx)(n:Nat)(tg:Expr):TG:=fun v σ H Q=>∃ρ O t ρ',WG Z n ρ O tg t ρ'∧tG Z n ρ O t ρ' v σ H Q
theorem bD{n:Nat}{tg:Expr}:PG Z.X tg (gG Z n tg):=fun pins s σ H v u Q I r ⟨_,_,_,_,w,q⟩=>w pins s σ H v u Q I r q
theorem AL(i:Nat){n:Nat}(hN:Z.X.N.Nodup)(hn:i<n)(hi:Z.X.N[i]?=some x:=by rfl)(hx:QP Z.X.env.scope x:=by first|exact pH rfl|exact oO rfl)
  (hf:Z.X.fn x=true∨Z.X.env.scope.names.lookup x=some .local:=by first|exact .inl rfl|exact .inr rfl):WG Z n ρ O (.Name x pos) t (ρ.set i (some t)):=
 PG.weak (JY hN hi hx hf) fun v σ H Q q=>q.2.2 _ ⟨q.1.rl.set q.2.1,q.1.fr⟩ ⟨by simp,fun j hj=>by rw[i6 (by omega)]⟩
theorem BZ(i j:Nat){n:Nat}{y:Str}{p1 p2:Pos}{k:Nat}(hc:Z.X.calm=true)(hN:Z.X.N.Nodup)(hni:i<n)(hnj:j<n)(hi:Z.X.N[i]?=some x:=by rfl)(hj:Z.X.N[j]?=some y:=by rfl)(hx:QP Z.X.env.scope x:=by first|exact pH rfl|exact oO rfl)(hy:QP Z.X.env.scope y:=by first|exact pH rfl|exact oO rfl)
  (hf:Z.X.fn x=true∨Z.X.env.scope.names.lookup x=some .local:=by first|exact .inl rfl|exact .inr rfl) (hf2:Z.X.fn y=true∨Z.X.env.scope.names.lookup y=some .local:=by first|exact .inl rfl|exact .inr rfl)
  (hs:(kY [.Name x p1,.Name y p2] Z.X.env).map (·.2)=assign (.Name x p1) Z.X.env::(kY [.Name y p2] Z.X.env).map (·.2):=by rfl) (hs2:(kY [.Name y p2] Z.X.env).map (·.2)=assign (.Name y p2) Z.X.env::(kY [] Z.X.env).map (·.2):=by rfl)
  (hl:(kY [.Name x p1,.Name y p2] Z.X.env).length=2:=by rfl) (hst:(kY [.Name x p1,.Name y p2] Z.X.env).findIdx? (·.1)=none:=by rfl):
  WG Z n ρ O (.Tuple [.Name x p1,.Name y p2] k pos) (.tup [ta,tb]) ((ρ.set i (some ta)).set j (some tb)):=
 PG.weak (XI hc (Kn (JY hN hi hx hf) (Kn (JY hN hj hy hf2) UJ hs2) hs) hl hst) fun v σ H Q q=>by
  obtain⟨q1,q2,q3⟩:=q
  obtain⟨a,xs,rfl,h1,r⟩:=q2.tup_inv
  obtain⟨v,w,rfl,r1,r2⟩:=r.two_inv
  exact⟨a,_,rfl,.inl (.inl h1),rfl,v,_,rfl,w,_,rfl,rfl,q3 _ ⟨(q1.rl.set r1).set r2,q1.fr⟩ ⟨by simp,fun m hm=>by rw[i6 (by omega),i6 (by omega)]⟩⟩
theorem YN{n:Nat}{tg:Expr}(h:WE Z ρ O e fun t O'=>∃ρ',WG Z n ρ O' tg t ρ'∧Ψ.nx ρ' O')(hs:nV [tg] e pos.line Z.X.env=pure false:=by rfl)(hw:nW [tg] e Z.X.env=pure none:=by rfl)
  (h1:(kY [tg] Z.X.env).map (·.2)=[assign tg Z.X.env]:=by rfl):WS Z ρ O (.Assign [tg] e pos) Ψ:=
 PS.weak (QV h (bD (n:=n)) hs hw h1) fun D σ H q=> ⟨q.1,fun v H' t O' ⟨ρ',wg,p⟩ f r=> ⟨ρ,O',t,ρ',wg,q.1.step f,r,fun σ' a _=>q.2.nx _ O' _ H' p a f.kp⟩⟩
theorem Hi{o ix:Expr}{px:Pos}(h:WE Z ρ O e fun t O1=>WE Z ρ O1 o fun u O2=>∃a,u=.raw (.ref a)∧WE Z ρ O2 ix fun w O3=>∃ts k m,w=.int k∧O3 a=some ts∧PU ts.length k=some m∧Ψ.nx ρ (Ad O3 a (ts.set m t)))
  (ha:∀v,assign (.Subscript o ix px) Z.X.env v=(do
   let ov←holding [v] (eval o Z.X.env)
   let iv←holding [v,ov] (eval ix Z.X.env)
   standAt px
   holding [v,ov,iv] (setItem ov iv v)
   release [v,ov,iv] []):=by intro _;rfl)
  (hs:nV [.Subscript o ix px] e pos.line Z.X.env=pure false:=by rfl) (hw:nW [.Subscript o ix px] e Z.X.env=pure none:=by rfl)
  (h1:(kY [.Subscript o ix px] Z.X.env).map (·.2)=[assign (.Subscript o ix px) Z.X.env]:=by rfl):WS Z ρ O (.Assign [.Subscript o ix px] e pos) Ψ:=by
 refine PS.weak (QV h (XJ (BW (ρ:=ρ)) (BW (ρ:=ρ)) Qk ha) hs hw h1) fun D σ H q=> ⟨q.1,fun v H1 t O1 p1 f1 r1=>?_⟩
 refine⟨O1,_,p1,q.1.step f1,?_⟩
 rintro vo H2 _ O2 ⟨a,rfl,p2⟩ f2 r2
 refine⟨O2,_,p2,q.1.step (f1.trans f2),?_⟩
 rintro vi H3 _ O3 ⟨ts,k,m,rfl,ho,hm,p3⟩ f3 r3
 cases r2.raw_inv
 obtain⟨xs,hx,rx⟩:=f3.ok a ts ho
 have r1':=(r1.kp f2.kp f1.ok).kp f3.kp f2.ok
 have f:=f1.trans (f2.trans (f3.trans (Frm.put f3.ok ho (rx.set r1' m))))
 exact⟨a,xs,k,m,rfl,r3.int_inv,hx,by rw[rx.length];exact hm,q.2.nx ρ _ σ _ p3 (q.1.step f) f.kp⟩
def LS(K:a8)(J:It)(O:AJ)(H:Hp)(ts:List T):Prop:=∀O' H',Kp O H O' H'→OwnOk K O' H'→
 (∀i,i<ts.length→J.go i H')∧(∀i x H'',J.yld i H' x H''→∀t,ts[i]?=some t→Frm K O' H' O' H''∧Rep K O' H'' x t)∧∀i,ts.length≤i→J.stop i H'
def WI(Z:Zx)(ρ:List (Option T))(O:AJ)(tg iter:Expr)(Φ:Ms):Prop:=PI Z.X tg iter fun σ H R=>Asr Z ρ O σ H∧∀J H' ts O',Φ ts O'→Frm Z.K O H O' H'→LS Z.K J O' H' ts→R J H'
theorem PI.weak{X:Cx}{tg e:Expr}{t t':TI}(h:PI X tg e t)(w:∀σ H R,t' σ H R→t σ H R):PI X tg e t':=fun pins s σ H R I q=>h pins s σ H R I (w σ H R q)
theorem Pj{K:a8}{a:Addr}{xs:List V}(ok:OwnOk K O H)(h:H a=some (.lst xs))(n:O a=none)(r:Reps K O H xs ts):LS K (dj K a) O H ts:=fun O' H' k ok'=>by
 have h':=(k.lst h n).1
 have r':=r.kp k ok
 refine⟨fun i hi=>?_,fun i x H'' y t e=>?_,fun i hi=> ⟨xs,.inl (.inl h'),by rw[r.length];exact hi⟩⟩
 ·obtain⟨v,e,_⟩:=r'.get (i:=i) (t:=ts[i]) (by simp[hi])
  exact⟨xs,v,.inl (.inl h'),e⟩
 ·obtain⟨rfl,y⟩:=y
  obtain⟨v,e',q⟩:=r'.get e
  have:=y xs (.inl (.inl h'))
  rw[e'] at this;cases this
  exact⟨.refl ok',q⟩
theorem Rr{K:a8}{a:Addr}{xs:List V}(ok:OwnOk K O H)(h:H a=some (.tup xs))(r:Reps K O H xs ts):LS K (dm K a) O H ts:=fun O' H' k ok'=>by
 have h':DT K H' a xs:=.inl (.inl (k.oth ok h fun _ z=>by cases z))
 have r':=r.kp k ok
 refine⟨fun i hi=>?_,fun i x H'' y t e=>?_,fun i hi=> ⟨xs,h',by rw[r.length];exact hi⟩⟩
 ·obtain⟨v,e,_⟩:=r'.get (i:=i) (t:=ts[i]) (by simp[hi])
  exact⟨xs,v,h',e⟩
 ·obtain⟨rfl,y⟩:=y
  obtain⟨v,e',q⟩:=r'.get e
  have:=y xs h'
  rw[e'] at this;cases this
  exact⟨.refl ok',q⟩
def GO(lo:Int)(n:Nat):List T:=(iA n).map fun(i:Nat)=>T.int (lo+i)
theorem BD{lo:Int}{n:Nat}:(GO lo n).length=n:=by simp[GO]
theorem Az{lo:Int}{n i:Nat}(h:(GO lo n)[i]?=some t):i<n∧t=.int (lo+i):=by
 unfold GO at h
 rw[e7] at h
 by_cases hi:i<n
 ·rw[kQ hi] at h
  cases h
  exact⟨hi,rfl⟩
 ·rw[jh (by simpa using hi)] at h
  cases h
theorem LU{K:a8}{lo:Int}{n:Nat}:LS K (aD lo n) O H (GO lo n):=fun O' H' k ok'=>by
 refine⟨fun i hi=>by rwa[BD] at hi,fun i x H'' y t e=>?_,fun i hi=>by rwa[BD] at hi⟩
 obtain⟨rfl,rfl⟩:=y
 obtain⟨_,rfl⟩:=Az e
 exact⟨.refl ok',.int _⟩
theorem OP{tg:Expr}{Φ:Ms}(h:WE Z ρ O e fun t O'=>∃ts,t=.lst ts∧Φ ts O'):WI Z ρ O tg e Φ:=PI.weak (Nh h) fun σ H R q=> ⟨q.1,by
 rintro v H' _ O' ⟨ts,rfl,p⟩ f r
 obtain⟨a,xs,rfl,h1,n,r⟩:=r.lst_inv
 exact⟨a,rfl,⟨xs,.inl (.inl h1)⟩,q.2 _ H' ts O' p f (Pj f.ok h1 n r)⟩⟩
theorem YO{tg:Expr}{Φ:Ms}(h:WE Z ρ O e fun t O'=>∃ts,t=.tup ts∧Φ ts O'):WI Z ρ O tg e Φ:=PI.weak (XS h) fun σ H R q=> ⟨q.1,by
 rintro v H' _ O' ⟨ts,rfl,p⟩ f r
 obtain⟨a,xs,rfl,h1,r⟩:=r.tup_inv
 exact⟨a,rfl,⟨xs,.inl (.inl h1)⟩,q.2 _ H' ts O' p f (Rr f.ok h1 r)⟩⟩
theorem Pk{tg:Expr}{Φ:Ms}(hm:Z.X.mg "range" =none)(h:WA Z ρ O [a] fun ts O'=>∃j:Int,ts=[.int j]∧-(2^62)≤j∧j<2^62∧Φ (GO 0 j.toNat) O')(hg:Gl Z.X "range":=by rfl)(hs:e8 [a] Z.X.env=[(false,eval a Z.X.env)]:=by rfl):WI Z ρ O tg (.Call (.Name "range" p) [a] [] pos) Φ:=
 PI.weak (PH hg hm h hs) fun σ H R q=> ⟨q.1,by
  rintro vs H' _ O' ⟨j,rfl,h1,h2,p⟩ f r
  obtain⟨v,rfl,r'⟩:=r.one_inv
  exact⟨j,by rw[r'.int_inv],h1,h2,q.2 _ H' _ O' p f LU⟩⟩
theorem Pl{tg:Expr}{Φ:Ms}(hm:Z.X.mg "range" =none)(h:WA Z ρ O [a,b] fun ts O'=>∃i j:Int,ts=[.int i,.int j]∧(-(2^62)≤i∧i<2^62∧-(2^62)≤j∧j<2^62)∧Φ (GO i (j-i).toNat) O')(hg:Gl Z.X "range":=by rfl)(hs:e8 [a,b] Z.X.env=[(false,eval a Z.X.env),(false,eval b Z.X.env)]:=by rfl)(hs2:e8 [b] Z.X.env=[(false,eval b Z.X.env)]:=by rfl):WI Z ρ O tg (.Call (.Name "range" p) [a,b] [] pos) Φ:=
 PI.weak (PJ hg hm h hs hs2) fun σ H R q=> ⟨q.1,by
  rintro vs H' _ O' ⟨i,j,rfl,h1,p⟩ f r
  obtain⟨v,w,rfl,r1,r2⟩:=r.two_inv
  exact⟨i,j,by rw[r1.int_inv,r2.int_inv],h1,q.2 _ H' _ O' p f LU⟩⟩
def EI(Z:Zx)(ρ:List (Option T))(O:AJ)(tg iter:Expr)(ts:List T):Prop:=∀Φ:Ms,Φ ts O→WI Z ρ O tg iter Φ
theorem BG{tg:Expr}(h:ET Z ρ O e (.lst ts)):EI Z ρ O tg e ts:=fun Φ p=>OP (h _ ⟨ts,rfl,p⟩)
theorem Bl{tg:Expr}(h:ET Z ρ O e (.tup ts)):EI Z ρ O tg e ts:=fun Φ p=>YO (h _ ⟨ts,rfl,p⟩)
theorem Al{tg:Expr}{k:Int}(hm:Z.X.mg "range" =none)(h:ET Z ρ O a (.int k))(h1: -(2^62)≤k∧k<2^62)(hg:Gl Z.X "range":=by rfl)(hs:e8 [a] Z.X.env=[(false,eval a Z.X.env)]:=by rfl):EI Z ρ O tg (.Call (.Name "range" p) [a] [] pos) (GO 0 k.toNat):=fun Φ q=>Pk hm (AI h AB hs _ ⟨k,rfl,h1.1,h1.2,q⟩) hg hs
theorem Fp{tg:Expr}{k l:Int}(hm:Z.X.mg "range" =none)(h:ET Z ρ O a (.int k))(h2:ET Z ρ O b (.int l))(h1: -(2^62)≤k∧k<2^62∧-(2^62)≤l∧l<2^62)(hg:Gl Z.X "range":=by rfl)(hs:e8 [a,b] Z.X.env=[(false,eval a Z.X.env),(false,eval b Z.X.env)]:=by rfl)(hs2:e8 [b] Z.X.env=[(false,eval b Z.X.env)]:=by rfl):EI Z ρ O tg (.Call (.Name "range" p) [a,b] [] pos) (GO k (l-k).toNat):=
 fun Φ q=>Pl hm (AI h (AI h2 AB hs2) (by rw[hs,hs2]) _ ⟨k,l,rfl,h1,q⟩) hg hs hs2
theorem BI{tg iter:Expr}{body:List Stmt}(hp:oG (model Z.X.prog Z.X.w) Z.X.A Z.X.env Z.X.xe)(hc:Z.X.calm=true)
  (h:WI Z ρ O tg iter fun ts O1=>∃I:Nat→Jw,I 0 ρ O1∧(∀i t ρ' O',ts[i]?=some t→I i ρ' O'→∃ρ2,WG Z Z.X.N.length ρ' O' tg t ρ2∧Hg Z ρ2 O' body {nx:=I (i+1),rt:=Ψ.rt,bk:=Ψ.nx,ct:=I (i+1)})∧∀ρ' O',I ts.length ρ' O'→Ψ.nx ρ' O')
  (hs:∀x,jX iter Z.X.env x=pure x:=by intro _;rfl):WS Z ρ O (.For tg iter body [] pos) Ψ:=by
 refine PS.weak (XT hp hc h (bD (n:=Z.X.N.length)) LR hs) fun D σ H q=> ⟨q.1,?_⟩
 rintro J H1 ts O1 ⟨I,i0,step,fin⟩ f1 it
 refine⟨fun i m σ' H'=>m=ts.length-i∧i≤ts.length∧∃ρ' O',I i ρ' O'∧Asr Z ρ' O' σ' H'∧Kp O1 H1 O' H',⟨ts.length,by simp,jl _,ρ,O1,i0,q.1.step f1,.refl⟩,?_⟩
 rintro i m σ2 H2 ⟨rfl,hi,ρ2,O2,i2,a2,k2⟩
 obtain⟨g1,g2,g3⟩:=it O2 H2 k2 a2.ok
 by_cases hlt:i<ts.length
 ·refine .inr ⟨g1 i hlt,fun σ' H'=>∃ρ' O',I (i+1) ρ' O'∧Asr Z ρ' O' σ' H'∧Kp O1 H1 O' H',fun σ' H' w=> ⟨_,by omega,rfl,by omega,w⟩,fun x H3 y=>?_⟩
  obtain⟨f3,r3⟩:=g2 i x H3 y ts[i] (by simp[hlt])
  obtain⟨ρ3,wg,wb⟩:=step i ts[i] ρ2 O2 (by simp[hlt]) i2
  refine⟨ρ2,O2,_,ρ3,wg,a2.step f3,r3,fun σ3 a3 _=> ⟨ρ3,O2,_,wb,a3,?_⟩⟩
  have kk:=(k2.trans f3.kp)
  exact⟨fun ρ' O' σ' H' w a k=> ⟨ρ',O',w,a,kk.trans k⟩,q.2.rt,fun ρ' O' σ' H' w a k=>q.2.nx ρ' O' σ' H' w a (f1.kp.trans (kk.trans k)),fun ρ' O' σ' H' w a k=> ⟨ρ',O',w,a,kk.trans k⟩⟩
 ·have:i=ts.length:=by omega
  subst this
  exact .inl ⟨g3 _ (hC _),q.2.nx ρ2 O2 σ2 H2 (fin ρ2 O2 i2) a2 (f1.kp.trans k2)⟩
end
def zc(X:Cx)(Oe:AJ)(He:Hp):Zx:=⟨X,Oe,He,fun _ _=>False⟩
def Fq(nc:List Str)(ρ:List (Option T))(cap:List (Str×Nat)):List (Option T):=iQ nc.length none++cap.map fun q=> (ρ[q.2]?).join
def dO(Z:Zx)(ρ:List (Option T))(O:AJ)(ifs:List Expr)(Φ:LP):Prop:=Xq Z.X ifs (Zq Z ρ O Φ)
theorem Am{O:AJ}{p:Addr}{ts:List T}(h:O p=none):CQ (Ad O p ts) p=O:=by
 funext b
 by_cases hb:b=p
 ·rw[hb,DF,h]
 ·rw[Da hb,AV hb]
theorem Bd{O:AJ}{p a:Addr}{ts us:List T}(h:a≠p):Ad (Ad O p ts) a us=Ad (Ad O a us) p ts:=by
 funext b
 unfold Ad
 by_cases h1:b=a
 ·subst h1;rw[if_pos rfl,if_neg h,if_pos rfl]
 ·rw[if_neg h1,if_neg h1]
section
variable{Z:Zx}{ρ:List (Option T)}{O:AJ}{elt tg iter:Expr}{ifs:List Expr}{csc:Scope}{nc:List Str}{cap:List (Str×Nat)}{Φ:Bf}{pos:Pos}
theorem Dt{Φ:LP}(h:Φ true O):dO Z ρ O [] Φ:=fun pins s σ H Q I q=>UW pins s σ H Q I (q.2 true H O h q.1.refl)
theorem Jx{Φ:LP}{c:Expr}(h:WT Z ρ O c Φ):dO Z ρ O [c] Φ:=UX h
theorem Wd{K:a8}{H:Hp}{σ:St}(r:Rl K O H σ ρ):Rl K O H (HD nc σ cap) (Fq nc ρ cap):=by
 refine⟨by simp[Bw,Fq],fun i t e=>?_⟩
 unfold Fq at e
 have hi:nc.length≤i:=by
  by_cases hi:i<nc.length
  ·rw[iY (by simpa using hi),kL] at e
   split at e<;>cases e
  ·omega
 rw[iG (by simpa using hi),e7] at e
 simp only[kB] at e
 cases hc:cap[i-nc.length]? with
 |none=>rw[hc] at e;cases e
 |some q=>
  rw[hc] at e
  have e:(ρ[q.2]?).join=some t:=i8.inj e
  have e':ρ[q.2]?=some (some t):=by
   cases h:ρ[q.2]? with
   |none=>rw[h] at e;cases e
   |some w=>rw[h] at e;exact congrArg some e
  obtain⟨v,h1,h2⟩:=r.2 q.2 t e'
  refine⟨v,?_,h2⟩
  show(iQ nc.length (none:Option V)++Bw σ cap)[i]?=some (some v)
  rw[iG (by simpa using hi)]
  simp only[kB]
  unfold Bw
  rw[e7,hc]
  show some (σ[q.2]?).join=_
  rw[h1]
  rfl
theorem Jy{X X':Cx}{Oe:AJ}{He:Hp}{Xi Xi':Value→AJ→Prop}{σ:St}{H:Hp}(hK:X'.K=X.K)(a:Asr ⟨X,Oe,He,Xi⟩ ρ O σ H):Asr ⟨X',Oe,He,Xi'⟩ ρ O σ H:=by
 obtain⟨r,f⟩:=a
 refine⟨?_,?_⟩
 ·show Rl X'.K O H σ ρ
  rw[hK];exact r
 ·show Frm X'.K Oe He O H
  rw[hK];exact f
def gA(Z:Zx)(csc:Scope)(nc:List Str)(cap:List (Str×Nat))(tg:Expr):TG:=fun v σ H Q=>∃Oe He ρ O t ρ',(∀X',LcCx Z.X csc (Ah nc cap) X'→WG (zc X' Oe He) nc.length ρ O tg t ρ')∧tG (zc Z.X Oe He) nc.length ρ O t ρ' v σ H Q
def eS(Z:Zx)(csc:Scope)(nc:List Str)(cap:List (Str×Nat))(ifs:List Expr):TT:=fun σ H Q=>∃Oe He ρ O Φ,(∀X',LcCx Z.X csc (Ah nc cap) X'→dO (zc X' Oe He) ρ O ifs Φ)∧Zq (zc Z.X Oe He) ρ O Φ σ H Q
def eA(Z:Zx)(csc:Scope)(nc:List Str)(cap:List (Str×Nat))(e:Expr):TE:=fun σ H Q=>∃Oe He ρ O Φ,(∀X',LcCx Z.X csc (Ah nc cap) X'→WE (zc X' Oe He) ρ O e Φ)∧tW (zc Z.X Oe He) ρ O Φ σ H Q
theorem YQ{X X':Cx}{N':List Str}(h:LcCx X csc N' X'):X'.K=X.K:=by
 obtain⟨_,_,_,_,rfl⟩:=h
 rfl
theorem Ur:∀X',LcCx Z.X csc (Ah nc cap) X'→PG X' tg (gA Z csc nc cap tg):=by
 rintro X' is pins s σ H v u Q I r ⟨Oe,He,ρ,O,t,ρ',w,a,rp,k⟩
 refine w X' is pins s σ H v u Q I r ⟨Jy (YQ is) a,?_,fun σ' a' h=>k σ' (Jy (YQ is).symm a') h⟩
 show Rep X'.K O H v t
 rw[YQ is];exact rp
theorem OQ:∀X',LcCx Z.X csc (Ah nc cap) X'→Xq X' ifs (eS Z csc nc cap ifs):=by
 rintro X' is pins s σ H Q I ⟨Oe,He,ρ,O,Φ,w,a,k⟩
 refine w X' is pins s σ H Q I ⟨Jy (YQ is) a,?_⟩
 intro b H' O' p f
 refine k b H' O' p ?_
 have f:Frm X'.K O H O' H':=f
 rw[YQ is] at f;exact f
theorem Us:∀X',LcCx Z.X csc (Ah nc cap) X'→PE X' elt (eA Z csc nc cap elt):=by
 rintro X' is pins s σ H Q I ⟨Oe,He,ρ,O,Φ,w,a,k⟩
 refine w X' is pins s σ H Q I ⟨Jy (YQ is) a,?_⟩
 intro v H' t O' p f r
 have f:Frm X'.K O H O' H':=f
 have r:Rep X'.K O' H' v t:=r
 rw[YQ is] at f r
 exact k v H' t O' p f r
def Ut(Z:Zx)(ρ:List (Option T))(elt tg:Expr)(ifs:List Expr)(csc:Scope)(nc:List Str)(cap:List (Str×Nat))(F:List T→AJ→Prop)(ts:List T)(O1:AJ):Prop:=
 ∃I:Nat→List T→AJ→Prop,I 0 [] O1∧(∀i t acc O' p,ts[i]?=some t→I i acc O'→O' p=none→∃ρ4,∀X' Oe He,LcCx Z.X csc (Ah nc cap) X'→WG (zc X' Oe He) nc.length (Fq nc ρ cap) (Ad O' p acc) tg t ρ4∧
   dO (zc X' Oe He) ρ4 (Ad O' p acc) ifs fun b O2=>if b=true then∀X' Oe He,LcCx Z.X csc (Ah nc cap) X'→WE (zc X' Oe He) ρ4 O2 elt fun y O3=>∃O4,O3=Ad O4 p acc∧O4 p=none∧acc.length<sizeLine∧I (i+1) (acc++[y]) O4
    else∃O4,O2=Ad O4 p acc∧O4 p=none∧I (i+1) acc O4)∧∀acc O',I ts.length acc O'→F acc O'
theorem Rt{F:List T→AJ→Prop}{σ:St}{H:Hp}{Q:VK}(a:Asr Z ρ O σ H)(h:WI Z ρ O tg iter (Ut Z ρ elt tg ifs csc nc cap F))
  (fin:∀acc O' p H',F acc O'→O' p=none→Frm Z.K O H (Ad O' p acc) H'→(∀b us,O b=some us→b≠p)→Q (.ref p) H'):
  dM (fun σ H R=>Asr Z ρ O σ H∧∀J H' ts O',Ut Z ρ elt tg ifs csc nc cap F ts O'→Frm Z.K O H O' H'→LS Z.K J O' H' ts→R J H') nc cap (gA Z csc nc cap tg) (eS Z csc nc cap ifs) (eA Z csc nc cap elt) σ H Q:=by
 refine⟨a,?_⟩
 rintro J H1 ts O1 ⟨I,i0,step,done⟩ f1 it p hp
 have np:O1 p=none:=f1.ok.none_of hp
 have nb:∀b us,O1 b=some us→b≠p:=fun b us e z=>by rw[z,np] at e;cases e
 have fn:=Frm.newO (ts:=[]) (xs:=[]) f1.ok hp .nil
 refine⟨fun i m H2=>m=ts.length-i∧i≤ts.length∧∃acc O',I i acc O'∧O' p=none∧Frm Z.K O1 H1 (Ad O' p acc) H2,⟨ts.length,by simp,jl _,[],O1,i0,np,fn⟩,?_⟩
 rintro i m H2 ⟨rfl,hi,acc,O2,i2,n2,f2⟩
 obtain⟨g1,g2,g3⟩:=it _ H2 f2.kp f2.ok
 by_cases hlt:i<ts.length
 ·refine .inr ⟨g1 i hlt,fun H'=>∃acc O',I (i+1) acc O'∧O' p=none∧Frm Z.K O1 H1 (Ad O' p acc) H',fun H' w=> ⟨_,by omega,rfl,by omega,w⟩,fun x H3 y=>?_⟩
  obtain⟨f3,r3⟩:=g2 i x H3 y ts[i] (by simp[hlt])
  obtain⟨ρ4,st⟩:=step i ts[i] acc O2 p (by simp[hlt]) i2 n2
  have a3:Asr (zc Z.X (Ad O2 p acc) H3) (Fq nc ρ cap) (Ad O2 p acc) (HD nc σ cap) H3:=⟨Wd ((a.rl.kp f1.kp a.ok).kp (f2.kp.trans f3.kp) f1.ok),.refl f3.ok⟩
  refine⟨Ad O2 p acc,H3,Fq nc ρ cap,Ad O2 p acc,ts[i],ρ4,fun X' is=> (st X' _ _ is).1,a3,r3,fun σ4 a4 hag=> ⟨?_,?_⟩⟩
  ·refine⟨σ4.take nc.length,?_,?_⟩
   ·rw[iH,hag.1]
    simp
   ·have e1:σ4.drop nc.length=Bw σ cap:=by
     apply jy
     intro m
     rw[jT,hag.2 _ (by omega)]
     show(iQ nc.length (none:Option V)++Bw σ cap)[nc.length+m]?=_
     rw[iG (by simp)]
     simp
    rw[←e1,jq]
  ·refine⟨Ad O2 p acc,H3,ρ4,Ad O2 p acc,_,fun X' is=> (st X' _ _ is).2,a4,?_⟩
   intro b H5 O5 q5 f5
   cases b with
   |false=>
    rw[if_neg gx] at q5 ⊢
    obtain⟨O4,rfl,n4,i4⟩:=q5
    exact⟨acc,O4,i4,n4,f2.trans (f3.trans f5)⟩
   |true=>
    rw[if_pos rfl] at q5 ⊢
    refine⟨Ad O2 p acc,H3,ρ4,O5,_,fun X' is=>q5 X' _ _ is,a4.step f5,?_⟩
    rintro y H6 t6 O6 ⟨O4,rfl,n4,hlen,i4⟩ f6 r6
    obtain⟨ys,hys,rys⟩:=f6.ok p acc AF
    refine⟨ys,hys,by rw[rys.length];exact hlen,acc++[t6],O4,i4,n4,?_⟩
    have fp:=Frm.put (a:=p) f6.ok AF (rys.append (.one r6))
    rw[Av] at fp
    exact f2.trans (f3.trans (f5.trans (f6.trans fp)))
 ·have:i=ts.length:=by omega
  subst this
  refine .inl ⟨g3 _ (hC _),fin acc O2 p H2 (done acc O2 i2) n2 (f1.trans f2) fun b us e=>?_⟩
  obtain⟨us',e'⟩:=f1.own b us e
  exact nb b us' e'
theorem We{σ:St}{H:Hp}{Q:VK}(h:WI Z ρ O tg iter (Ut Z ρ elt tg ifs csc nc cap fun acc O'=>Φ (.lst acc) O'))(q:tW Z ρ O Φ σ H Q):
  dM (fun σ H R=>Asr Z ρ O σ H∧∀J H' ts O',Ut Z ρ elt tg ifs csc nc cap (fun acc O'=>Φ (.lst acc) O') ts O'→Frm Z.K O H O' H'→LS Z.K J O' H' ts→R J H') nc cap (gA Z csc nc cap tg) (eS Z csc nc cap ifs) (eA Z csc nc cap elt) σ H Q:=by
 refine Rt q.1 h fun acc O' p H' p1 n f nb=>q.2 _ H' _ O' p1 ?_ ?_
 ·have e:=Am (ts:=acc) n
  refine⟨fun b o e1 e2=>?_,fun b us e1=>?_,?_⟩
  ·have:=f.kp.trans (Bm (a:=p)) b o e1 e2
   rw[e] at this;exact this
  ·obtain⟨us',e2⟩:=f.own b us e1
   rw[AV (nb b us e1)] at e2
   exact⟨us',e2⟩
  ·have:=f.ok.drop (a:=p)
   rw[e] at this;exact this
 ·have:=f.ok.rep (a:=p) AF
  rw[Am n] at this
  exact this
theorem JB(hc:Z.X.calm=true)(ok:LcOk Z.X csc nc cap)(h:WI Z ρ O tg iter (Ut Z ρ elt tg ifs csc nc cap fun acc O'=>Φ (.lst acc) O'))
  (hs:∀x,jX iter Z.X.env x=pure x:=by intro _;rfl):WE Z ρ O (.ListComp elt [⟨tg,iter,ifs,0⟩] csc pos) Φ:=
 PE.weak (WU hc ok h Ur OQ Us hs) fun σ H Q q=>We h q
theorem Hj{i:Nat}{x:Str}{px spos:Pos}{Ψ:Es}(hsw:nO (.ListComp elt [⟨tg,iter,ifs,0⟩] csc pos) (some (.Name x px)) spos.line Z.X.env=pure true)(hN:Z.X.N.Nodup)(hc:Z.X.calm=true)(ok:LcOk Z.X csc nc cap)
  (h:WI Z ρ O tg iter (Ut Z ρ elt tg ifs csc nc cap fun acc O'=>Ψ.nx (ρ.set i (some (.lst acc))) O')) (hx:Z.X.N[i]?=some x:=by rfl) (hk:Z.X.env.scope.names.lookup x=some .local:=by rfl)
  (hs:∀x,jX iter Z.X.env x=pure x:=by intro _;rfl):WS Z ρ O (.Assign [.Name x px] (.ListComp elt [⟨tg,iter,ifs,0⟩] csc pos) spos) Ψ:=
 PS.weak (Kv hN hx hk hsw hc ok h Ur OQ Us hs) fun D σ H q=>We (Φ:=fun t O'=>Ψ.nx (ρ.set i (some t)) O') h ⟨q.1,fun v H' t O' p f r=>q.2.nx _ O' _ H' p ⟨(q.1.step f).rl.set r,(q.1.step f).fr⟩ f.kp⟩
end
def eT:T→String
 | .non=> "NoneType" | .bl _=> "bool" | .int _=> "int" | .str _=> "str" | .tup _=> "tuple" | .lst _=> "list" | .frz _=> "list" | .dct=> "dict" | .raw _=> "object"
def Cr:T→Bool
 | .raw _=>true
 |_=>false
def bE:T→Bool
 | .int _=>true
 | .bl _=>true
 |_=>false
def YR:T→Bool
 | .bl _=>true
 |_=>false
def bF:T→Bool
 | .tup _=>true
 |_=>false
def Pm(K:a8)(c:String)(g:T→Bool):Prop:=∀t,Cr t=false→iP K (.type (eT t)) (.type c)=some (g t)
section
variable{K:a8}{O:AJ}{H:Hp}{v:V}{t:T}
theorem Rep.ty(r:Rep K O H v t)(hp:Cr t=false):TyOf K H v (.type (eT t)):=by
 cases r with
 |non=>exact .non
 |bl b=>exact .bl b
 |int i=>exact .int i
 |str i=>exact .str i
 |tup h=>exact .tup h
 |lst h=>exact .lst h
 |frz h=>exact .frz h
 |dct h=>exact .dK h
 |raw v=>cases hp
theorem gH(K:a8):iP K (.type "NoneType") (.type "int")=some false:=by kernel_rfl
theorem gI(K:a8):iP K (.type "bool") (.type "int")=some true:=by kernel_rfl
theorem gJ(K:a8):iP K (.type "int") (.type "int")=some true:=by rfl
theorem gK(K:a8):iP K (.type "str") (.type "int")=some false:=by kernel_rfl
theorem gL(K:a8):iP K (.type "tuple") (.type "int")=some false:=by kernel_rfl
theorem fX(K:a8):iP K (.type "list") (.type "int")=some false:=by kernel_rfl
theorem gM(K:a8):iP K (.type "dict") (.type "int")=some false:=by kernel_rfl
theorem Uu:Pm K "int" bE:=fun t h=>by
 cases t with
 |non=>exact gH K
 |bl b=>exact gI K
 |int i=>exact gJ K
 |str i=>exact gK K
 |tup i=>exact gL K
 |lst i=>exact fX K
 |frz i=>exact fX K
 |dct=>exact gM K
 |raw v=>cases h
theorem gN(K:a8):iP K (.type "NoneType") (.type "bool")=some false:=by kernel_rfl
theorem gO(K:a8):iP K (.type "bool") (.type "bool")=some true:=by rfl
theorem gP(K:a8):iP K (.type "int") (.type "bool")=some false:=by kernel_rfl
theorem gQ(K:a8):iP K (.type "str") (.type "bool")=some false:=by kernel_rfl
theorem gR(K:a8):iP K (.type "tuple") (.type "bool")=some false:=by kernel_rfl
theorem fY(K:a8):iP K (.type "list") (.type "bool")=some false:=by kernel_rfl
theorem gS(K:a8):iP K (.type "dict") (.type "bool")=some false:=by kernel_rfl
theorem Ru:Pm K "bool" YR:=fun t h=>by
 cases t with
 |non=>exact gN K
 |bl b=>exact gO K
 |int i=>exact gP K
 |str i=>exact gQ K
 |tup i=>exact gR K
 |lst i=>exact fY K
 |frz i=>exact fY K
 |dct=>exact gS K
 |raw v=>cases h
theorem gT(K:a8):iP K (.type "NoneType") (.type "tuple")=some false:=by kernel_rfl
theorem gU(K:a8):iP K (.type "bool") (.type "tuple")=some false:=by kernel_rfl
theorem gW(K:a8):iP K (.type "int") (.type "tuple")=some false:=by kernel_rfl
theorem gX(K:a8):iP K (.type "str") (.type "tuple")=some false:=by kernel_rfl
theorem gY(K:a8):iP K (.type "tuple") (.type "tuple")=some true:=by rfl
theorem fZ(K:a8):iP K (.type "list") (.type "tuple")=some false:=by kernel_rfl
theorem gZ(K:a8):iP K (.type "dict") (.type "tuple")=some false:=by kernel_rfl
theorem FD:Pm K "tuple" bF:=fun t h=>by
 cases t with
 |non=>exact gT K
 |bl b=>exact gU K
 |int i=>exact gW K
 |str i=>exact gX K
 |tup i=>exact gY K
 |lst i=>exact fZ K
 |frz i=>exact fZ K
 |dct=>exact gZ K
 |raw v=>cases h
theorem YS{c:String}{g:T→Bool}(hk:Pm K c g)(hp:Cr t=false):CP K (ah K) [t,.raw (.ty c)] O (.bl (g t)):=fun Φ p H vs Q ok r q=>by
 obtain⟨v,w,rfl,r1,r2⟩:=r.two_inv
 cases r2.raw_inv
 exact⟨v,.ty c,.type (eT t),.type c,g t,rfl,rfl,.inl (r1.ty hp),hk t hp,q _ H _ O p (.refl ok) (.bl _)⟩
theorem bG:i5 "int" =some (.type "int"):=by decide+kernel
theorem bH:i5 "bool" =some (.type "bool"):=by decide+kernel
theorem Ee:i5 "tuple" =some (.type "tuple"):=by decide+kernel
theorem LV:i5 "list" =some (.type "list"):=by decide+kernel
theorem bI:i5 "set" =some (.type "set"):=by decide+kernel
theorem Rv:i5 "range" =some (.type "range"):=by decide+kernel
theorem eU:i5 "isinstance" =some (.builtin "isinstance"):=by decide+kernel
theorem YT:i5 "max" =some (.builtin "max"):=by decide+kernel
theorem Uv:i5 "min" =some (.builtin "min"):=by decide+kernel
theorem Rx:i5 "len" =some (.builtin "len"):=by decide+kernel
theorem eV:i5 "all" =some (.builtin "all"):=by decide+kernel
theorem eW:i5 "any" =some (.builtin "any"):=by decide+kernel
theorem Jz:i5 "sorted" =some (.builtin "sorted"):=by decide+kernel
theorem Reps.bls:∀{vs:List V} {ns:List Bool},Reps K O H vs (ns.map T.bl)→vs=ns.map V.bl
 |_,[],r=>r.nil_inv
 |_,n::ns,r=>by
  obtain⟨v,vs',rfl,h,r⟩:=Reps.cons_inv r
  rw[h.bl_inv,Reps.bls r]
  rfl
end
section
variable{Z:Zx}{ρ:List (Option T)}{O:AJ}{e a b c:Expr}{es:List Expr}{Φ:Bf}{pos p:Pos}{t ta tb:T}{ts us:List T}{i j:Int}{x:Str}{lo hi:Expr}
theorem YU{cn:String}{g:T→Bool}(mI:Z.X.mg "isinstance" =none)(mC:Z.X.mg x=none)(bC:i5 x=some (.type cn))(hk:Pm Z.K cn g)(h:ET Z ρ O e t)(hp:Cr t=false){p1:Pos}(hgi:Gl Z.X "isinstance":=by rfl)(hgc:Gl Z.X x:=by rfl)
  (hn:x≠"__name__":=by decide) (hd:(x==("__debug__" :Str))=false:=by decide)
  (he:e8 [e,.Name x p1] Z.X.env=(false,eval e Z.X.env)::e8 [.Name x p1] Z.X.env:=by rfl):ET Z ρ O (.Call (.Name "isinstance" p) [e,.Name x p1] [] pos) (.bl (g t)):=
 Ay Qu mI eU (AI h (AI (aw mC bC hgc hn hd) AB) he) (YS hk hp) hgi (by decide) (by decide) he
theorem Ef{cn:String}{g:T→Bool}(mI:Z.X.mg "isinstance" =none)(mC:Z.X.mg x=none)(bC:i5 x=some (.type cn))(hk:Pm Z.K cn g)(h:ET Z ρ O e t)(hp:Cr t=false){p1:Pos}(hgi:Gl Z.X "isinstance":=by rfl)(hgc:Gl Z.X x:=by rfl)
  (hn:x≠"__name__":=by decide) (hd:(x==("__debug__" :Str))=false:=by decide)
  (he:e8 [e,.Name x p1] Z.X.env=(false,eval e Z.X.env)::e8 [.Name x p1] Z.X.env:=by rfl):EB Z ρ O (.Call (.Name "isinstance" p) [e,.Name x p1] [] pos) (g t):=
 CS (YU mI mC bC hk h hp hgi hgc hn hd he)
theorem Du(m:Z.X.mg "len" =none)(h:ET Z ρ O e (.tup ts))(hg:Gl Z.X "len":=by rfl)(he:e8 [e] Z.X.env=(false,eval e Z.X.env)::e8 [] Z.X.env:=by rfl):ET Z ρ O (.Call (.Name "len" p) [e] [] pos) (.int ts.length):=
 Ay By m Rx (AI h AB he) (fun Φ q H vs Q ok r k=>by
  obtain⟨v,rfl,r1⟩:=r.one_inv
  obtain⟨a,xs,rfl,h1,r1⟩:=r1.tup_inv
  refine⟨a,xs,rfl,.inr (.inl (.inl h1)),?_⟩
  rw[r1.length]
  exact k _ H _ O q (.refl ok) (.int _)) hg (by decide) (by decide) he
theorem GZ(m:Z.X.mg "len" =none)(h:ET Z ρ O e (.lst ts))(hg:Gl Z.X "len":=by rfl)(he:e8 [e] Z.X.env=(false,eval e Z.X.env)::e8 [] Z.X.env:=by rfl):ET Z ρ O (.Call (.Name "len" p) [e] [] pos) (.int ts.length):=
 Ay By m Rx (AI h AB he) (fun Φ q H vs Q ok r k=>by
  obtain⟨v,rfl,r1⟩:=r.one_inv
  obtain⟨a,xs,rfl,h1,_,r1⟩:=r1.lst_inv
  refine⟨a,xs,rfl,.inl (.inl (.inl h1)),?_⟩
  rw[r1.length]
  exact k _ H _ O q (.refl ok) (.int _)) hg (by decide) (by decide) he
theorem OR{l:Addr}(m:Z.X.mg "len" =none)(h:ET Z ρ O e (.raw (.ref l)))(ho:O l=some ts)(hg:Gl Z.X "len":=by rfl)(he:e8 [e] Z.X.env=(false,eval e Z.X.env)::e8 [] Z.X.env:=by rfl):ET Z ρ O (.Call (.Name "len" p) [e] [] pos) (.int ts.length):=
 Ay By m Rx (AI h AB he) (fun Φ q H vs Q ok r k=>by
  obtain⟨v,rfl,r1⟩:=r.one_inv
  cases r1.raw_inv
  obtain⟨xs,h1,r1⟩:=ok l ts ho
  refine⟨l,xs,rfl,.inl (.inl (.inl h1)),?_⟩
  rw[r1.length]
  exact k _ H _ O q (.refl ok) (.int _)) hg (by decide) (by decide) he
theorem De{bs:List Bool}(m:Z.X.mg "all" =none)(hc:Z.X.calm=true)(h:ET Z ρ O e (.lst (bs.map T.bl)))(hg:Gl Z.X "all":=by rfl)(he:e8 [e] Z.X.env=(false,eval e Z.X.env)::e8 [] Z.X.env:=by rfl):ET Z ρ O (.Call (.Name "all" p) [e] [] pos) (.bl (bs.all id)):=
 Ay (RV hc) m eV (AI h AB he) (fun Φ q H vs Q ok r k=>by
  obtain⟨v,rfl,r1⟩:=r.one_inv
  obtain⟨a,xs,rfl,h1,_,r1⟩:=r1.lst_inv
  cases r1.bls
  exact⟨a,bs,rfl,.inl (.inl (.inl h1)),k _ H _ O q (.refl ok) (.bl _)⟩) hg (by decide) (by decide) he
theorem YV{bs:List Bool}(m:Z.X.mg "any" =none)(hc:Z.X.calm=true)(h:ET Z ρ O e (.lst (bs.map T.bl)))(hg:Gl Z.X "any":=by rfl)(he:e8 [e] Z.X.env=(false,eval e Z.X.env)::e8 [] Z.X.env:=by rfl):ET Z ρ O (.Call (.Name "any" p) [e] [] pos) (.bl (bs.any id)):=
 Ay (RW hc) m eW (AI h AB he) (fun Φ q H vs Q ok r k=>by
  obtain⟨v,rfl,r1⟩:=r.one_inv
  obtain⟨a,xs,rfl,h1,_,r1⟩:=r1.lst_inv
  cases r1.bls
  exact⟨a,bs,rfl,.inl (.inl (.inl h1)),k _ H _ O q (.refl ok) (.bl _)⟩) hg (by decide) (by decide) he
theorem FE(m:Z.X.mg "min" =none)(hc:Z.X.calm=true)(h:ET Z ρ O a (.int i))(h2:ET Z ρ O b (.int j))(hg:Gl Z.X "min":=by rfl)(he:e8 [a,b] Z.X.env=(false,eval a Z.X.env)::e8 [b] Z.X.env:=by rfl)(he2:e8 [b] Z.X.env=(false,eval b Z.X.env)::e8 [] Z.X.env:=by rfl)(hpl:(lz pos (e8 [b] Z.X.env)).any (·.1)=false:=by rfl):ET Z ρ O (.Call (.Name "min" p) [a,b] [] pos) (.int (min i j)):=
 Ay (PM hc) m Uv (AI h (AI h2 AB he2) he) (fun Φ q H vs Q ok r k=>by
  obtain⟨v,w,rfl,r1,r2⟩:=r.two_inv
  cases r1.int_inv;cases r2.int_inv
  refine⟨i,j,rfl,?_⟩
  have:(if j<i then j else i)=min i j:=by split<;>omega
  rw[this]
  exact k _ H _ O q (.refl ok) (.int _)) hg (by decide) (by decide) he hpl
theorem Ga(m:Z.X.mg "max" =none)(hc:Z.X.calm=true)(h:ET Z ρ O a (.int i))(h2:ET Z ρ O b (.int j))(hg:Gl Z.X "max":=by rfl)(he:e8 [a,b] Z.X.env=(false,eval a Z.X.env)::e8 [b] Z.X.env:=by rfl)(he2:e8 [b] Z.X.env=(false,eval b Z.X.env)::e8 [] Z.X.env:=by rfl)(hpl:(lz pos (e8 [b] Z.X.env)).any (·.1)=false:=by rfl):ET Z ρ O (.Call (.Name "max" p) [a,b] [] pos) (.int (max i j)):=
 Ay (PL hc) m YT (AI h (AI h2 AB he2) he) (fun Φ q H vs Q ok r k=>by
  obtain⟨v,w,rfl,r1,r2⟩:=r.two_inv
  cases r1.int_inv;cases r2.int_inv
  refine⟨i,j,rfl,?_⟩
  have:(if j>i then j else i)=max i j:=by split<;>omega
  rw[this]
  exact k _ H _ O q (.refl ok) (.int _)) hg (by decide) (by decide) he hpl
theorem Uw(m:Z.X.mg "min" =none)(hc:Z.X.calm=true)(h:ET Z ρ O e (.tup [.int i,.int j]))(hg:Gl Z.X "min":=by rfl)(he:e8 [e] Z.X.env=(false,eval e Z.X.env)::e8 [] Z.X.env:=by rfl):ET Z ρ O (.Call (.Name "min" p) [e] [] pos) (.int (min i j)):=
 Ay (Iy hc) m Uv (AI h AB he) (fun Φ q H vs Q ok r k=>by
  obtain⟨v,rfl,r1⟩:=r.one_inv
  obtain⟨a,xs,rfl,h1,r1⟩:=r1.tup_inv
  cases Reps.ints (ns:=[i,j]) r1
  refine⟨a,[i,j],rfl,.inr (.inl (.inl h1)),oB _,fun n ⟨h1,h2⟩=>?_⟩
  have e1:=h2 i (by simp)
  have e2:=h2 j (by simp)
  have:n=min i j:=by
   rcases ic.mp h1 with rfl|h1
   ·omega
   ·have:=e9.mp h1
    omega
  rw[this]
  exact k _ H _ O q (.refl ok) (.int _)) hg (by decide) (by decide) he
theorem Ux(m:Z.X.mg "max" =none)(hc:Z.X.calm=true)(h:ET Z ρ O e (.tup [.int i,.int j]))(hg:Gl Z.X "max":=by rfl)(he:e8 [e] Z.X.env=(false,eval e Z.X.env)::e8 [] Z.X.env:=by rfl):ET Z ρ O (.Call (.Name "max" p) [e] [] pos) (.int (max i j)):=
 Ay (Iz hc) m YT (AI h AB he) (fun Φ q H vs Q ok r k=>by
  obtain⟨v,rfl,r1⟩:=r.one_inv
  obtain⟨a,xs,rfl,h1,r1⟩:=r1.tup_inv
  cases Reps.ints (ns:=[i,j]) r1
  refine⟨a,[i,j],rfl,.inr (.inl (.inl h1)),oB _,fun n ⟨h1,h2⟩=>?_⟩
  have e1:=h2 i (by simp)
  have e2:=h2 j (by simp)
  have:n=max i j:=by
   rcases ic.mp h1 with rfl|h1
   ·omega
   ·have:=e9.mp h1
    omega
  rw[this]
  exact k _ H _ O q (.refl ok) (.int _)) hg (by decide) (by decide) he
theorem Uy{k:Bool}(m:Z.X.mg "int" =none)(h:ET Z ρ O e (.bl k))(hg:Gl Z.X "int":=by rfl)(he:e8 [e] Z.X.env=(false,eval e Z.X.env)::e8 [] Z.X.env:=by rfl):ET Z ρ O (.Call (.Name "int" p) [e] [] pos) (.int (if k then 1 else 0)):=
 Fo PN m bG (AI h AB he) (fun Φ q H vs Q ok r k=>by
  obtain⟨v,rfl,r1⟩:=r.one_inv
  cases r1.bl_inv
  exact .inr ⟨_,rfl,k _ H _ O q (.refl ok) (.int _)⟩) hg (by decide) (by decide) he
theorem CJ(m:Z.X.mg "tuple" =none)(h:WE Z ρ O e fun t O'=>∃ts,t=.lst ts∧Φ (.tup ts) O')(hg:Gl Z.X "tuple":=by rfl)(he:e8 [e] Z.X.env=(false,eval e Z.X.env)::e8 [] Z.X.env:=by rfl):WE Z ρ O (.Call (.Name "tuple" p) [e] [] pos) Φ:=
 Ds GB m Ee (Bn (Dp h (by
  rintro t O' ⟨ts,rfl,q⟩
  refine Ap fun H vs Q ok r k=>?_
  obtain⟨v,rfl,r1⟩:=r.one_inv
  obtain⟨a,xs,rfl,h1,_,r1⟩:=r1.lst_inv
  exact⟨a,xs,rfl,.inl (.inl h1),fun p hp=>k _ _ _ O' q (.new ok hp) (.tup AQ (r1.kp (BN ok hp) ok))⟩)) he) hg (by decide) (by decide) he
theorem Df(m:Z.X.mg "tuple" =none)(h:ET Z ρ O e (.lst ts))(hg:Gl Z.X "tuple":=by rfl)(he:e8 [e] Z.X.env=(false,eval e Z.X.env)::e8 [] Z.X.env:=by rfl):ET Z ρ O (.Call (.Name "tuple" p) [e] [] pos) (.tup ts):=fun Φ q=>CJ m (h _ ⟨ts,rfl,q⟩) hg he
theorem LW(m:Z.X.mg "list" =none)(h:ET Z ρ O e (.tup ts))(hg:Gl Z.X "list":=by rfl)(he:e8 [e] Z.X.env=(false,eval e Z.X.env)::e8 [] Z.X.env:=by rfl):ET Z ρ O (.Call (.Name "list" p) [e] [] pos) (.lst ts):=
 Fo Ec m LV (AI h AB he) (fun Φ q H vs Q ok r k=>by
  obtain⟨v,rfl,r1⟩:=r.one_inv
  obtain⟨a,xs,rfl,h1,r1⟩:=r1.tup_inv
  exact⟨a,xs,rfl,.inr (.inl (.inl h1)),fun p hp=>k _ _ _ O q (.new ok hp) (.lst AQ (ok.none_of hp) (r1.kp (BN ok hp) ok))⟩) hg (by decide) (by decide) he
theorem Pn(m:Z.X.mg "list" =none)(h:ET Z ρ O e (.tup ts))(q:∀a,O a=none→Φ (.raw (.ref a)) (Ad O a ts))(hg:Gl Z.X "list":=by rfl)(he:e8 [e] Z.X.env=(false,eval e Z.X.env)::e8 [] Z.X.env:=by rfl):WE Z ρ O (.Call (.Name "list" p) [e] [] pos) Φ:=
 Ds Ec m LV (AI h AB he _ (fun H vs Q ok r k=>by
  obtain⟨v,rfl,r1⟩:=r.one_inv
  obtain⟨a,xs,rfl,h1,r1⟩:=r1.tup_inv
  exact⟨a,xs,rfl,.inr (.inl (.inl h1)),fun p hp=>k _ _ _ _ (q p (ok.none_of hp)) (.newO ok hp r1) (.raw _)⟩)) hg (by decide) (by decide) he
theorem Reps.rngs{K:a8}{H:Hp}:∀(ns:List Nat),Reps K O H (ns.map fun(i:Nat)=>V.int i) (ns.map fun(i:Nat)=>T.int i)
 | []=> .nil
 |n::ns=> .cons (.int _) (Reps.rngs ns)
theorem Ry{p1 p2 pos1:Pos}(m:Z.X.mg "list" =none)(m2:Z.X.mg "range" =none)(hc:Z.X.calm=true)(h:ET Z ρ O e (.int i))(h0:0≤i)(h1:i≤1000)(q:∀a,O a=none→Φ (.raw (.ref a)) (Ad O a ((iA i.toNat).map fun(i:Nat)=>T.int i)))
  (hg:Gl Z.X "list":=by rfl) (hg2:Gl Z.X "range":=by rfl) (he:e8 [e] Z.X.env=(false,eval e Z.X.env)::e8 [] Z.X.env:=by rfl) (he2:e8 [rZ (.Name "range" p2) [e] [] pos1] Z.X.env=(false,eval (.Call (.Name "range" p2) [e] [] pos1) Z.X.env)::e8 [] Z.X.env:=by rfl):WE Z ρ O (.Call (.Name "list" p) [.Call (.Name "range" p2) [e] [] pos1] [] pos) Φ:=by
 refine PE.weak (Bh (Ha hc) hg m LV (Dm (Bh GC hg2 m2 Rv (IR (ρ:=ρ)) (by decide) (by decide) he) FZ he2) (by decide) (by decide) he2) fun σ H Q k=>?_
 refine⟨O,_,AI h AB he (fun ts O'=>ts=[.int i]∧O'=O) ⟨rfl,rfl⟩,k.1,?_⟩
 rintro vs H1 _ _ ⟨rfl,rfl⟩ f r
 obtain⟨v,rfl,r1⟩:=r.one_inv
 cases r1.int_inv
 refine⟨i,rfl,fun p hp=> ⟨p,i,rfl,AQ,h0,h1,fun l hl=>?_⟩⟩
 have f1:=Frm.new (o:=.rng 0 i) f.ok hp
 exact k.2 _ _ _ _ (q l (f1.ok.none_of hl)) (f.trans (f1.trans (.newO f1.ok hl (Reps.rngs _)))) (.raw _)
end
def GP(ts:List T)(lo hi:Option Int):List T:=(ts.drop (HT.BV ts.length 0 lo)).take (HT.BV ts.length ts.length hi-HT.BV ts.length 0 lo)
section
variable{K:a8}{O:AJ}{H:Hp}
theorem Reps.cut{vs:List V}{ts:List T}{lo hi:Option Int}(r:Reps K O H vs ts):Reps K O H (Fb vs lo hi) (GP ts lo hi):=by
 unfold Fb GP
 rw[r.length]
 exact(r.drop _).take _
end
section
variable{Z:Zx}{ρ:List (Option T)}{O:AJ}{e a b c:Expr}{es:List Expr}{Φ:Bf}{pos p p2:Pos}{t ta tb:T}{ts us:List T}{i j:Int}{x:Str}{lo hi:Expr}
theorem OS{H1 H:Hp}{Q:VK}{o1 o2:Option Int}{v:V}(k:Acc Z.K O H (fun t O'=>Φ t O') Q)(f:Frm Z.K O H O H1)(r:Rep Z.K O H1 v (.tup ts))(p:Φ (.tup (GP ts o1 o2)) O):ar Z.K v o1 o2 H1 Q:=by
 obtain⟨a,xs,rfl,h1,r1⟩:=r.tup_inv
 refine⟨a,xs,rfl,.inl (.inl h1),fun q H' hq=>?_⟩
 rcases hq with⟨rfl,rfl,e⟩| ⟨hq,rfl⟩
 ·have rc:=r1.cut (lo:=o1) (hi:=o2)
  rw[e] at rc
  exact k _ _ _ O p f (.tup h1 rc)
 ·exact k _ _ _ O p (f.trans (.new f.ok hq)) (.tup AQ ((r1.cut).kp (BN f.ok hq) f.ok))
theorem Mw(h:ET Z ρ O e (.tup ts))(hl:ET Z ρ O lo (.int i)):ET Z ρ O (.Subscript e (.Slice (some lo) none none p2) pos) (.tup (GP ts (some i) none)):=fun Φ q=>by
 refine PE.weak (Er OK (BW (ρ:=ρ)) (Ep (BW (ρ:=ρ))) Ja) fun σ H Q k=>?_
 refine⟨O,_,h (fun t O'=>t=.tup ts∧O'=O) ⟨rfl,rfl⟩,k.1,?_⟩
 rintro v H1 _ _ ⟨rfl,rfl⟩ f1 r1
 refine⟨_,_,hl (fun t O'=>t=.int i∧O'=_) ⟨rfl,rfl⟩,k.1.step f1,?_⟩
 rintro w H2 _ _ ⟨rfl,rfl⟩ f2 r2
 exact⟨i,r2.int_inv,OS k.2 (f1.trans f2) (r1.kp f2.kp f1.ok) q⟩
theorem Rz(h:ET Z ρ O e (.tup ts))(hl:ET Z ρ O hi (.int i)):ET Z ρ O (.Subscript e (.Slice none (some hi) none p2) pos) (.tup (GP ts none (some i))):=fun Φ q=>by
 refine PE.weak (Er OK (BW (ρ:=ρ)) Ja (Ep (BW (ρ:=ρ)))) fun σ H Q k=>?_
 refine⟨O,_,h (fun t O'=>t=.tup ts∧O'=O) ⟨rfl,rfl⟩,k.1,?_⟩
 rintro v H1 _ _ ⟨rfl,rfl⟩ f1 r1
 refine⟨_,_,hl (fun t O'=>t=.int i∧O'=_) ⟨rfl,rfl⟩,k.1.step f1,?_⟩
 rintro w H2 _ _ ⟨rfl,rfl⟩ f2 r2
 exact⟨i,r2.int_inv,OS k.2 (f1.trans f2) (r1.kp f2.kp f1.ok) q⟩
theorem SA{p3 p4:Pos}(h:ET Z ρ O e (.tup ts)):ET Z ρ O (.Subscript e (.Slice none none (some (.UnaryOp .USub (.Constant (.int 1) 0 p3) p4)) p2) pos) (.tup ts.reverse):=fun Φ q=>by
 refine PE.weak (Um (BW (ρ:=ρ))) fun σ H Q k=>?_
 refine⟨O,_,h (fun t O'=>t=.tup ts∧O'=O) ⟨rfl,rfl⟩,k.1,?_⟩
 rintro v H1 _ _ ⟨rfl,rfl⟩ f r
 obtain⟨a,xs,rfl,h1,r1⟩:=r.tup_inv
 exact⟨a,xs,rfl,.inl (.inl h1),fun l hl=>k.2 _ _ _ _ q (f.trans (.new f.ok hl)) (.tup AQ (r1.rev.kp (BN f.ok hl) f.ok))⟩
theorem KA(ha:ET Z ρ O a (.tup ts))(hb:ET Z ρ O b (.tup us))(hl:ts.length+us.length≤sizeLine):ET Z ρ O (.BinOp a .Add b pos) (.tup (ts++us)):=GE Uo (fun Φ p H v w Q ok r1 r2 q=>by
 obtain⟨a,xs,rfl,h1,g1⟩:=r1.tup_inv
 obtain⟨b,ys,rfl,h2,g2⟩:=r2.tup_inv
 clear r1 r2
 refine⟨a,b,xs,ys,rfl,rfl,.inl (.inl h1),.inl (.inl h2),by rw[g1.length,g2.length];exact hl,fun l H' hq=>?_⟩
 rcases hq with⟨rfl,rfl,rfl⟩| ⟨rfl,rfl,rfl⟩| ⟨hq,rfl⟩
 ·have:us=[]:=mh.mp g2.length.symm
  subst this
  rw[jV] at p
  exact q _ _ _ O p (.refl ok) (.tup h1 g1)
 ·have:ts=[]:=mh.mp g1.length.symm
  subst this
  exact q _ _ _ O p (.refl ok) (.tup h2 g2)
 ·exact q _ _ _ O p (.new ok hq) (.tup AQ ((g1.append g2).kp (BN ok hq) ok))) ha hb
theorem OT(hl:ts.length+us.length≤sizeLine){K:a8}:RP K aY (.lst ts) (.lst us) O (.lst (ts++us)):=fun Φ p H v w Q ok r1 r2 q=>by
 obtain⟨a,xs,rfl,h1,_,r1⟩:=r1.lst_inv
 obtain⟨b,ys,rfl,h2,_,r2⟩:=r2.lst_inv
 exact⟨a,b,xs,ys,rfl,rfl,h1,h2,by rw[r1.length,r2.length];exact hl,fun l hq=>q _ _ _ O p (.new ok hq) (.lst AQ (ok.none_of hq) ((r1.append r2).kp (BN ok hq) ok))⟩
theorem Gc(ha:ET Z ρ O a (.lst ts))(hb:ET Z ρ O b (.lst us))(hl:ts.length+us.length≤sizeLine):ET Z ρ O (.BinOp a .Add b pos) (.lst (ts++us)):=GE Qm (OT hl) ha hb
theorem YW{K:a8}{ns ms:List Int}:RP K (aS K) (.tup (ns.map T.int)) (.tup (ms.map T.int)) O (.bl (HT.Bq ns ms)):=fun Φ p H v w Q ok r1 r2 q=>by
 obtain⟨a,xs,rfl,h1,r1⟩:=r1.tup_inv
 obtain⟨b,ys,rfl,h2,r2⟩:=r2.tup_inv
 cases r1.ints
 cases r2.ints
 exact⟨a,b,ns,ms,rfl,rfl,.inl (.inl h1),.inl (.inl h2),q _ H _ O p (.refl ok) (.bl _)⟩
theorem YX{ns ms:List Int}(hu:Z.X.A.units<cLine)(ha:ET Z ρ O a (.tup (ns.map T.int)))(hb:ET Z ρ O b (.tup (ms.map T.int))):ET Z ρ O (.Compare a [.Lt] [b] pos) (.bl (HT.Bq ns ms)):=Bb (Xf hu) (Ai _) YW ha hb
theorem SB{l:Addr}(hu:Z.X.A.units<cLine)(ho:O l=some ts)(ha:ET Z ρ O a (.raw (.ref l))){p1:Pos}:EB Z ρ O (.Compare a [.NotEq] [.List [] p1] pos) (!ts.isEmpty):=Bc (RX hu) (Ai _) (fun Φ p H v w Q ok r1 r2 q=>by
 cases r1.raw_inv
 obtain⟨b,ys,rfl,h2,_,r2⟩:=r2.lst_inv
 cases r2.nil_inv
 obtain⟨xs,h1,r1⟩:=ok l ts ho
 refine⟨l,b,xs,rfl,rfl,.inl (.inl h1),.inl (.inl h2),?_⟩
 rw[r1.isEmpty]
 exact q _ H _ O p (.refl ok) (.bl _)) ha (Bu AB (jl _))
theorem bJ{n:Nat}(h0:0≤i)(h1:i<n):qK i n=some i.toNat:=by
 unfold qK
 have:¬i<0:=by omega
 simp only[if_neg this]
 rw[if_pos]
 simp
 omega
theorem LX{o:Expr}{apos cpos:Pos}(h:WE Z ρ O o fun t O1=>∃l,t=.raw (.ref l)∧(∃ts,O1 l=some ts)∧WE Z ρ O1 e fun u O2=>∃ts i y,u=.int i∧O2 l=some ts∧0≤i∧i<2^63∧i<ts.length∧ts[i.toNat]?=some y∧Φ y (Ad O2 l (ts.eraseIdx i.toNat)))
  (hbase:pE o "pop" Z.X.env (eval o Z.X.env)=eval o Z.X.env:=by rfl)
  (hfew:((lz cpos (e8 [e] Z.X.env)).all (fun x=>!x.1)&&(sv cpos (qv [] Z.X.env)).all (fun x=>x.1.isSome)
   &&decide ([e].length+([]:List pq).length+(if([]:List pq).isEmpty then 0 else 1)<30))=true:=by rfl)
  (hline:(apos.endLine==cpos.line)=true:=by rfl) (hs:e8 [e] Z.X.env=(false,eval e Z.X.env)::e8 [] Z.X.env:=by rfl) (hplain:(lz cpos (e8 [] Z.X.env)).any (·.1)=false:=by rfl):WE Z ρ O (.Call (.Attribute o "pop" apos) [e] [] cpos) Φ:=by
 refine Wc PySem.F.plainAttrs_list PySem.F.slot_list_pop PySem.F.type_list_pop Ql (Dp h ?_) hbase hfew hline hs hplain
 rintro t O1 ⟨l,rfl,⟨ts,hts⟩,w⟩
 refine⟨ON hts,Bn (Dp w ?_) hs⟩
 rintro u O2 ⟨us,i,y,rfl,h1,i0,i1,i2,hy,p⟩
 refine Ap fun H v vs Q ok r1 r2 q=>?_
 cases r1.raw_inv
 obtain⟨w,rfl,r3⟩:=r2.one_inv
 cases r3.int_inv
 obtain⟨xs,hx,r⟩:=ok l us h1
 obtain⟨v,hv,rv⟩:=r.get hy
 exact⟨l,xs,i,i.toNat,v,rfl,rfl,hx,by omega,i1,by rw[r.length];exact bJ i0 i2,hv,q _ _ _ _ p (.put ok h1 (r.eraseIdx _)) (rv.kp (Js h1) ok)⟩
def KB(ts us:List T):List T:=List.zipWith (fun a b=> .tup [a,b]) ts us
theorem SC{K:a8}{H:Hp}{l m:Addr}{xs ys:List V}(ok:OwnOk K O H)(h1:H l=some (.tup xs))(h2:H m=some (.tup ys))(r1:Reps K O H xs ts)(r2:Reps K O H ys us):LS K (eO K l m) O H (KB ts us):=fun O' H' k ok'=>by
 have g1:DT K H' l xs:=.inl (.inl (k.oth ok h1 fun _ z=>by cases z))
 have g2:DT K H' m ys:=.inl (.inl (k.oth ok h2 fun _ z=>by cases z))
 have q1:=r1.kp k ok
 have q2:=r2.kp k ok
 have hl:(KB ts us).length=min ts.length us.length:=by simp[KB]
 refine⟨fun i hi=>?_,fun i x H'' y t e=>?_,fun i hi=> ⟨xs,ys,g1,g2,?_⟩⟩
 ·rw[hl] at hi
  obtain⟨v,e1,_⟩:=q1.get (i:=i) (t:=ts[i]'(by omega)) (by simp)
  obtain⟨w,e2,_⟩:=q2.get (i:=i) (t:=us[i]'(by omega)) (by simp)
  exact⟨xs,ys,v,w,g1,g2,e1,e2⟩
 ·obtain⟨p,v,w,hp,rfl,rfl,a1,a2⟩:=y
  unfold KB at e
  rw[List.getElem?_zipWith] at e
  cases et:ts[i]? with
  |none=>rw[et] at e;cases e
  |some t1=>
   cases eu:us[i]? with
   |none=>rw[et,eu] at e;cases e
   |some t2=>
    rw[et,eu] at e
    have e:T.tup [t1,t2]=t:=i8.inj e
    subst e
    obtain⟨v',e1,rv⟩:=q1.get et
    obtain⟨w',e2,rw'⟩:=q2.get eu
    have z1:=a1 xs g1
    have z2:=a2 ys g2
    rw[e1] at z1;cases z1
    rw[e2] at z2;cases z2
    exact⟨.new ok' hp,.tup AQ ((Reps.cons rv (.one rw')).kp (BN ok' hp) ok')⟩
 ·rw[hl] at hi
  rw[r1.length,r2.length]
  omega
theorem SD{tes:List Expr}{tk:Nat}{tpos:Pos}(hm:Z.X.mg "zip" =none)(h1:ET Z ρ O a (.tup ts))(h2:ET Z ρ O b (.tup us))(hg:Gl Z.X "zip":=by rfl)(hs:e8 [a,b] Z.X.env=[(false,eval a Z.X.env),(false,eval b Z.X.env)]:=by rfl)(hs2:e8 [b] Z.X.env=[(false,eval b Z.X.env)]:=by rfl):EI Z ρ O (.Tuple tes tk tpos) (.Call (.Name "zip" p) [a,b] [] pos) (KB ts us):=fun Φ q=>
 PI.weak (YB hg hm (AI h1 (AI h2 AB hs2) (by rw[hs,hs2]) (fun vs O'=>vs=[.tup ts,.tup us]∧O'=O) ⟨rfl,rfl⟩) hs hs2) fun σ H R k=> ⟨k.1,by
  rintro vs H' _ _ ⟨rfl,rfl⟩ f r
  obtain⟨v,w,rfl,r1,r2⟩:=r.two_inv
  obtain⟨l,xs,rfl,g1,r1⟩:=r1.tup_inv
  obtain⟨m,ys,rfl,g2,r2⟩:=r2.tup_inv
  exact⟨l,m,rfl,⟨xs,.inl (.inl g1)⟩,⟨ys,.inl (.inl g2)⟩,k.2 _ H' _ _ q f (SC f.ok g1 g2 r1 r2)⟩⟩
end
def AE(p:Int×Int):T:=.tup [.int p.1,.int p.2]
def Eg(p q:Int×Int):Prop:=p.1<q.1∨(p.1=q.1∧p.2<q.2)
section
variable{K:a8}{O:AJ}{H:Hp}
theorem Hk:∀{ps:List (Int×Int)} {xs:List V},Reps K O H xs (ps.map AE)→∃qs:List (List Int×Addr),xs=qs.map (fun p=>V.ref p.2)∧qs.map (·.1)=ps.map (fun p=> [p.1,p.2])∧∀k x,(k,x)∈qs→H x=some (.tup (k.map V.int))
 | [],xs,r=> ⟨[],r.nil_inv,rfl,fun _ _ h=>by cases h⟩
 |p::ps,xs,r=>by
  obtain⟨v,vs',rfl,h,r'⟩:=Reps.cons_inv r
  obtain⟨a,ys,rfl,ha,r2⟩:=h.tup_inv
  cases Reps.ints (ns:=[p.1,p.2]) r2
  obtain⟨qs,rfl,e,hk⟩:=Hk r'
  refine⟨([p.1,p.2],a)::qs,rfl,by rw[iN,iN,e],fun k x h=>?_⟩
  rcases ic.mp h with h|h
  ·cases h;exact ha
  ·exact hk k x h
theorem Hl:∀{qs:List (List Int×Addr)} {ps:List (Int×Int)},qs.map (·.1)=ps.map (fun p=> [p.1,p.2])→(∀k x,(k,x)∈qs→H x=some (.tup (k.map V.int)))→Reps K O H (qs.map fun p=>V.ref p.2) (ps.map AE)
 | [],[],_,_=> .nil
 | [],p::ps,e,_=>by cases e
 |q::qs,[],e,_=>by cases e
 | (k,x)::qs,p::ps,e,h=>by
  rw[iN,iN] at e
  injection e with e1 e2
  have e1:k=[p.1,p.2]:=e1
  have hx:=h k x (iV ..)
  rw[e1] at hx
  exact .cons (.tup hx (.cons (.int _) (.cons (.int _) .nil))) (Hl e2 fun k x hk=>h k x (iy _ hk))
end
theorem OU:∀{ys:List (List Int×Addr)},(∀k x,(k,x)∈ys→∃i j:Int,k=[i,j])→∃ps:List (Int×Int),ys.map (·.1)=ps.map (fun p=> [p.1,p.2])
 | [],_=> ⟨[],rfl⟩
 | (k,x)::ys,h=>by
  obtain⟨i,j,e⟩:=h k x (iV ..)
  obtain⟨ps,e2⟩:=OU fun k x hk=>h k x (iy _ hk)
  exact⟨(i,j)::ps,by rw[iN,iN,e,e2]⟩
section
variable{Z:Zx}{ρ:List (Option T)}{O:AJ}{e:Expr}{Φ:Bf}{pos p p1 pos1:Pos}
theorem DJ{ps:List (Int×Int)}(m:Z.X.mg "sorted" =none)(m2:Z.X.mg "set" =none)(hc:Z.X.calm=true)(hu:Z.X.A.units+8<cLine)(h:ET Z ρ O e (.lst (ps.map AE)))(hl:ps.length≤300)(hb:∀q∈ps,0≤q.2∧q.2<65536)
  (k:∀qs:List (Int×Int),qs.Pairwise Eg→(∀q,q∈qs↔q∈ps)→qs.length≤ps.length→Φ (.lst (qs.map AE)) O) (hg:Gl Z.X "sorted":=by rfl) (hg2:Gl Z.X "set":=by rfl) (he:e8 [e] Z.X.env=(false,eval e Z.X.env)::e8 [] Z.X.env:=by rfl)
  (he2:e8 [rZ (.Name "set" p1) [e] [] pos1] Z.X.env=(false,eval (.Call (.Name "set" p1) [e] [] pos1) Z.X.env)::e8 [] Z.X.env:=by rfl):WE Z ρ O (.Call (.Name "sorted" p) [.Call (.Name "set" p1) [e] [] pos1] [] pos) Φ:=by
 refine PE.weak (En (Jp hc) hg m Jz (Dm (Bh (Pi hc hu) hg2 m2 bI (IR (ρ:=ρ)) (by decide) (by decide) he) FZ he2) (by decide) (by decide) he2) fun σ H Q q=>?_
 refine⟨O,_,AI h AB he (fun ts O'=>ts=[.lst (ps.map AE)]∧O'=O) ⟨rfl,rfl⟩,q.1,?_⟩
 rintro vs H1 _ _ ⟨rfl,rfl⟩ f r
 obtain⟨v,rfl,r1⟩:=r.one_inv
 obtain⟨a,xs,rfl,h1,_,r1⟩:=r1.lst_inv
 obtain⟨qs,rfl,eq,hk⟩:=Hk r1
 have lq:qs.length=ps.length:=by
  have:=congrArg List.length eq
  simpa using this
 refine⟨a,qs,rfl,.inl (.inl h1),fun k x hx=> .inl (.inl (hk k x hx)),by omega,fun l xs hl1 so nd=>?_⟩
 obtain⟨s1,s2,s3⟩:=so
 have f1:=Frm.new (o:=SetO Z.X.prog Z.X.w l xs) f.ok hl1
 have hk2:∀k x,(k,x)∈xs→upd H1 l (SetO Z.X.prog Z.X.w l xs) x=some (.tup (k.map V.int)):=fun k x hx=>by
  have:=hk k x (s1 _ hx)
  rw[AO (AK this hl1)];exact this
 have mem1:∀k x,(k,x)∈qs→∃q∈ps,k=[q.1,q.2]:=fun k x hx=>by
  have:k∈qs.map (·.1):=ig.mpr ⟨(k,x),hx,rfl⟩
  rw[eq] at this
  obtain⟨q,h1,h2⟩:=ig.mp this
  exact⟨q,h1,h2.symm⟩
 have two:∀k x,(k,x)∈xs→∃i j,k=[i,j]∧0≤j∧j<65536:=fun k x hx=>by
  obtain⟨q,h1,h2⟩:=mem1 k x (s1 _ hx)
  exact⟨q.1,q.2,h2,hb q h1⟩
 refine⟨l,xs,rfl,AQ,fun k x hx=> .inl (.inl (hk2 k x hx)),by omega,two,fun d ys hd pm pw=>?_⟩
 obtain⟨rs,er⟩:=OU (ys:=ys) fun k x hx=>by
  obtain⟨i,j,e,_⟩:=two k x (pm.mem_iff.mp hx)
  exact⟨i,j,e⟩
 have f2:=Frm.new (o:=.lst (ys.map fun p=>V.ref p.2)) f1.ok hd
 have hk3:∀k x,(k,x)∈ys→upd (upd H1 l (SetO Z.X.prog Z.X.w l xs)) d (.lst (ys.map fun p=>V.ref p.2)) x=some (.tup (k.map V.int)):=fun k x hx=>by
  have:=hk2 k x (pm.mem_iff.mp hx)
  rw[AO (AK this hd)];exact this
 have memr:∀z,z∈rs↔∃x,([z.1,z.2],x)∈ys:=fun z=>by
  constructor
  ·intro hz
   have:[z.1,z.2]∈ys.map (·.1):=by rw[er];exact ig.mpr ⟨z,hz,rfl⟩
   obtain⟨⟨k,x⟩,h1,h2⟩:=ig.mp this
   have h2:k=_:=h2
   subst h2
   exact⟨x,h1⟩
  ·rintro⟨x,hx⟩
   have:[z.1,z.2]∈ys.map (·.1):=ig.mpr ⟨_,hx,rfl⟩
   rw[er] at this
   obtain⟨w,h1,h2⟩:=ig.mp this
   injection h2 with e1 e2
   injection e2 with e2 _
   have:w=z:=kb e1 e2
   rw[←this];exact h1
 have ndy:(ys.map (·.1)).Nodup:=(pm.map _).nodup_iff.mpr nd
 refine q.2 _ _ _ _ (k rs ?_ (fun z=>?_) ?_) (f.trans (f1.trans f2)) (.lst AQ (f1.ok.none_of hd) (Hl er hk3))
 ·--strictly rising
  have pw':rs.Pairwise fun x y=>65536*x.1+x.2≤65536*y.1+y.2:=by
   have h3:(ys.map (·.1)).Pairwise fun x y=>65536*x.getD 0 0+x.getD 1 0≤65536*y.getD 0 0+y.getD 1 0:=jc.mpr pw
   rw[er] at h3
   exact(jc (f:=fun(p:Int×Int)=> [p.1,p.2]) (R:=fun x y=>65536*x.getD 0 0+x.getD 1 0≤65536*y.getD 0 0+y.getD 1 0)).mp h3
  have nd':rs.Pairwise fun x y=>x≠y:=by
   have h3:(ys.map (·.1)).Pairwise (·≠·):=ndy
   rw[er] at h3
   exact(jc.mp h3).imp fun hxy z=>hxy (by rw[z])
  refine(pw'.and nd').imp_of_mem fun{x y} hx hy ⟨h1,h2⟩=>?_
  have bnd:∀z,z∈rs→0≤z.2∧z.2<65536:=fun z hz=>by
   obtain⟨v,hv⟩:=(memr z).mp hz
   obtain⟨i,j,e,hj⟩:=two _ v (pm.mem_iff.mp hv)
   injection e with e1 e2
   injection e2 with e2 _
   omega
  have b1:=bnd x hx
  have b2:=bnd y hy
  unfold Eg
  have:¬(x.1=y.1∧x.2=y.2):=fun z=>h2 (kb z.1 z.2)
  omega
 ·rw[memr]
  constructor
  ·rintro⟨x,hx⟩
   obtain⟨w,h1,h2⟩:=mem1 _ x (s1 _ (pm.mem_iff.mp hx))
   injection h2 with e1 e2
   injection e2 with e2 _
   have:z=w:=kb e1 e2
   rw[this];exact h1
  ·intro hz
   have:[z.1,z.2]∈qs.map (·.1):=by rw[eq];exact ig.mpr ⟨z,hz,rfl⟩
   obtain⟨⟨k,x⟩,h1,h2⟩:=ig.mp this
   have h2:k=_:=h2
   subst h2
   obtain⟨x',hx'⟩:=s2 _ _ h1
   exact⟨x',pm.mem_iff.mpr hx'⟩
 ·have e1:rs.length=ys.length:=by
   have:=congrArg List.length er
   simpa using this.symm
  have e2:=pm.length_eq
  omega
end
theorem XFly.mono{X:Cx}{W W':St→XK}(x:XFly X W)(h:∀σ cls H',W' σ cls none H'→W σ cls none H'):XFly X W':=⟨fun pins σ H s e s' I c=>x.fly pins σ H s e s' I (by
 obtain⟨y,cls,H',e1,f,q⟩:=c
 exact⟨y,cls,H',e1,f,h σ cls H' q⟩)⟩
theorem BO{X:Cx}{Oe:AJ}{He:Hp}:XFly X (zc X Oe He).W:=⟨fun pins σ H s e s' I c=>by
 obtain⟨y,cls,H',e1,f,_,O',z,_⟩:=c
 exact z.elim⟩
abbrev zB(P:Program)(w:World)(K:a8)(mg:Str→Option Value)(base:Heap)(N:List Str)(qual:Str)(sc:Scope)(f:Addr)(cdv:Value)(A:iC)(outer:List Env)(s:a9)(H:Hp)(E:XK)(O:AJ)(Ξ:Value→AJ→Prop):Zx:=
 ⟨CZ (CXe P w) P w K mg base N qual sc f cdv A outer s H E,O,H,Ξ⟩
def Eh(N:List Str)(ts:List T):List (Option T):=ts.map some++iQ (N.length-ts.length) none
theorem LY{K:a8}{O:AJ}{H:Hp}{N:List Str}{vs:List V}{ts:List T}(r:Reps K O H vs ts):Rl K O H (start N vs) (Eh N ts):=by
 refine⟨by simp[start,Eh,r.length],fun i t e=>?_⟩
 unfold Eh at e
 by_cases hi:i<ts.length
 ·rw[iY (by simpa using hi),e7] at e
  cases ht:ts[i]? with
  |none=>rw[ht] at e;cases e
  |some u=>
   rw[ht] at e
   cases e
   obtain⟨v,h1,h2⟩:=r.get ht
   refine⟨v,?_,h2⟩
   unfold start
   rw[iY (by simpa[r.length] using hi),e7,h1]
   rfl
 ·rw[iG (by simpa using hi),kL] at e
  split at e<;>cases e
theorem AY{P:Program}{w:World}{K:a8}{mg:Str→Option Value}{base:Heap}{x qual:Str}{st:Stmt}{f:Addr}{fd:iI}{N ps:List Str}{k:Nat}{sp:CB}(F:Fun K x qual st f fd)(S:FnScope N ps (AA st))(len:∀ts O Φ Ξ,sp ts O Φ Ξ→ts.length=ps.length)
  (h:∀(cdv:Value) (A:iC) (outer:List Env) (s:a9) (H:Hp) (E:XK) (O:AJ) (Ξ:Value→AJ→Prop),Room k (A.deeper (lE qual (AA st) s.heap.objs.size f cdv))→XFly (zB P w K mg base N qual (AA st) f cdv A outer s H E O Ξ).X (zB P w K mg base N qual (AA st) f cdv A outer s H E O Ξ).W→
   ∀ts Φ,sp ts O Φ Ξ→Hg (zB P w K mg base N qual (AA st) f cdv A outer s H E O Ξ) (Eh N ts) O (BL st) {nx:=fun _ O'=>Φ .non O',rt:=Φ}):FnOk P w K mg base (CXe P w) (k+1) f fd ps (Ci K sp):=by
 refine F.okX S (fun vs H Q E h=>?_) (fun cdv A outer s H vs Q E hr h1=>?_)
 ·obtain⟨ts,O,Φ,Ξ,r,_,q,_⟩:=h
  rw[r.length];exact len ts O Φ Ξ q
 ·obtain⟨ts,O,Φ,Ξ,r,ok,q,acc,ex⟩:=h1
  refine⟨_,h cdv A outer s H E O Ξ hr (XFly.mono Ak.f ?_) ts Φ q,⟨LY r,.refl ok⟩,?_⟩
  ·rintro σ cls H' ⟨_,O',x,f⟩
   exact ex cls O' H' x f
  ·exact⟨fun ρ' O' σ' H' p a _=>acc _ _ _ O' p a.fr .non,fun v H' t O' p f r=>acc v H' t O' p f r,fun _ _ _ _ z=>z.elim,fun _ _ _ _ z=>z.elim⟩
theorem FnT.mono{P:Program}{w:World}{K:a8}{mg:Str→Option Value}{base:Heap}{x:Str}{j k:Nat}{ps:List Str}{s:CB}(G:FnT P w K mg base x j ps s)(h:j≤k):FnT P w K mg base x k ps s:=by
 obtain⟨f,fd,F,r⟩:=G.ex
 exact⟨f,fd,F.mono h,r⟩
def Wf(S:Scope)(N:List Str)(csc:Scope)(cap:List (Str×Nat)):Bool:=
 decide (csc.kind=.function)&&csc.names.all (fun y=>decide (y.2=.cell→csc.names.lookup y.1=some .cell))&&csc.names.all (fun y=>decide (y.2=.local→csc.names.lookup y.1=some .local))&&csc.names.all (fun y=>decide (y.2=.free→S.names.lookup y.1=some .cell∨S.names.lookup y.1=some .free))&&cap.all (fun p=>decide (N[p.2]?=some p.1∧csc.names.lookup p.1=some .free))
theorem BU{X:Cx}{csc:Scope}{nc:List Str}{cap:List (Str×Nat)}(S:Scope)(N:List Str)(chk:Wf S N csc cap=true)(h1:X.env.scope=S:=by rfl)(h2:X.N=N:=by rfl):LcOk X csc nc cap:=by
 unfold Wf at chk
 simp only[ko,jM,decide_eq_true_eq] at chk
 obtain⟨⟨⟨⟨c1,c2⟩,c3⟩,c4⟩,c5⟩:=chk
 exact⟨c1,c2,c3,by rw[h1];exact c4,by rw[h2];exact c5⟩
section
variable{Z:Zx}{ρ:List (Option T)}{O:AJ}{elt tg iter:Expr}{ifs:List Expr}{csc:Scope}{nc:List Str}{cap:List (Str×Nat)}{Φ:Bf}{pos:Pos}{α:Type}
theorem FF{F:List T→AJ→Prop}(xs:List α)(f g:α→T)(hl:xs.length≤sizeLine)(h:∀x,x∈xs→∃ρ4,∀X' Oe He,LcCx Z.X csc (Ah nc cap) X'→∀O',(WG (zc X' Oe He) nc.length (Fq nc ρ cap) O' tg (f x) ρ4∧ET (zc X' Oe He) ρ4 O' elt (g x)))(fin:F (xs.map g) O):Ut Z ρ elt tg [] csc nc cap F (xs.map f) O:=by
 refine⟨fun i acc O'=>O'=O∧acc=(xs.take i).map g,⟨rfl,by simp⟩,?_,?_⟩
 ·rintro i t acc O' p e ⟨rfl,rfl⟩ np
  rw[e7] at e
  cases ex:xs[i]? with
  |none=>rw[ex] at e;cases e
  |some x=>
   rw[ex] at e
   cases e
   obtain⟨ρ4,w⟩:=h x (hZ ex)
   have hi:=(ie.mp ex).1
   refine⟨ρ4,fun X' Oe He is=> ⟨(w X' Oe He is _).1,Dt (Jc fun X' Oe He is=> (w X' Oe He is _).2 _ ⟨_,rfl,np,?_,rfl,?_⟩)⟩⟩
   ·simp;omega
   ·rw[jt,ex];simp
 ·rintro acc O' ⟨rfl,rfl⟩
  rw[c9,jj]
  exact fin
theorem LZ{F:List T→AJ→Prop}{c:Expr}(xs:List α)(f g:α→T)(q:α→Bool)(hl:xs.length≤sizeLine)(h:∀x,x∈xs→∃ρ4,∀X' Oe He,LcCx Z.X csc (Ah nc cap) X'→∀O',(WG (zc X' Oe He) nc.length (Fq nc ρ cap) O' tg (f x) ρ4∧EB (zc X' Oe He) ρ4 O' c (q x)∧(q x=true→ET (zc X' Oe He) ρ4 O' elt (g x))))(fin:F ((xs.filter q).map g) O):Ut Z ρ elt tg [c] csc nc cap F (xs.map f) O:=by
 refine⟨fun i acc O'=>O'=O∧acc=((xs.take i).filter q).map g,⟨rfl,by simp⟩,?_,?_⟩
 ·rintro i t acc O' p e ⟨rfl,rfl⟩ np
  rw[e7] at e
  cases ex:xs[i]? with
  |none=>rw[ex] at e;cases e
  |some x=>
   rw[ex] at e
   cases e
   obtain⟨ρ4,w⟩:=h x (hZ ex)
   have hi:=(ie.mp ex).1
   refine⟨ρ4,fun X' Oe He is=> ⟨(w X' Oe He is _).1,Jx ((w X' Oe He is _).2.1 _ ?_)⟩⟩
   cases hq:q x with
   |true=>
    refine Jc fun X' Oe He is=> (w X' Oe He is _).2.2 hq _ ⟨_,rfl,np,?_,rfl,?_⟩
    ·have:=nK q (xs.take i)
     simp at this ⊢;omega
    ·rw[jt,ex];simp[hq]
   |false=>
    refine Qo ⟨_,rfl,np,rfl,?_⟩
    rw[jt,ex];simp[hq]
 ·rintro acc O' ⟨rfl,rfl⟩
  rw[c9,jj]
  exact fin
theorem BJ(nc:List Str)(cap:List (Str×Nat))(xs:List α)(f g:α→T)(hc:Z.X.calm=true)(ok:LcOk Z.X csc nc cap)(hi:EI Z ρ O tg iter (xs.map f))(hl:xs.length≤sizeLine)(h:∀x,x∈xs→∃ρ4,∀X' Oe He,LcCx Z.X csc (Ah nc cap) X'→∀O',(WG (zc X' Oe He) nc.length (Fq nc ρ cap) O' tg (f x) ρ4∧ET (zc X' Oe He) ρ4 O' elt (g x)))
  (hs:∀x,jX iter Z.X.env x=pure x:=by intro _;rfl):ET Z ρ O (.ListComp elt [⟨tg,iter,[],0⟩] csc pos) (.lst (xs.map g)):=fun Φ p=>JB hc ok (hi _ (FF xs f g hl h p)) hs
theorem Hm(nc:List Str)(cap:List (Str×Nat)){c:Expr}(xs:List α)(f g:α→T)(q:α→Bool)(hc:Z.X.calm=true)(ok:LcOk Z.X csc nc cap)(hi:EI Z ρ O tg iter (xs.map f))(hl:xs.length≤sizeLine)(h:∀x,x∈xs→∃ρ4,∀X' Oe He,LcCx Z.X csc (Ah nc cap) X'→∀O',(WG (zc X' Oe He) nc.length (Fq nc ρ cap) O' tg (f x) ρ4∧EB (zc X' Oe He) ρ4 O' c (q x)∧(q x=true→ET (zc X' Oe He) ρ4 O' elt (g x))))
  (hs:∀x,jX iter Z.X.env x=pure x:=by intro _;rfl):ET Z ρ O (.ListComp elt [⟨tg,iter,[c],0⟩] csc pos) (.lst ((xs.filter q).map g)):=fun Φ p=>JB hc ok (hi _ (LZ xs f g q hl h p)) hs
end
section
variable{Z:Zx}{ρ:List (Option T)}{O:AJ}{e:Expr}{es:List Expr}{Φ:Bf}{Ψ:Es}{pos p:Pos}{ts:List T}{x:Str}
theorem EA.wa{Φ:Ms}(h:EA Z ρ O es ts)(p:Φ ts O):WA Z ρ O es Φ:=h Φ p
theorem EI.wi{tg iter:Expr}{Φ:Ms}(h:EI Z ρ O tg iter ts)(p:Φ ts O):WI Z ρ O tg iter Φ:=h Φ p
theorem OV{l:Addr}(hl:Z.Oe l=none)(h:WE Z ρ O e fun t O'=>Ψ.rt t (CQ O' l)):WS Z ρ O (.Return (some e) pos) Ψ:=PS.weak (JX h) fun D σ H q=> ⟨q.1,fun v H' t O' p f r=>by
 have f':=q.1.fr.trans f
 refine q.2.rt v H' t _ p ⟨f'.kp.trans Bm,fun b us e=>?_,f'.ok.drop⟩ (r.kp Bm f'.ok)
 obtain⟨us',e'⟩:=f'.own b us e
 have:b≠l:=fun z=>by rw[z,hl] at e;cases e
 exact⟨us',by rw[Da this];exact e'⟩⟩
theorem Po{l:Addr}(m:Z.X.mg "tuple" =none)(ho:O l=some ts)(h:ET Z ρ O e (.raw (.ref l)))(hg:Gl Z.X "tuple":=by rfl)(he:e8 [e] Z.X.env=(false,eval e Z.X.env)::e8 [] Z.X.env:=by rfl):ET Z ρ O (.Call (.Name "tuple" p) [e] [] pos) (.tup ts):=
 Fo GB m Ee (AI h AB he) (fun Φ q H vs Q ok r k=>by
  obtain⟨v,rfl,r1⟩:=r.one_inv
  cases r1.raw_inv
  obtain⟨xs,h1,r1⟩:=ok l ts ho
  exact⟨l,xs,rfl,.inl (.inl h1),fun p hp=>k _ _ _ O q (.new ok hp) (.tup AQ (r1.kp (BN ok hp) ok))⟩) hg (by decide) (by decide) he
theorem SE{k:Nat}{f:Addr}{fd:iI}{ps:List Str}{sp:Sp}(F:FnOk Z.X.prog Z.X.w Z.X.K Z.X.mg Z.X.base (CXe Z.X.prog Z.X.w) k f fd ps sp)(hm:Z.X.mg x=some (.ref f))(hk:lG Z.X.K (.ref f)=true)(hb:Binds Z.X.K fd ps [])(hr:Room k Z.X.A)(xf:XFly Z.X Z.W)(h:EA Z ρ O (e::es) ts)
  (w:∀σ H vs Q,Asr Z ρ O σ H→Reps Z.K O H vs ts→Acc Z.K O H Φ Q→sp vs H Q (Z.W σ)) (hg:Gl Z.X x:=by rfl)
  (hdb:(x==("__debug__" :Str))=false:=by decide) (he:e8 (e::es) Z.X.env=(false,eval e Z.X.env)::e8 es Z.X.env:=by rfl) (hpl:(lz pos (e8 es Z.X.env)).any (·.1)=false:=by rfl):WE Z ρ O (.Call (.Name x p) (e::es) [] pos) Φ:=by
 refine PE.weak (Ky xf F hr hg hm hk hb (IR (ρ:=ρ)) hdb he hpl) fun σ H Q q=>?_
 refine⟨O,_,h (fun us O'=>us=ts∧O'=O) ⟨rfl,rfl⟩,q.1,?_⟩
 rintro vs H1 _ _ ⟨rfl,rfl⟩ f r
 exact w σ H1 vs Q (q.1.step f) r (q.2.step f)
end
def Bz:Expr→Bool
 | .Starred .. =>false
 |_=>true
theorem Dv{e:Expr}{es:List Expr}{env:Env}(h:Bz e=true):e8 (e::es) env=(false,eval e env)::e8 es env:=by
 cases e<;>first|rfl|cases h
section
variable{Z:Zx}{ρ:List (Option T)}{O:AJ}{e:Expr}{es:List Expr}{t:T}{ts:List T}
theorem AH(h:ET Z ρ O e t)(hr:EA Z ρ O es ts)(hn:Bz e=true:=by rfl):EA Z ρ O (e::es) (t::ts):=AI h hr (Dv hn)
theorem CA{Φ:Ms}(h:WE Z ρ O e fun t O1=>WA Z ρ O1 es fun ts O2=>Φ (t::ts) O2)(hn:Bz e=true:=by rfl):WA Z ρ O (e::es) Φ:=Bn h (Dv hn)
theorem DL{a b:Expr}{i j:Int}{k:Nat}{pos:Pos}(ha:ET Z ρ O a (.int i))(hb:ET Z ρ O b (.int j))(h1:Bz a=true:=by rfl)(h2:Bz b=true:=by rfl):ET Z ρ O (.Tuple [a,b] k pos) (AE (i,j)):=DH (AH ha (AH hb AB h2) h1) (by show 2≤sizeLine;decide)
theorem eZ{p:Int×Int}{ps:List (Int×Int)}(h:ET Z ρ O e (AE p))(hr:EA Z ρ O es (ps.map AE))(hn:Bz e=true:=by rfl):EA Z ρ O (e::es) ((p::ps).map AE):=AH h hr hn
end
theorem JC{O:AJ}{p l:Addr}{xs ys:List T}(h:O l=none)(hp:p≠l):CQ (Ad (Ad O p xs) l ys) l=Ad O p xs:=by
 refine Am ?_
 rw[AV (Ne.symm hp)];exact h
theorem La{O:AJ}{p:Addr}{xs:List T}(h:O p=some xs):Ad O p xs=O:=by
 funext b
 by_cases hb:b=p
 ·rw[hb,AF,h]
 ·rw[AV hb]
theorem Mx{O:AJ}{p l:Addr}{xs:List T}(h:O p=some xs)(hl:O l=none):p≠l:=fun z=>by rw[z,hl] at h;cases h
def YY:Expr→Bool
 | .ListComp .. =>false
 | .SetComp .. =>false
 | .DictComp .. =>false
 |_=>true
theorem SF{e:Expr}{t:Option Expr}{l:Nat}{env:Env}(h:YY e=true):nO e t l env=pure false:=by
 cases e<;>first|rfl|cases h
section
variable{Z:Zx}{ρ:List (Option T)}{O:AJ}{e:Expr}{es:List Expr}{t:T}{ts:List T}{Φ:Bf}{Ψ:Es}{pos p2:Pos}{x:Str}
theorem Uz(i:Nat)(h:EA Z ρ O es ts)(hl:ts.length≤sizeLine)(k:Ψ.nx (ρ.set i (some (.lst ts))) O)(hN:Z.X.N.Nodup){pos':Pos}(hi:Z.X.N[i]?=some x:=by rfl)(hx:QP Z.X.env.scope x:=by first|exact pH rfl|exact oO rfl)
  (hf:Z.X.fn x=true∨Z.X.env.scope.names.lookup x=some .local:=by first|exact .inl rfl|exact .inr rfl):WS Z ρ O (.Assign [.Name x pos'] (.List es p2) pos) Ψ:=
 AW i (ET.we (Bu h hl) k) hN hi hx (SF rfl) hf
inductive CPs:List Expr→List (Int×Int)→Prop
 |nil:CPs [] []
 |cons {a b:Int} {k1 k2 k3:Nat} {q1 q2 q3:Pos} {es:List Expr} {ps:List (Int×Int)}:CPs es ps→CPs (.Tuple [.Constant (.int a) k1 q1,.Constant (.int b) k2 q2] k3 q3::es) ((a,b)::ps)
theorem CPs.ea{ps:List (Int×Int)}(h:CPs es ps):EA Z ρ O es (ps.map AE):=by
 induction h with
 |nil=>exact AB
 |cons _ ih=>exact eZ (DL AC AC) ih
structure HEA(Z:Zx)(ρ:List (Option T))(O:AJ)(es:List Expr)(ts:List T):Prop where
 out:EA Z ρ O es ts
theorem CPs.hea{ps:List (Int×Int)}(h:CPs es ps):HEA Z ρ O es (ps.map AE):=⟨h.ea⟩
theorem VA(i:Nat)(h:HEA Z ρ O es ts)(hl:ts.length≤sizeLine)(k:Ψ.nx (ρ.set i (some (.lst ts))) O)(hN:Z.X.N.Nodup){pos':Pos}(hi:Z.X.N[i]?=some x)(hx:QP Z.X.env.scope x)
  (hf:Z.X.fn x=true∨Z.X.env.scope.names.lookup x=some .local):WS Z ρ O (.Assign [.Name x pos'] (.List es p2) pos) Ψ:=Uz i h.out hl k hN hi hx hf
structure HS(Z:Zx)(ρ:List (Option T))(O:AJ)(ss:List Stmt)(Ψ:Es):Prop where
 out:Hg Z ρ O ss Ψ
theorem BP{s:Stmt}{ss:List Stmt}(h:WS Z ρ O s {Ψ with nx:=fun ρ' O'=>HS Z ρ' O' ss Ψ}):HS Z ρ O (s::ss) Ψ:=
 ⟨AD (OO h (fun _ _ z=>z.out) (fun _ _ z=>z) (fun _ _ z=>z) (fun _ _ z=>z))⟩
theorem SG{s:Stmt}(h:WS Z ρ O s Ψ):HS Z ρ O [s] Ψ:=⟨AG h⟩
theorem Lb{k:Bool}{c:Expr}{ea ss:List Stmt}(hc:EB Z ρ O c k)(h1:k=true→HS Z ρ O ea {Ψ with nx:=fun ρ' O'=>HS Z ρ' O' ss Ψ})(h2:k=false→HS Z ρ O ss Ψ):HS Z ρ O (.If c ea [] pos::ss) Ψ:=
 BP (Ae hc (fun h=> (h1 h).out) (fun h=>Ab (h2 h)))
theorem VB{P:Program}{w:World}{K:a8}{mg:Str→Option Value}{base:Heap}{x qual:Str}{st:Stmt}{f:Addr}{fd:iI}{N ps:List Str}{k:Nat}{sp:CB}(F:Fun K x qual st f fd)(S:FnScope N ps (AA st))(len:∀ts O Φ Ξ,sp ts O Φ Ξ→ts.length=ps.length)
  (h:∀(cdv:Value) (A:iC) (outer:List Env) (s:a9) (H:Hp) (E:XK) (O:AJ) (Ξ:Value→AJ→Prop),Room k (A.deeper (lE qual (AA st) s.heap.objs.size f cdv))→XFly (zB P w K mg base N qual (AA st) f cdv A outer s H E O Ξ).X (zB P w K mg base N qual (AA st) f cdv A outer s H E O Ξ).W→
   ∀ts Φ,sp ts O Φ Ξ→HS (zB P w K mg base N qual (AA st) f cdv A outer s H E O Ξ) (Eh N ts) O (BL st) {nx:=fun _ O'=>Φ .non O',rt:=Φ}):FnOk P w K mg base (CXe P w) (k+1) f fd ps (Ci K sp):=
 AY F S len fun cdv A outer s H E O Ξ hr xf ts Φ q=> (h cdv A outer s H E O Ξ hr xf ts Φ q).out
end
section
variable{X:Cx}{a b c d:Expr}{ta tb tc td:TE}{pos:Pos}
end
section
variable{Z:Zx}{ρ:List (Option T)}{O:AJ}{a b c d:Expr}{pos:Pos}{i j k l:Int}
end
end L2.TL
namespace L2
open PySem PySem.Spec PySem.Calls PyProof.Rows
section
variable{prog:Program}{w:World}{A:iC}{E:Value→a9→Prop}{s:a9}
theorem My{l:Addr}{o:Obj}{vs:List Value}{n:Nat}{ns:List Int}{Q:Value→a9→Prop}(ho:s.heap.get? l=some o)(hc:o.cls=.type "tuple")(hd:o.data=.seq vs.toArray n)(hI:lI vs ns)(h64:vs.length<64)
  (h:∀(h':Heap) (a:Addr) (out:List Value) (ms:List Int) (c:Nat),s.heap.get? a=none→h'.get? a=some (jG "list" out.toArray c)→(∀b o,s.heap.get? b=some o→h'.get? b=some o)→lI out ms→ms.Perm ns→ms.Pairwise (·≤·)→Q (.ref a) {s with heap:=h'}):
  wpAny (model prog w) A (call (.builtin "sorted") [.ref l]) Q E s:=by
 refine Calls.call_function_entry sd rz rC (rH _) ?_
 unfold Builtin.«sorted»
 refine a7 (m:=checkCount "sorted" 1 1 _) (b9 ?_)
 refine a7 (wpAny_collect_seq l (.inr rfl) ho hc hd (fun h1 hk1=>?_) (by rw[iu,jC];omega))
 show wpAny _ _ (newList vs>>=_) _ _ _
 refine a7 (nU ?_ (by rw[jC];omega))
 have hoL:(h1.push (jG "list" vs.toArray 0)).get? h1.objs.size=some (jG "list" vs.toArray 0):=iz _ rfl
 show wpAny _ _ _ _ _ {s with heap:=h1.push (jG "list" vs.toArray 0)}
 refine a7 (je (jF qq ⟨_,hoL,rfl⟩ qd (list_sort_tree hoL hI h64 fun out ms a1 a2 a3=> ⟨_,rfl,?_⟩) (qw _)))
 refine b9 ⟨_,rfl,?_⟩
 obtain⟨c,hcat⟩:=sortedHeap_at (out:=out) hoL
 refine h _ h1.objs.size out.toList ms c ?_ hcat (fun b o e=>?_) a1 a2 a3
 ·cases e:s.heap.get? h1.objs.size with
  |none=>rfl
  |some o'=>exact absurd (ip (hk1 _ _ e)) (jD _)
 ·have hlt:=ip (hk1 b o e)
  rw[sortedHeap_old (iL hlt) (by rw[size_push'];exact jO hlt)]
  exact e6 _ (hk1 b o e)
end
section
variable{X:Cx}
def YZ(K:a8):List V→Hp→VK→Prop:=fun xs H Q=>∃(a:Addr) (ns:List Int),xs=[.ref a]∧DT K H a (ns.map V.int)∧ns.length<64∧∀(p:Addr) (ms:List Int),H p=none→ms.Perm ns→ms.Pairwise (·≤·)→Q (.ref p) (upd H p (.lst (ms.map V.int)))
theorem KC:BB X (.builtin "sorted") (YZ X.K):=by
 intro pins s σ H xs us Q I r h
 obtain⟨a,ns,rfl,hS,hl,q⟩:=h
 obtain⟨u,rfl,ru⟩:=Vals.one r
 cases ru
 obtain⟨its,rv,⟨o,e1,e2,n,e3⟩,_⟩:=I.tuple hS
 have hi:=CC rv
 have hlen:its.length<64:=by have:=rv.length;simp at this;omega
 refine My e1 e2 e3 hi hlen fun h' b out ms c hb hg hk hI pm pw=>?_
 have hf:H b=none:=I.hok.none_of hb
 refine⟨.ref b,upd H b (.lst (ms.map V.int)),I.laidF (t':=s.toks) hk hb ⟨?_,out,c,Do hI,hg⟩,rfl,q b ms hf pm pw⟩
 rw[c9,pm.length_eq,jC]
 omega
theorem JD:∀{ns ms:List Int},Md (ns.map V.int) (ms.map V.int)=decide (ns=ms)
 | [],[]=>rfl
 | [],_::_=>rfl
 |_::_,[]=>rfl
 |n::ns,m::ms=>by
  show(UB (V.int n) (V.int m)&&Md (ns.map V.int) (ms.map V.int))=_
  rw[JD (ns:=ns) (ms:=ms)]
  have:UB (V.int n) (V.int m)=(n==m):=rfl
  rw[this]
  by_cases h1:n=m
  ·subst h1
   by_cases h2:ns=ms
   ·subst h2;simp
   ·simp[h2]
  ·simp[h1]
theorem JE{ns:List Int}:(ns.map V.int).all HC=true:=by
 rw[jM]
 intro x hx
 obtain⟨n,_,rfl⟩:=ig.mp hx
 rfl
def fb(K:a8)(g:Bool→Bool):R2:=fun x y H Q=>∃(a b:Addr) (ns ms:List Int),x=.ref a∧y=.ref b∧Cz K H a (ns.map V.int)∧Cz K H b (ms.map V.int)∧Q (.bl (g (decide (ns=ms)))) H
theorem Yb(hu:X.A.units<cLine):CY X (jB .NotEq) (fb X.K (!·)):=by
 intro pins s σ H x y v u Q I rx ry h
 obtain⟨a,b,ns,ms,rfl,rfl,ha,hb,q⟩:=h
 by_cases hl:ns.length=ms.length
 ·refine Xv hu pins s σ H _ _ v u Q I rx ry ⟨a,b,_,_,rfl,rfl,ha,hb,JE,JE,by simpa using hl,?_⟩
  rw[JD];exact q
 ·cases rx;cases ry
  obtain⟨its,r1,p1,z1⟩:=I.list ha
  obtain⟨its2,r2,p2,z2⟩:=I.list hb
  have l1:=r1.length
  have l2:=r2.length
  refine p8.lists_lengths p1.isList p2.isList ?_ hu _ _ _ _ ⟨.bl _,H,I,rfl,?_⟩
  ·simp only[iu,bne_iff_ne,ne_eq]
   simp at l1 l2
   omega
  ·have:decide (ns=ms)=false:=decide_eq_false fun z=>hl (by rw[z])
   rw[this] at q
   exact q
end
end L2
namespace L2.TL
open PySem PySem.Spec PySem.Calls PyProof.Rows
mutual
def dT:T→jz
 | .non=> .none
 | .bl b=> .bool b
 | .int i=> .int i
 | .str x=> .str x
 | .tup ts=> .tuple (dTs ts)
 | .lst ts=> .list (dTs ts)
 | .frz _=> .none
 | .dct=> .none
 | .raw _=> .none
def dTs:List T→List jz
 | []=> []
 |t::ts=>dT t::dTs ts
end
section
variable{K:a8}{O:AJ}{H:Hp}{P:Program}{w:World}{h:Heap}
end
section
variable{X:Cx}
end
theorem GG:∀{ps:List (Int×Int)},kS (dTs (ps.map AE))≤2
 | []=>by decide
 |p::ps=>by
  have ih:=GG (ps:=ps)
  show max (dT (AE p)).depth (kS (dTs (ps.map AE)))≤2
  refine Nat.max_le.mpr ⟨?_,ih⟩
  simp[AE,dT,dTs,jz.depth,kS]
theorem Pp{n:Int}{ps:List (Int×Int)}:(dT (.tup [.int n,.tup (ps.map AE)])).depth≤100:=by
 have h:=GG (ps:=ps)
 simp[dT,dTs,jz.depth,kS]
 omega
theorem Dw{K:a8}{O:AJ}{H:Hp}:∀(ns:List Int),Reps K O H (ns.map V.int) (ns.map T.int)
 | []=> .nil
 |n::ns=> .cons (.int n) (Dw ns)
section
variable{Z:Zx}{ρ:List (Option T)}{O:AJ}{e a b:Expr}{es:List Expr}{Ψ:Es}{Φ:Bf}{pos p:Pos}{t:T}{ts:List T}
theorem Mz{ns:List Int}(m:Z.X.mg "sorted" =none)(h:ET Z ρ O e (.tup (ns.map T.int)))(hl:ns.length<64)(k:∀ms:List Int,ms.Perm ns→ms.Pairwise (·≤·)→Φ (.lst (ms.map T.int)) O)(hg:Gl Z.X "sorted":=by rfl)
  (he:e8 [e] Z.X.env=(false,eval e Z.X.env)::e8 [] Z.X.env:=by rfl):WE Z ρ O (.Call (.Name "sorted" p) [e] [] pos) Φ:=
 Hf KC m Jz (AI h AB he _ (fun H vs Q ok r q=>by
  obtain⟨v,rfl,r1⟩:=r.one_inv
  obtain⟨a,xs,rfl,h1,r1⟩:=r1.tup_inv
  cases r1.ints
  exact⟨a,ns,rfl,.inl (.inl h1),hl,fun p ms hp pm pw=>q _ _ _ O (k ms pm pw) (.new ok hp) (.lst AQ (ok.none_of hp) (Dw ms))⟩)) hg (by decide) (by decide) he
end
section
variable{Z:Zx}{ρ:List (Option T)}{O:AJ}{e:Expr}{es:List Expr}{t:T}{ts us:List T}{Φ:Bf}{Ψ:Es}{pos p2 p3 p4:Pos}{x:Str}
end
section
variable{Z:Zx}{ρ:List (Option T)}{O:AJ}{es:List Expr}{ts:List T}{Ψ:Es}{pos p:Pos}{tg iter:Expr}{body:List Stmt}
structure HWE(Z:Zx)(ρ:List (Option T))(O:AJ)(e:Expr)(Φ:Bf):Prop where
 out:WE Z ρ O e Φ
theorem VC(hp:oG (model Z.X.prog Z.X.w) Z.X.A Z.X.env Z.X.xe)(hc:Z.X.calm=true)(h:HWE Z ρ O iter fun t O'=>∃ts,t=.lst ts∧∃I:Nat→Jw,I 0 ρ O'∧
  (∀i t ρ' O',ts[i]?=some t→I i ρ' O'→∃ρ2,WG Z Z.X.N.length ρ' O' tg t ρ2∧HS Z ρ2 O' body {nx:=I (i+1),rt:=Ψ.rt,bk:=Ψ.nx,ct:=I (i+1)})∧∀ρ' O',I ts.length ρ' O'→Ψ.nx ρ' O')
  (hs:∀x,jX iter Z.X.env x=pure x):WS Z ρ O (.For tg iter body [] pos) Ψ:=
 BI hp hc (OP (Dp h.out (by
  rintro t O' ⟨ts,e,I,i0,st,fin⟩
  refine⟨ts,e,I,i0,fun i t ρ' O' e x=>?_,fin⟩
  obtain⟨ρ2,a,b⟩:=st i t ρ' O' e x
  exact⟨ρ2,a,b.out⟩))) hs
theorem bK{P:Program}{w:World}{K:a8}{mg:Str→Option Value}{base:Heap}{x qual:Str}{st:Stmt}{f:Addr}{fd:iI}{N ps:List Str}{k:Nat}{sp:Sp}(F:Fun K x qual st f fd)(S:FnScope N ps (AA st))(len:∀vs H Q E,sp vs H Q E→vs.length=ps.length)
  (h:∀(cdv:Value) (A:iC) (outer:List Env) (s:a9) (H:Hp) (vs:List V) (Q:VK) (E:XK),Room k (A.deeper (lE qual (AA st) s.heap.objs.size f cdv))→sp vs H Q E→
   ∃ts O Φ Ξ,Reps K O H vs ts∧OwnOk K O H∧(XFly (zB P w K mg base N qual (AA st) f cdv A outer s H E O Ξ).X (zB P w K mg base N qual (AA st) f cdv A outer s H E O Ξ).W→HS (zB P w K mg base N qual (AA st) f cdv A outer s H E O Ξ) (Eh N ts) O (BL st) {nx:=fun _ O'=>Φ .non O',rt:=Φ})∧Acc K O H Φ Q∧∀cls O' H',Ξ cls O'→Frm K O H O' H'→E cls none H'):FnOk P w K mg base (CXe P w) (k+1) f fd ps sp:=by
 refine F.okX S len (fun cdv A outer s H vs Q E hr h1=>?_)
 obtain⟨ts,O,Φ,Ξ,r,ok,q,acc,ex⟩:=h cdv A outer s H vs Q E hr h1
 refine⟨_,(q (XFly.mono Ak.f ?_)).out,⟨LY r,.refl ok⟩,?_⟩
 ·rintro σ cls H' ⟨_,O',x,f⟩
  exact ex cls O' H' x f
 ·exact⟨fun ρ' O' σ' H' p a _=>acc _ _ _ O' p a.fr .non,fun v H' t O' p f r=>acc v H' t O' p f r,fun _ _ _ _ z=>z.elim,fun _ _ _ _ z=>z.elim⟩
end
def Wg:AJ:=fun _=>none
theorem SH{K:a8}{H:Hp}:OwnOk K Wg H:=fun a ts e=>by cases e
theorem Wh{K:a8}{H H':Hp}{O':AJ}{a:Addr}{xs:List V}(k:Kp Wg H O' H')(h:Cz K H a xs):Cz K H' a xs:=by
 rcases h with h|h
 ·refine .inl ?_
  rcases h with h| ⟨o,h⟩
  ·exact .inl (k a _ h rfl).1
  ·exact .inr ⟨o,(k a _ h rfl).1⟩
 ·exact .inr h
section
variable{Z:Zx}{ρ:List (Option T)}{O:AJ}{e lo hi:Expr}{p p2 pos:Pos}{Φ:Bf}
theorem Yc{a:Addr}{ns:List Int}{i j:Int}(ho:Z.Oe=Wg)(hS:Cz Z.K Z.He a (ns.map V.int))(h:ET Z ρ O e (.raw (.ref a)))(h1:ET Z ρ O lo (.int i))(h2:ET Z ρ O hi (.int j))
  (k:∀ms:List Int,ms.length≤ns.length→Φ (.lst (ms.map T.int)) O):WE Z ρ O (.Subscript e (.Slice (some lo) (some hi) none p2) pos) Φ:=by
 refine PE.weak (Er Nu (BW (ρ:=ρ)) (Ep (BW (ρ:=ρ))) (Ep (BW (ρ:=ρ)))) fun σ H0 Q q=>?_
 refine⟨O,_,h (fun t O'=>t=.raw (.ref a)∧O'=O) ⟨rfl,rfl⟩,q.1,?_⟩
 rintro v H1 _ _ ⟨rfl,rfl⟩ f1 r1
 refine⟨_,_,h1 (fun t O'=>t=.int i∧O'=_) ⟨rfl,rfl⟩,q.1.step f1,?_⟩
 rintro v2 H2 _ _ ⟨rfl,rfl⟩ f2 r2
 refine⟨i,r2.int_inv,_,_,h2 (fun t O'=>t=.int j∧O'=_) ⟨rfl,rfl⟩,q.1.step (f1.trans f2),?_⟩
 rintro v3 H3 _ _ ⟨rfl,rfl⟩ f3 r3
 refine⟨j,r3.int_inv,a,ns.map V.int,r1.raw_inv,Wh (ho▸(q.1.step (f1.trans (f2.trans f3))).fr.kp) hS,fun l hl=>?_⟩
 have ff:=f1.trans (f2.trans f3)
 have e:Fb (ns.map V.int) (some i) (some j)=((ns.drop (HT.BV (ns.map V.int).length 0 (some i))).take (HT.BV (ns.map V.int).length (ns.map V.int).length (some j)-HT.BV (ns.map V.int).length 0 (some i))).map V.int:=by
  unfold Fb
  rw[←pJ,←qX]
 rw[e]
 refine q.2 _ _ _ _ (k _ ?_) (ff.trans (.new ff.ok hl)) (.lst AQ (ff.ok.none_of hl) ((Dw _).kp (BN ff.ok hl) ff.ok))
 rw[iH,jx]
 omega
theorem Lc{i:Int}{pos1:Pos}(m:Z.X.mg "list" =none)(m2:Z.X.mg "range" =none)(hc:Z.X.calm=true)(h:ET Z ρ O e (.int i))(h0:0≤i)(h1:i≤1000)
  (hg:Gl Z.X "list":=by rfl) (hg2:Gl Z.X "range":=by rfl) (he:e8 [e] Z.X.env=(false,eval e Z.X.env)::e8 [] Z.X.env:=by rfl) (he2:e8 [rZ (.Name "range" p2) [e] [] pos1] Z.X.env=(false,eval (.Call (.Name "range" p2) [e] [] pos1) Z.X.env)::e8 [] Z.X.env:=by rfl):ET Z ρ O (.Call (.Name "list" p) [.Call (.Name "range" p2) [e] [] pos1] [] pos) (.lst (((iA i.toNat).map fun(i:Nat)=> (i:Int)).map T.int)):=fun Φ q=>by
 refine PE.weak (Bh (Ha hc) hg m LV (Dm (Bh GC hg2 m2 Rv (IR (ρ:=ρ)) (by decide) (by decide) he) FZ he2) (by decide) (by decide) he2) fun σ H Q k=>?_
 refine⟨O,_,AI h AB he (fun ts O'=>ts=[.int i]∧O'=O) ⟨rfl,rfl⟩,k.1,?_⟩
 rintro vs H1 _ _ ⟨rfl,rfl⟩ f r
 obtain⟨v,rfl,r1⟩:=r.one_inv
 cases r1.int_inv
 refine⟨i,rfl,fun p hp=> ⟨p,i,rfl,AQ,h0,h1,fun l hl=>?_⟩⟩
 have f1:=Frm.new (o:=.rng 0 i) f.ok hp
 refine k.2 _ _ _ _ q (f.trans (f1.trans (.new f1.ok hl))) (.lst AQ (f1.ok.none_of hl) ?_)
 rw[i7]
 exact Reps.rngs _
theorem bL{K:a8}{g:Bool→Bool}{ns ms:List Int}:RP K (fb K g) (.lst (ns.map T.int)) (.lst (ms.map T.int)) O (.bl (g (decide (ns=ms)))):=fun Φ p H v w Q ok r1 r2 q=>by
 obtain⟨a,xs,rfl,h1,_,r1⟩:=r1.lst_inv
 obtain⟨b,ys,rfl,h2,_,r2⟩:=r2.lst_inv
 cases r1.ints
 cases r2.ints
 exact⟨a,b,ns,ms,rfl,rfl,.inl (.inl h1),.inl (.inl h2),q _ H _ O p (.refl ok) (.bl _)⟩
end
mutual
def CO:T→Bool
 | .non=>true
 | .bl _=>true
 | .int _=>true
 | .str x=>jz.strOk x
 | .tup ts=>rdBs ts
 | .lst ts=>rdBs ts
 | .frz _=>false
 | .dct=>false
 | .raw _=>false
def rdBs:List T→Bool
 | []=>true
 |t::ts=>CO t&&rdBs ts
end
mutual
theorem DM:∀(t:T),CO t=true→(dT t).canLay0=true
 | .non,_=>rfl
 | .bl _,_=>rfl
 | .int _,_=>rfl
 | .str x,h=>by unfold CO at h;exact h
 | .tup ts,h=>rds_lay ts (by unfold CO at h;exact h)
 | .lst ts,h=>rds_lay ts (by unfold CO at h;exact h)
 | .frz _,h=>by unfold CO at h;cases h
 | .dct,h=>by unfold CO at h;cases h
 | .raw _,h=>by unfold CO at h;cases h
theorem rds_lay:∀(ts:List T),rdBs ts=true→jz.canLayAll0 (dTs ts)=true
 | [],_=>rfl
 |t::ts,h=>by
  unfold rdBs at h
  rw[ko] at h
  show(jz.canLay0 (dT t)&&jz.canLayAll0 (dTs ts))=true
  rw[DM t h.1,rds_lay ts h.2];rfl
end
section
variable{K:a8}{O:AJ}{H:Hp}{P:Program}{w:World}{h:Heap}
mutual
theorem Rep.rd (hok:HOk P w H h):∀{v:V} {t:T} {u:Value},Rep K O H v t→CO t=true→RelV v u→∃as,Reads h u (dT t) as
 |_,_,_,.non,_,r=>by cases r;exact⟨_,.none⟩
 |_,_,_,.bl b,_,r=>by cases r;exact⟨_,.bool b⟩
 |_,_,_,.int i,_,r=>by obtain⟨t,rfl⟩:=r;exact⟨_,.int i t⟩
 |_,_,_,.str x,_,r=>by obtain⟨t,rfl⟩:=r;exact⟨_,.str x t⟩
 |_,_,_,.tup (ts:=ts) e q,g,r=>by
  cases r
  obtain⟨_,its,rv,⟨o,e1,e2,n,e3⟩⟩:=(show ObjOk P w H h _ (.tup _) from hok _ _ e)
  obtain⟨as,ra⟩:=Reps.rd hok q (by unfold CO at g;exact g) rv
  exact⟨_,.tuple (vs:=its.toArray) e1 e2 e3 (by simpa using ra)⟩
 |_,_,_,.lst (ts:=ts) e _ q,g,r=>by
  cases r
  obtain⟨_,its,n,rv,e1⟩:=(show ObjOk P w H h _ (.lst _) from hok _ _ e)
  obtain⟨as,ra⟩:=Reps.rd hok q (by unfold CO at g;exact g) rv
  exact⟨_,.list (vs:=its.toArray) e1 rfl rfl (by simpa using ra)⟩
 |_,_,_,.frz _ _,g,_=>by unfold CO at g;cases g
 |_,_,_,.dct _,g,_=>by unfold CO at g;cases g
 |_,_,_,.raw v,g,_=>by unfold CO at g;cases g
theorem Reps.rd (hok:HOk P w H h):∀{vs:List V} {ts:List T} {us:List Value},Reps K O H vs ts→rdBs ts=true→Vals vs us→∃as,ReadsAll h us (dTs ts) as
 |_,_,_,.nil,_,r=>by cases r;exact⟨_,.nil⟩
 |_,_,_,.cons a b,g,.cons r1 r2=>by
  unfold rdBs at g
  rw[ko] at g
  obtain⟨as,x⟩:=Rep.rd hok a g.1 r1
  obtain⟨bs,y⟩:=Reps.rd hok b g.2 r2
  exact⟨_,.cons x y⟩
end
end
section
variable{X:Cx}
def rD(K:a8)(g:jz→jz→Bool):R2:=fun x y H Q=>∃O t u,Rep K O H x t∧Rep K O H y u∧CO t=true∧CO u=true∧(dT t).depth≤100∧Q (.bl (g (dT t) (dT u))) H
theorem KE(hu:X.A.units+101<cLine):CY X (jB .Eq) (rD X.K fun a b=>kh a b):=by
 intro pins s σ H x y v u Q I rx ry h
 obtain⟨O,t,t',r1,r2,g1,g2,hd,q⟩:=h
 obtain⟨as,ra⟩:=Rep.rd I.hok r1 g1 rx
 obtain⟨bs,rb⟩:=Rep.rd I.hok r2 g2 ry
 exact SeqAt.compareEq_reads ra rb (DM t g1) (DM t' g2) (by omega) ⟨.bl _,H,I,rfl,q⟩
theorem SI(hu:X.A.units+101<cLine):CY X (jB .NotEq) (rD X.K fun a b=>!kh a b):=by
 intro pins s σ H x y v u Q I rx ry h
 obtain⟨O,t,t',r1,r2,g1,g2,hd,q⟩:=h
 obtain⟨as,ra⟩:=Rep.rd I.hok r1 g1 rx
 obtain⟨bs,rb⟩:=Rep.rd I.hok r2 g2 ry
 exact SeqAt.compareNe_reads ra rb (DM t g1) (DM t' g2) (by omega) ⟨.bl _,H,I,rfl,q⟩
def fA(K:a8)(g:Bool→Bool):R2:=fun x y H Q=>∃O t us,Rep K O H x t∧(Rep K O H y (.tup us)∨Rep K O H y (.lst us))∧CO t=true∧rdBs us=true∧(dT t).depth≤100∧Q (.bl (g ((dTs us).any fun y=>kh y (dT t)))) H
theorem Wi(hu:X.A.units+102<cLine):CY X (jB .In) (fA X.K id):=by
 intro pins s σ H x y v u Q I rx ry h
 obtain⟨O,t,us,r1,r2,g1,g2,hd,q⟩:=h
 obtain⟨as,ra⟩:=Rep.rd I.hok r1 g1 rx
 rcases r2 with r2|r2
 ·obtain⟨bs,rb⟩:=Rep.rd I.hok r2 (by unfold CO;exact g2) ry
  exact SeqAt.in_tuple_reads rb ra (rds_lay us g2) (DM t g1) (by omega) ⟨.bl _,H,I,rfl,q⟩
 ·obtain⟨bs,rb⟩:=Rep.rd I.hok r2 (by unfold CO;exact g2) ry
  exact SeqAt.in_list_reads rb ra (rds_lay us g2) (DM t g1) (by omega) ⟨.bl _,H,I,rfl,q⟩
theorem SJ(hu:X.A.units+102<cLine):CY X (jB .NotIn) (fA X.K (!·)):=by
 intro pins s σ H x y v u Q I rx ry h
 obtain⟨O,t,us,r1,r2,g1,g2,hd,q⟩:=h
 obtain⟨as,ra⟩:=Rep.rd I.hok r1 g1 rx
 rcases r2 with r2|r2
 ·obtain⟨bs,rb⟩:=Rep.rd I.hok r2 (by unfold CO;exact g2) ry
  exact SeqAt.notIn_tuple_reads rb ra (rds_lay us g2) (DM t g1) (by omega) ⟨.bl _,H,I,rfl,q⟩
 ·obtain⟨bs,rb⟩:=Rep.rd I.hok r2 (by unfold CO;exact g2) ry
  exact SeqAt.notIn_list_reads rb ra (rds_lay us g2) (DM t g1) (by omega) ⟨.bl _,H,I,rfl,q⟩
end
section
variable{K:a8}{O:AJ}{t u:T}{us:List T}
theorem Pq{g:jz→jz→Bool}(h1:CO t=true)(h2:CO u=true)(hd:(dT t).depth≤100):RP K (rD K g) t u O (.bl (g (dT t) (dT u))):=fun Φ p H v w Q ok r1 r2 q=>
 ⟨O,t,u,r1,r2,h1,h2,hd,q _ H _ O p (.refl ok) (.bl _)⟩
theorem KG{g:Bool→Bool}(h1:CO t=true)(h2:rdBs us=true)(hd:(dT t).depth≤100):RP K (fA K g) t (.tup us) O (.bl (g ((dTs us).any fun y=>kh y (dT t)))):=fun Φ p H v w Q ok r1 r2 q=>
 ⟨O,t,us,r1,.inl r2,h1,h2,hd,q _ H _ O p (.refl ok) (.bl _)⟩
end
theorem OW(p:Int×Int):CO (AE p)=true:=by simp[AE,CO,rdBs]
theorem Hn:∀{ps:List (Int×Int)},rdBs (ps.map AE)=true
 | []=>rfl
 |p::ps=>by
  show(CO (AE p)&&rdBs (ps.map AE))=true
  rw[OW,Hn];rfl
theorem NA(p:Int×Int):(dT (AE p)).depth≤100:=by simp[AE,dT,dTs,jz.depth,kS]
theorem Ld(p q:Int×Int):kh (dT (AE p)) (dT (AE q))=decide (p=q):=by
 show((p.1==q.1)&&((p.2==q.2)&&true))=decide (p=q)
 rw[jW]
 simp only[Bool.and_true,ko,beq_iff_eq,decide_eq_true_eq]
 exact⟨fun h=>kb h.1 h.2,fun h=>by rw[h];exact⟨rfl,rfl⟩⟩
theorem JF{q:Int×Int}:∀{ps:List (Int×Int)},((dTs (ps.map AE)).any fun y=>kh y (dT (AE q)))=decide (q∈ps)
 | []=>by simp[dTs]
 |p::ps=>by
  show(kh (dT (AE p)) (dT (AE q))|| (dTs (ps.map AE)).any fun y=>kh y (dT (AE q)))=_
  rw[Ld,JF,jW,Bool.or_eq_true,decide_eq_true_eq,decide_eq_true_eq,decide_eq_true_eq,ic]
  exact⟨fun h=>h.elim (fun e=> .inl e.symm) .inr,fun h=>h.elim (fun e=> .inl e.symm) .inr⟩
theorem JG:∀{ps qs:List (Int×Int)},mE (dTs (ps.map AE)) (dTs (qs.map AE))=decide (ps=qs)
 | [],[]=>rfl
 | [],_::_=>rfl
 |_::_,[]=>rfl
 |p::ps,q::qs=>by
  show(kh (dT (AE p)) (dT (AE q))&&mE (dTs (ps.map AE)) (dTs (qs.map AE)))=_
  rw[Ld,JG,jW,ko,decide_eq_true_eq,decide_eq_true_eq,decide_eq_true_eq]
  exact⟨fun h=>by rw[h.1,h.2],fun h=>by injection h with a b;exact⟨a,b⟩⟩
abbrev Ar(n:Int)(ps:List (Int×Int)):T:=.tup [.int n,.tup (ps.map AE)]
theorem Yd{n:Int}{ps:List (Int×Int)}:CO (Ar n ps)=true:=by
 show rdBs [.int n,.tup (ps.map AE)]=true
 show(true&&(rdBs (ps.map AE)&&true))=true
 rw[Hn];rfl
theorem VD{n m:Int}{ps qs:List (Int×Int)}:kh (dT (Ar n ps)) (dT (Ar m qs))=(decide (n=m)&&decide (ps=qs)):=by
 show((n==m)&&(mE (dTs (ps.map AE)) (dTs (qs.map AE))&&true))=_
 rw[JG,Bool.and_true]
 rfl
end L2.TL
namespace L2
open PySem PySem.Spec PySem.Calls PyProof.Rows
section
variable{X:Cx}
def Zr(ns:List Int):Nat:=(rB (fun i=>ns.getD i 0) ns.length).length
theorem Le:BB X (.builtin "len") (fun xs H Q=>∃(a:Addr) (S:Int→Bool) (n:Nat),xs=[.ref a]∧H a=some (.set S n)∧Q (.int n) H):=by
 intro pins s σ H xs us Q I r h
 obtain⟨a,S,n,rfl,hS,q⟩:=h
 obtain⟨u,rfl,ru⟩:=Vals.one r
 cases ru
 obtain⟨o,es,ep,t,h1,h2,h3,h4,h5,h6,h7,h8⟩:=(show ObjOk X.prog X.w H s.heap a (.set S n) from I.hok a _ hS)
 refine PySem.call_len_set h1 h2 h3 h7 (by unfold rT at h6;omega) ?_
 rw[h8]
 exact⟨.int n,H,I.tok _,⟨_,rfl⟩,q⟩
variable{e:Expr}{te:TE}{p2 p3 p4 pos:Pos}
end
end L2
namespace L2.TL
open PySem PySem.Spec PySem.Calls PyProof.Rows
section
variable{Z:Zx}{ρ:List (Option T)}{O:AJ}{e a b:Expr}{es:List Expr}{Ψ:Es}{Φ:Bf}{pos p p1 pos1 p2 p3 p4:Pos}{t ta tb:T}{ts us:List T}{x:Str}
def CU:T→Bool
 | .non=>true
 |_=>false
theorem Ei{j:Nat}(hr:Cr t=false)(ha:ET Z ρ O a t):EB Z ρ O (.Compare a [.Is] [.Constant .none j p1] pos) (CU t):=Bc Qc (Ai _) (fun Φ p H v w Q ok r1 r2 q=>by
 refine⟨r2.non_inv,?_⟩
 have e:decide (v=V.non)=CU t:=by
  cases r1<;>first|rfl|cases hr
 rw[e]
 exact q _ H _ O p (.refl ok) (.bl _)) ha DG
end
section
variable{Z:Zx}{ρ:List (Option T)}{O O1 O2:AJ}{c:Expr}{body ss:List Stmt}{Ψ:Es}{pos:Pos}
def fB(Z:Zx)(e:Expr):TT:=fun σ H Q=>∃ρ O Φ,WT Z ρ O e Φ∧Zq Z ρ O Φ σ H Q
theorem bM{e:Expr}:PT Z.X e (fB Z e):=fun pins s σ H Q I ⟨_,_,_,w,q⟩=>w pins s σ H Q I q
theorem SK(hp:oG (model Z.X.prog Z.X.w) Z.X.A Z.X.env Z.X.xe)(I:Nat→Jw)(i0:∃m,I m ρ O)
  (step:∀m ρ' O',I m ρ' O'→WT Z ρ' O' c fun b O1=>if b=true then Hg Z ρ' O1 body {nx:=fun ρ2 O2=>∃m',m'<m∧I m' ρ2 O2,rt:=Ψ.rt,bk:=Ψ.nx,ct:=fun ρ2 O2=>∃m',m'<m∧I m' ρ2 O2} else Ψ.nx ρ' O1):WS Z ρ O (.While c body [] pos) Ψ:=by
 refine PS.weak (QW hp bM LR) fun D σ H q=>?_
 obtain⟨m0,i0⟩:=i0
 refine⟨fun m σ' H'=>∃ρ' O',I m ρ' O'∧Asr Z ρ' O' σ' H'∧Kp O H O' H',⟨m0,ρ,O,i0,q.1,.refl⟩,?_⟩
 rintro m σ1 H1 ⟨ρ1,O1,i1,a1,k1⟩
 refine⟨ρ1,O1,_,step m ρ1 O1 i1,a1,fun b H2 O2 p f=>?_⟩
 have kk:=k1.trans f.kp
 cases b with
 |true=>
  rw[if_pos rfl] at p
  show if true=true then _ else _
  rw[if_pos rfl]
  refine⟨fun σ2 H3=>∃ρ2 O3,(∃m',m'<m∧I m' ρ2 O3)∧Asr Z ρ2 O3 σ2 H3∧Kp O H O3 H3,?_,ρ1,O2,_,p,a1.step f,?_⟩
  ·rintro σ2 H3 ⟨ρ2,O3,⟨m',hm,i2⟩,a2,k2⟩
   exact⟨m',hm,ρ2,O3,i2,a2,k2⟩
  ·exact⟨fun ρ' O' σ' H' w a k=> ⟨ρ',O',w,a,kk.trans k⟩,q.2.rt,fun ρ' O' σ' H' w a k=>q.2.nx ρ' O' σ' H' w a (kk.trans k),fun ρ' O' σ' H' w a k=> ⟨ρ',O',w,a,kk.trans k⟩⟩
 |false=>
  rw[if_neg gx] at p
  show if false=true then _ else _
  rw[if_neg gx]
  exact q.2.nx ρ1 O2 σ1 H2 p (a1.step f) kk
theorem VE(hk:∀H,OwnOk Z.K O1 H→Kp O1 H O2 H∧OwnOk Z.K O2 H)(hf:∀b us vs,Z.Oe b=some us→O1 b=some vs→∃us',O2 b=some us')(h:Hg Z ρ O2 ss Ψ):Hg Z ρ O1 ss Ψ:=PSs.weak h fun D σ H q=>by
 obtain⟨k,ok⟩:=hk H q.1.ok
 exact⟨⟨q.1.rl.kp k q.1.ok,⟨q.1.fr.kp.trans k,fun b us e=>by
  obtain⟨vs,e'⟩:=q.1.fr.own b us e
  exact hf b us vs e e',ok⟩⟩,q.2.step k⟩
end
section
variable{O:AJ}{rs:List (Addr×List T)}{r:Addr×List T}{p q l:Addr}{us vs:List T}
def Kj(O:AJ)(rs:List (Addr×List T)):AJ:=rs.foldl (fun O r=>Ad O r.1 r.2) O
theorem Br:Kj O (r::rs)=Kj (Ad O r.1 r.2) rs:=rfl
theorem SL:Kj O (rs++[r])=Ad (Kj O rs) r.1 r.2:=by unfold Kj;rw[pf];rfl
theorem Dx(h:∀r∈rs,r.1≠p):Kj O rs p=O p:=by
 induction rs generalizing O with
 |nil=>rfl
 |cons r rs ih=>
  rw[Br,ih fun s hs=>h s (iy _ hs),AV (fun z=>h r (iV ..) z.symm)]
theorem SM(h:∀r∈rs,r.1≠p):Ad (Kj O rs) p vs=Kj (Ad O p vs) rs:=by
 induction rs generalizing O with
 |nil=>rfl
 |cons r rs ih=>
  rw[Br,ih fun s hs=>h s (iy _ hs),Br,Bd (h r (iV ..))]
theorem Ej(hn:(rs.map kI).Nodup)(h:r∈rs):Kj O rs r.1=some r.2:=by
 induction rs generalizing O with
 |nil=>cases h
 |cons s rs ih=>
  rw[iN,iT] at hn
  rw[Br]
  rcases ic.mp h with rfl|h
  ·rw[Dx fun s hs z=>hn.1 (ig.mpr ⟨s,hs,z⟩),AF]
  ·exact ih hn.2 h
theorem VF{i:Nat}(hn:(rs.map kI).Nodup)(h:rs[i]?=some (p,us)):Ad (Kj O rs) p vs=Kj O (rs.set i (p,vs)):=by
 induction rs generalizing O i with
 |nil=>simp at h
 |cons s rs ih=>
  rw[iN,iT] at hn
  cases i with
  |zero=>
   simp at h
   subst h
   rw[List.set_cons_zero,Br,Br,SM fun s hs z=>hn.1 (ig.mpr ⟨s,hs,z⟩),Av]
  |succ i=>
   rw[List.set_cons_succ,Br,Br]
   exact ih hn.2 (by simpa using h)
theorem VG{i:Nat}(h:rs[i]?=some (p,us)):(rs.set i (p,vs)).map kI=rs.map kI:=by
 rw[p9]
 apply jy
 intro m
 by_cases hm:i=m
 ·subst hm
  have hl:=(ie.mp h).1
  rw[jb (by simpa using hl),e7,h];rfl
 ·rw[i6 hm]
def IS(r:Addr×List T):T:=.raw (.ref r.1)
theorem Lf{K:a8}{H:Hp}{O:AJ}:∀{rs:List (Addr×List T)} {xs:List V},Reps K O H xs (rs.map IS)→xs=rs.map fun r=>V.ref r.1
 | [],_,h=>h.nil_inv
 |r::rs,_,h=>by
  obtain⟨v,vs',rfl,h1,h2⟩:=h.cons_inv
  cases h1.raw_inv
  rw[Lf h2];rfl
theorem Lg{K:a8}{H:Hp}{O:AJ}:∀{rs:List (Addr×List T)},(∀r∈rs,Rep K O H (.ref r.1) (.lst r.2))→Reps K O H (rs.map fun r=>V.ref r.1) (rs.map fun r=>T.lst r.2)
 | [],_=> .nil
 |r::rs,h=> .cons (h r (iV ..)) (Lg fun s hs=>h s (iy _ hs))
theorem SN{Z:Zx}{ρ:List (Option T)}{ss:List Stmt}{Ψ:Es}(hn:(rs.map kI).Nodup)(hl:∀r∈rs,r.1≠l)(ho:∀r∈rs,O r.1=none)(he:∀r∈rs,Z.Oe r.1=none)
  (h:Hg Z ρ (Ad O l (rs.map fun r=>T.lst r.2)) ss Ψ):Hg Z ρ (Ad (Kj O rs) l (rs.map IS)) ss Ψ:=by
 refine VE (fun H ok=>?_) (fun b us vs e1 e2=>?_) h
 ·have k:Kp (Ad (Kj O rs) l (rs.map IS)) H (Ad O l (rs.map fun r=>T.lst r.2)) H:=fun b o hb n=> ⟨hb,by
   by_cases h1:b=l
   ·rw[h1,AF] at n;cases n
   ·rw[AV h1] at n ⊢
    by_cases h2:∃r∈rs,r.1=b
    ·obtain⟨r,hr,rfl⟩:=h2
     exact ho r hr
    ·rw[Dx fun r hr z=>h2 ⟨r,hr,z⟩] at n
     exact n⟩
  refine⟨k,fun a ts e=>?_⟩
  by_cases h1:a=l
  ·subst h1
   rw[AF] at e
   cases e
   obtain⟨xs,hx,rx⟩:=ok a _ AF
   have:=Lf rx
   subst this
   refine⟨_,hx,Lg fun r hr=>?_⟩
   obtain⟨ys,hy,ry⟩:=ok r.1 r.2 (by rw[AV (hl r hr)];exact Ej hn hr)
   exact .lst hy (by rw[AV (hl r hr)];exact ho r hr) (ry.kp k ok)
  ·rw[AV h1] at e
   have hz:∀r∈rs,r.1≠a:=fun r hr z=>by rw[←z,ho r hr] at e;cases e
   obtain⟨xs,hx,rx⟩:=ok a ts (by rw[AV h1,Dx hz];exact e)
   exact⟨xs,hx,rx.kp k ok⟩
 ·by_cases h1:b=l
  ·rw[h1];exact⟨_,AF⟩
  ·rw[AV h1] at e2 ⊢
   by_cases h2:∃r∈rs,r.1=b
   ·obtain⟨r,hr,rfl⟩:=h2
    rw[he r hr] at e1;cases e1
   ·rw[Dx fun r hr z=>h2 ⟨r,hr,z⟩] at e2
    exact⟨_,e2⟩
end
theorem JH{Z:Zx}{ρ:List (Option T)}{O:AJ}{elt tg iter:Expr}{ifs:List Expr}{csc:Scope}{nc:List Str}{cap:List (Str×Nat)}{pos:Pos}{i:Nat}{x:Str}{px spos:Pos}{Ψ:Es}(hsw:nO (.ListComp elt [⟨tg,iter,ifs,0⟩] csc pos) (some (.Name x px)) spos.line Z.X.env=pure true)(hN:Z.X.N.Nodup)(hc:Z.X.calm=true)(ok:LcOk Z.X csc nc cap)
  (h:WI Z ρ O tg iter (Ut Z ρ elt tg ifs csc nc cap fun acc O'=>∀a,O' a=none→Ψ.nx (ρ.set i (some (.raw (.ref a)))) (Ad O' a acc))) (hx:Z.X.N[i]?=some x:=by rfl) (hk:Z.X.env.scope.names.lookup x=some .local:=by rfl)
  (hs:∀x,jX iter Z.X.env x=pure x:=by intro _;rfl):WS Z ρ O (.Assign [.Name x px] (.ListComp elt [⟨tg,iter,ifs,0⟩] csc pos) spos) Ψ:=
 PS.weak (Kv hN hx hk hsw hc ok h Ur OQ Us hs) fun D σ H q=>Rt q.1 h fun acc O' p H' p1 n f nb=>q.2.nx _ _ _ H' (p1 p n) ⟨(q.1.step f).rl.set (.raw _),(q.1.step f).fr⟩ f.kp
end L2.TL
namespace Gr
local macro_rules | `(tactic| omega) => `(tactic| first | lia | omega)
open L2.TL
variable{ps:List (Int×Int)}{n:Int}{S:List Int}{v u:Int}{d e s k:Nat}{fs gs:List (Option Nat)}{BS ds:List Int}
def Adj(ps:List (Int×Int))(u v:Int):Prop:=(u,v)∈ps∨(v,u)∈ps
theorem Adj.symm(h:Adj ps u v):Adj ps v u:=Or.symm h
inductive W(ps:List (Int×Int))(S:List Int):Nat→Int→Prop
 |at{v:Int}:v∈S→W ps S 0 v
 |go {k:Nat} {u v:Int}:W ps S k u→Adj ps u v→W ps S (k+1) v
def IsD(ps:List (Int×Int))(S:List Int)(v:Int)(d:Nat):Prop:=W ps S d v∧∀j,j<d→¬W ps S j v
theorem W.least(h:W ps S k v):∃d,d≤k∧IsD ps S v d:=by
 induction k using qh with
 |_ k ih=>
  by_cases hx:∃j,j<k∧W ps S j v
  ·obtain⟨j,hj,w⟩:=hx
   obtain⟨d,hd,i⟩:=ih j hj w
   exact⟨d,by omega,i⟩
  ·exact⟨k,hC _,h,fun j hj w=>hx ⟨j,hj,w⟩⟩
def GH(n:Int)(ps:List (Int×Int)):Prop:=∀p∈ps,0≤p.1∧p.1<p.2∧p.2<n
theorem Adj.inb(hw:GH n ps)(h:Adj ps u v):0≤v∧v<n∧u≠v:=by
 rcases h with h|h
 ·have:=hw _ h
  simp only at this
  omega
 ·have:=hw _ h
  simp only at this
  omega
structure All(n:Int)(ps:List (Int×Int))(S:List Int)(fs:List (Option Nat)):Prop where
 len:(fs.length:Int)=n
 eq:∀v:Int,0≤v→v<n→∀d,fs[v.toNat]?=some (some d)↔IsD ps S v d
theorem All.uniq(a:All n ps S fs)(b:All n ps S gs):fs=gs:=by
 have l1:=a.len
 have l2:=b.len
 apply jy
 intro i
 by_cases hi:i<fs.length
 ·have hg:i<gs.length:=by omega
  have e:=a.eq i (by omega) (by omega)
  have f:=b.eq i (by omega) (by omega)
  rw[iS,b6 hi] at e
  rw[iS,b6 hg] at f
  rw[b6 hi,b6 hg]
  cases x:fs[i] with
  |some d=>
   rw[x] at e
   exact((f d).mpr ((e d).mp rfl)).symm
  |none=>
   cases y:gs[i] with
   |none=>rfl
   |some d=>
    rw[y] at f
    rw[x] at e
    have:=(e d).mpr ((f d).mp rfl)
    cases this
 ·rw[jh (by omega),jh (by omega)]
theorem Ek{L:List Int}(h:L.Nodup)(hb:∀z∈L,0≤z∧z<n):L.length≤n.toNat:=by
 have key:∀L:List Int,L.Nodup→(∀z∈L,0≤z∧z<n)→(L.map Int.toNat).Nodup:=by
  intro L
  induction L with
  |nil=>intro _ _;simp
  |cons a L ih=>
   intro h hb
   rw[iT] at h
   rw[iN,iT]
   refine⟨fun hm=>?_,ih h.2 fun z hz=>hb z (iy _ hz)⟩
   obtain⟨z,hz,e⟩:=ig.mp hm
   have h1:=hb z (iy _ hz)
   have h2:=hb a (iV ..)
   have:z=a:=by omega
   subst this
   exact h.1 hz
 have:=StT.Cm n.toNat (L.map Int.toNat) (key L h hb) (fun x hx=>by
  obtain⟨z,hz,rfl⟩:=ig.mp hx
  have:=hb z hz
  omega)
 rw[c9] at this
 exact this
def Rc(ps:List (Int×Int))(p v:Int):Prop:=∃k,W ps [p] k v
theorem W.cons{p q:Int}(a:Adj ps p q)(h:W ps [q] k v):W ps [p] (k+1) v:=by
 induction h with
 |«at» h=>rw[e9.mp h];exact .go (.at (by simp)) a
 |go _ b ih=>exact .go ih b
theorem Rc.refl:Rc ps v v:=⟨0,.at (by simp)⟩
theorem Rc.trans{p:Int}(a:Rc ps p u)(b:Rc ps u v):Rc ps p v:=by
 obtain⟨j,b⟩:=b
 induction b with
 |«at» h=>rw[e9.mp h];exact a
 |go _ c ih=>
  obtain⟨k,w⟩:=ih
  exact⟨k+1,.go w c⟩
theorem Rc.symm(a:Rc ps u v):Rc ps v u:=by
 obtain⟨k,a⟩:=a
 induction a with
 |«at» h=>rw[e9.mp h];exact .refl
 |go _ c ih=>
  obtain⟨k,w⟩:=ih
  exact⟨k+1,w.cons c.symm⟩
theorem All.rc{p:Int}(a:All n ps [p] fs)(v0:0≤v)(v1:v<n):(∃d,fs[v.toNat]?=some (some d))↔Rc ps p v:=by
 constructor
 ·rintro⟨d,h⟩
  exact⟨d,((a.eq v v0 v1 d).mp h).1⟩
 ·rintro⟨k,w⟩
  obtain⟨d,_,i⟩:=w.least
  exact⟨d,(a.eq v v0 v1 d).mpr i⟩
end Gr
namespace L2.TL
open PySem PySem.Spec PyProof.Rows
section
variable{X:Cx}
theorem Lh{v:V}{u:Value}(h:RelV v u):∀n,Vals (iQ n v) (iQ n u)
 |0=> .nil
 |n+1=> .cons h (Lh h n)
theorem Li{u:Value}:∀(n:Nat) (acc:Array Value),rq (fun x1 x2=>x1++x2) acc (iQ n [u].toArray)=acc++(iQ n u).toArray
 |0,acc=>by simp
 |n+1,acc=>by
  rw[List.replicate_succ,qk,Li n]
  rw[List.replicate_succ]
  apply mP
  simp
def bN(K:a8):R2:=fun x y H Q=>∃(a:Addr) (i:Int) (v:V),x=.ref a∧y=.int i∧Cz K H a [v]∧(0≤i∧i≤1000)∧∀p,H p=none→Q (.ref p) (upd H p (.lst (iQ i.toNat v)))
theorem VH:CY X (lP .Mult) (bN X.K):=by
 intro pins s σ H x y v u Q I rx ry h
 obtain⟨a,i,e,rfl,rfl,ha,hi,q⟩:=h
 cases rx
 obtain⟨tk,rfl⟩:=ry
 obtain⟨its,rv,p,_⟩:=I.list ha
 obtain⟨⟨cls,d,data,sl⟩,k,ho,hc,hdd,hd⟩:=id p
 simp only at hc hd
 subst hc hd
 obtain⟨u1,rfl,ru⟩:=Vals.one rv
 have hf:=I.hok.fresh (hC s.heap.objs.size)
 refine wpAny_binaryOp_repeat_ref (T:="list") (U:="int") (by decide) ⟨_,ho,rfl⟩ (fun s'=>typeIs_int s' i tk) noFill_list_mul F.fills_int_mul F.slot_int_rmul repeat_list F.slot_int_index.lookup
  (rf F.slot_int_rmul (typeIs_int s i tk) F.entry_int_rmul (F.args_int_rmul_2 _ _) (lm_int_rmul_list_any i tk a [u1].toArray k d sl)
   ⟨ho,rfl,⟨_,ho,rfl⟩,rf F.slot_list_mul ⟨_,ho,rfl⟩ F.entry_list_mul (F.args_list_mul_2 _ _)
    (lm_list_mul_any a [u1].toArray k d sl i tk (by simp[Builtin.List.listFitsIndex];omega) (by simp;omega) (by simp[Builtin.List.listTooLong,sizeLine];omega)) ⟨ho,?_⟩⟩)
 have ef:rq (fun x1 x2=>x1++x2) #[] (iQ (if[u1].toArray.isEmpty=true then 0 else i.toNat) [u1].toArray)=(iQ i.toNat u1).toArray:=by
  show rq (fun x1 x2=>x1++x2) #[] (iQ i.toNat [u1].toArray)=_
  rw[Li]
  simp
 rw[ef]
 exact⟨.ref _,_,I.laid (t':=s.toks) (o:=.lst (iQ i.toNat e)) (fun b ob q=>e6 _ q) (hC _) ⟨by rw[kB,jC];omega,iQ i.toNat u1,0,Lh ru _,iz _ rfl⟩,rfl,q _ hf⟩
end
section
variable{Z:Zx}{ρ:List (Option T)}{O:AJ}{a b:Expr}{t:T}{Φ:Bf}{pos:Pos}{i:Int}
theorem Rep.repl{K:a8}{O:AJ}{H:Hp}{v:V}{t:T}(h:Rep K O H v t):∀n,Reps K O H (iQ n v) (iQ n t)
 |0=> .nil
 |n+1=> .cons h (Rep.repl h n)
end
section
variable{Z:Zx}{ρ:List (Option T)}{O:AJ}{body:List Stmt}{Ψ:Es}{pos:Pos}
end
end L2.TL
namespace L2
open PySem PySem.Spec PyProof.Rows
def fD(K:a8)(a:Addr):It:=⟨fun i H=>∃xs x,Cz K H a xs∧xs[i]?=some x,
 fun i H v H'=>∃p x,H p=none∧v=.ref p∧H'=upd H p (.tup [.int i,x])∧∀xs,Cz K H a xs→xs[i]?=some x,fun i H=>∃xs,Cz K H a xs∧xs.length≤i⟩
section
variable{X:Cx}
theorem Pt{P:Program}{w:World}{K:a8}{es:List Expr}{k:Nat}{pos:Pos}{e it a:Addr}(hne:e≠it):
  Turn P w K (.Tuple es k pos) (fD K a) [e,it] e (fun i h=> (∃old,IsEnum h e it (i:Int) old)∧h.IsListIter it a i) where
 mem:=by simp
 obj:=fun i h st b hb=>by
  obtain⟨⟨old,s1⟩,⟨o2,e2,c2,d2⟩⟩:=st
  simp only[ic,i9,or_false] at hb
  rcases hb with rfl|rfl
  ·exact⟨_,s1,fun v q=>by have q:sf _=qO v:=q;cases q⟩
  ·exact⟨o2,e2,fun v q=>by rw[d2] at q;cases q⟩
 keep:=fun i h h' st kk=>by
  obtain⟨⟨old,s1⟩,s2⟩:=st
  exact⟨⟨old,kk e (by simp) _ s1⟩,s2.at fun o q=>kk it (by simp) o q⟩
 item:=by
  intro X hP hw hK hc i pins s σ H E I hf st hg
  subst hP hw hK
  obtain⟨xs,x,hq,hx⟩:=hg
  obtain⟨its,rv,p,hz⟩:=I.list hq
  obtain⟨u,hu,ru⟩:=rv.get hx
  obtain⟨⟨old,s1⟩,s2⟩:=st
  refine wpAny_pyNext_enum_item s1 s2 p.isList (x:=u) (by simpa using hu) hne fun h1 z1 a1 n1 sz1 k1=>?_
  refine⟨_,rfl,wpAny_letOwnedTupleGo_enum (s:={s with heap:=h1,toks:=s.toks+1}) z1 fun h2 z2 sb2=>?_⟩
  have hlt:∀v o,s.heap.get? v=some o→v≠s.heap.objs.size:=fun v o q=>iL (ip q)
  have zs:e≠s.heap.objs.size:=hlt e _ s1
  have up2:∀v o,v≠e→h1.get? v=some o→h2.get? v=some o:=fun v o hv q=> (sb2.2 v hv).trans q
  have hT:H s.heap.objs.size=none:=I.hok.fresh (hC _)
  have kk:∀v o,v∉[e,it]→s.heap.get? v=some o→h2.get? v=some o:=fun v o hv q=>by
   simp only[ic,i9,or_false,not_or] at hv
   exact up2 v o hv.1 (k1 v o hv.1 hv.2 q)
  have I1:Inv X pins σ (upd H s.heap.objs.size (.tup [.int i,x])) {s with heap:=h2,toks:=s.toks+1}:=by
   have ne:∀v o,s.heap.get? v=some o→upd H s.heap.objs.size (.tup [.int i,x]) v=H v:=fun v o q=>AO (hlt v o q)
   refine I.call' (s':={s with heap:=h2,toks:=s.toks+1}) (ch:=[e,it]) rfl ⟨fun v o q _ _ hv=>kk v o hv q,fun v o q _ _ hv=> ⟨o.slots,kk v o hv q⟩,fun v o q n _=>by rw[ne v o q];exact n,fun v o q hv=> ⟨o,kk v o hv q⟩,fun v xs q=>?_,fun v o xs q=>?_,fun v ps q=>?_⟩ ?_ I.bare fun v hv=>?_
   ·rw[AO (AK q hT)];exact q
   ·rw[AO (AK q hT)];exact q
   ·exact⟨#[],by rw[AO (AK q hT),q];simp⟩
   ·intro v o q
    by_cases hv:v=s.heap.objs.size
    ·subst hv
     rw[AQ] at q;cases q
     exact⟨by show 2≤sizeLine;decide,[.int i s.toks,u],.cons ⟨_,rfl⟩ (.cons ru .nil),⟨_,up2 _ _ (Ne.symm zs) n1,rfl,_,rfl⟩⟩
    ·rw[AO hv] at q
     refine(I.hok v o q).stay (fun c w' hc' r=>kk c w' (fun hm=>?_) r) (fun c r=>by rw[AO (AK r hT)];exact r) fun c xs r=>by rw[AO (AK r hT)];exact r
     have hn:=(hf c hm).1
     rcases hc' with rfl|hc'
     ·rw[q] at hn;cases hn
     ·rw[hc'] at hn;cases hn
   ·obtain⟨_,q2,q3,q4,q5,q6⟩:=hf v hv
    exact⟨q4,q2,q5,q6⟩
  refine⟨.ref s.heap.objs.size,_,I1,rfl,⟨_,x,hT,rfl,rfl,fun xs' q=>by rw[I.list_inj q hq];exact hx⟩,⟨⟨_,z2⟩,a1.at fun o q=>up2 it o (Ne.symm hne) q⟩,fun v hv=>?_⟩
  have hvo:∃o,s.heap.get? v=some o:=by
   simp only[ic,i9,or_false] at hv
   rcases hv with rfl|rfl
   ·exact⟨_,s1⟩
   ·obtain⟨o,q,_⟩:=s2;exact⟨o,q⟩
  obtain⟨o,q⟩:=hvo
  rw[AO (hlt v o q)]
  exact(hf v hv).1
 done:=by
  intro X hP hw hK hc i pins s σ H E I hf st hg
  subst hP hw hK
  obtain⟨xs,hq,hl⟩:=hg
  obtain⟨its,rv,p,hz⟩:=I.list hq
  have l1:=rv.length
  obtain⟨⟨old,s1⟩,s2⟩:=st
  refine wpAny_pyNext_enum_end (I.ok.hd hc) s1 s2 p.isList (by simp;omega) fun h' k1=> ⟨rfl,I.turns (t':=s.toks) hf fun v o hv q=>?_⟩
  simp only[ic,i9,or_false,not_or] at hv
  exact k1 v o hv.2 q
 self:=fun _ _ _ _ _ st h=>by obtain⟨⟨old,s1⟩,_⟩:=st;exact wpAny_pyIter_enum s1 h
theorem Pu:i5 "enumerate" =some (.type "enumerate"):=by decide+kernel
def bO(K:a8)(ta:TA):TI:=fun σ H R=>ta σ H fun vs H1=>∃t,vs=[.ref t]∧(∃xs,Cz K H1 t xs)∧R (fD K t) H1
theorem VI{a:Expr}{ta:TA}{p pos tpos:Pos}{es:List Expr}{k:Nat}(hg:Gl X "enumerate")(hm:X.mg "enumerate" =none)(ha:PA X [a] ta)(hs:e8 [a] X.env=[(false,eval a X.env)]:=by rfl):
  PI X (.Tuple es k tpos) (.Call (.Name "enumerate" p) [a] [] pos) (bO X.K ta):=by
 intro pins s σ H R I h
 refine Call_ (DV I hg hm Pu (kM (Aw (ha pos pins s σ H _ I h) fun us s1 ⟨vs,H1,I1,r1,q1⟩=>?_) (by rw[hs];rfl) rfl))
 obtain⟨t,rfl,⟨xs,h1⟩,q⟩:=q1
 obtain⟨v1,rfl,e1⟩:=Cj r1
 cases e1
 obtain⟨its,rv,p1,_⟩:=I1.list h1
 refine call_enumerate_list p1.isList fun h' z1 z2 hsz kp=>?_
 refine wpAny_pyIter_enum z1 ?_
 refine⟨_,_,_,_,H1,rfl,I1.kept (t':=s1.toks) kp,Pt (Nat.succ_ne_self _),⟨⟨_,z1⟩,z2⟩,fun b hb=>?_,q⟩
 have hge:s1.heap.objs.size≤b:=by
  simp only[ic,i9,or_false] at hb
  rcases hb with rfl|rfl<;>omega
 exact I1.fpOk hge (I1.hok.fresh hge)
end
end L2
namespace L2.TL
open PySem PySem.Spec PyProof.Rows
section
variable{Z:Zx}{ρ:List (Option T)}{O:AJ}{a:Expr}{ts:List T}{p pos:Pos}
def GI(ts:List T):List T:=ts.zipIdx.map fun x=> .tup [.int (x.2:Nat),x.1]
theorem Pv{K:a8}{H:Hp}{l:Addr}{xs:List V}(ok:OwnOk K O H)(h1:H l=some (.lst xs))(n:O l=none)(r1:Reps K O H xs ts):LS K (fD K l) O H (GI ts):=fun O' H' k ok'=>by
 have g1:Cz K H' l xs:=.inl (.inl (k.lst h1 n).1)
 have q1:=r1.kp k ok
 have hl:(GI ts).length=ts.length:=by simp[GI]
 refine⟨fun i hi=>?_,fun i x H'' y t e=>?_,fun i hi=> ⟨xs,g1,?_⟩⟩
 ·rw[hl] at hi
  obtain⟨v,e1,_⟩:=q1.get (i:=i) (t:=ts[i]'hi) (by simp)
  exact⟨xs,v,g1,e1⟩
 ·obtain⟨p,v,hp,rfl,rfl,a1⟩:=y
  unfold GI at e
  rw[e7,oa] at e
  cases et:ts[i]? with
  |none=>rw[et] at e;cases e
  |some t1=>
   rw[et] at e
   have e:T.tup [.int ((0+i:Nat):Int),t1]=t:=i8.inj e
   rw[k8] at e
   subst e
   obtain⟨v',e1,rv⟩:=q1.get et
   have z1:=a1 xs g1
   rw[e1] at z1;cases z1
   exact⟨.new ok' hp,.tup AQ ((Reps.cons (.int _) (.one rv)).kp (BN ok' hp) ok')⟩
 ·rw[hl] at hi
  rw[r1.length]
  omega
theorem OX{tes:List Expr}{tk:Nat}{tpos:Pos}(hm:Z.X.mg "enumerate" =none)(h1:ET Z ρ O a (.lst ts))(hg:Gl Z.X "enumerate":=by rfl)(hs:e8 [a] Z.X.env=[(false,eval a Z.X.env)]:=by rfl):EI Z ρ O (.Tuple tes tk tpos) (.Call (.Name "enumerate" p) [a] [] pos) (GI ts):=fun Φ q=>
 PI.weak (VI hg hm (AI h1 AB hs (fun vs O'=>vs=[.lst ts]∧O'=O) ⟨rfl,rfl⟩) hs) fun σ H R k=> ⟨k.1,by
  rintro vs H' _ _ ⟨rfl,rfl⟩ f r
  obtain⟨v,rfl,r1⟩:=r.one_inv
  obtain⟨l,xs,rfl,g1,n,r1⟩:=r1.lst_inv
  exact⟨l,rfl,⟨xs,.inl (.inl g1)⟩,k.2 _ H' _ _ q f (Pv f.ok g1 n r1)⟩⟩
end
section
variable{Z:Zx}{ρ:List (Option T)}{O:AJ}{elt tg iter:Expr}{csc:Scope}{nc:List Str}{cap:List (Str×Nat)}{pos:Pos}
theorem VJ{α:Type}{l:Addr}(nc:List Str)(cap:List (Str×Nat))(xs:List α)(f g:α→T)(hlo:O l=some (xs.map f))(hc:Z.X.calm=true)(ok:LcOk Z.X csc nc cap)(hi:ET Z ρ O iter (.raw (.ref l)))(hl:xs.length≤sizeLine)
  (h:∀x,x∈xs→∃ρ4,∀X' Oe He,LcCx Z.X csc (Ah nc cap) X'→∀O',(WG (zc X' Oe He) nc.length (Fq nc ρ cap) O' tg (f x) ρ4∧ET (zc X' Oe He) ρ4 O' elt (g x)))
  (hs:∀x,jX iter Z.X.env x=pure x:=by intro _;rfl):ET Z ρ O (.ListComp elt [⟨tg,iter,[],0⟩] csc pos) (.lst (xs.map g)):=fun Φ p=>
 PE.weak (WU hc ok (Nh (hi (fun t O'=>t=.raw (.ref l)∧O'=O) ⟨rfl,rfl⟩)) Ur OQ Us hs) fun σ H Q q=>by
  obtain⟨a,q⟩:=q
  refine⟨a,?_⟩
  rintro v H1 t O1 ⟨rfl,rfl⟩ f1 r1
  cases r1.raw_inv
  obtain⟨ys,hys,rys⟩:=f1.ok l _ hlo
  refine⟨l,rfl,⟨ys,.inl (.inl hys)⟩,fun p' hp=>?_⟩
  have np:O1 p'=none:=f1.ok.none_of hp
  have hlp:l≠p':=fun z=>by rw[←z,hlo] at np;cases np
  have fn:=Frm.newO (ts:=[]) (xs:=[]) f1.ok hp .nil
  refine⟨fun i m H2=>m=xs.length-i∧i≤xs.length∧Frm Z.K O1 H1 (Ad O1 p' ((xs.take i).map g)) H2,⟨xs.length,by simp,jl _,fn⟩,?_⟩
  rintro i m H2 ⟨rfl,hi,f2⟩
  have hl2:(Ad O1 p' ((xs.take i).map g)) l=some (xs.map f):=by rw[AV hlp];exact hlo
  obtain⟨zs,hzs,rzs⟩:=f2.ok l _ hl2
  by_cases hlt:i<xs.length
  ·obtain⟨z0,ez,_⟩:=rzs.get (i:=i) (t:=f xs[i]) (by rw[e7,b6 hlt];rfl)
   refine .inr ⟨⟨zs,z0,.inl (.inl hzs),ez⟩,fun H'=>Frm Z.K O1 H1 (Ad O1 p' ((xs.take (i+1)).map g)) H',fun H' w=> ⟨_,by omega,rfl,by omega,w⟩,fun x H3 y=>?_⟩
   obtain⟨rfl,y⟩:=y
   have ex:=y zs (.inl (.inl hzs))
   obtain⟨z1,ez1,r3⟩:=rzs.get (i:=i) (t:=f xs[i]) (by rw[e7,b6 hlt];rfl)
   rw[ex] at ez1
   cases ez1
   obtain⟨ρ4,st⟩:=h xs[i] (jg hlt)
   have a3:Asr (zc Z.X (Ad O1 p' ((xs.take i).map g)) H3) (Fq nc ρ cap) (Ad O1 p' ((xs.take i).map g)) (HD nc σ cap) H3:=⟨Wd ((a.rl.kp f1.kp a.ok).kp f2.kp f1.ok),.refl f2.ok⟩
   refine⟨Ad O1 p' ((xs.take i).map g),H3,Fq nc ρ cap,Ad O1 p' ((xs.take i).map g),f xs[i],ρ4,fun X' is=> (st X' _ _ is _).1,a3,r3,fun σ4 a4 hag=> ⟨?_,?_⟩⟩
   ·refine⟨σ4.take nc.length,?_,?_⟩
    ·rw[iH,hag.1]
     simp
    ·have e1:σ4.drop nc.length=Bw σ cap:=by
      apply jy
      intro m
      rw[jT,hag.2 _ (by omega)]
      show(iQ nc.length (none:Option V)++Bw σ cap)[nc.length+m]?=_
      rw[iG (by simp)]
      simp
     rw[←e1,jq]
   ·refine⟨Ad O1 p' ((xs.take i).map g),H3,ρ4,Ad O1 p' ((xs.take i).map g),(fun b O2=>b=true∧O2=Ad O1 p' ((xs.take i).map g)),fun X' is=>Dt ⟨rfl,rfl⟩,a4,?_⟩
    rintro b H5 O5 ⟨rfl,rfl⟩ f5
    rw[if_pos rfl]
    refine⟨Ad O1 p' ((xs.take i).map g),H3,ρ4,Ad O1 p' ((xs.take i).map g),(fun t O'=>t=g xs[i]∧O'=Ad O1 p' ((xs.take i).map g)),fun X' is=> (st X' _ _ is _).2 _ ⟨rfl,rfl⟩,a4.step f5,?_⟩
    rintro y6 H6 t6 O6 ⟨rfl,rfl⟩ f6 r6
    obtain⟨ws,hws,rws⟩:=f6.ok p' _ AF
    refine⟨ws,hws,by rw[rws.length,c9,iH];omega,?_⟩
    have fp:=Frm.put (a:=p') f6.ok AF (rws.append (.one r6))
    rw[Av] at fp
    have e2:(xs.take (i+1)).map g=(xs.take i).map g++[g xs[i]]:=by
     rw[jt,b6 hlt,iU];rfl
    rw[e2]
    exact f2.trans (f5.trans (f6.trans fp))
  ·have:i=xs.length:=by omega
   subst this
   rw[jj] at f2
   refine .inl ⟨⟨zs,.inl (.inl hzs),by rw[rzs.length];simp⟩,?_⟩
   have f:=f1.trans f2
   refine q _ H2 _ O1 p ?_ ?_
   ·have e:=Am (ts:=xs.map g) np
    refine⟨fun b o e1 e2=>?_,fun b us e1=> ⟨us,e1⟩,?_⟩
    ·have:=f.kp.trans (Bm (a:=p')) b o e1 e2
     rw[e] at this;exact this
    ·have:=f.ok.drop (a:=p')
     rw[e] at this;exact this
   ·have:=f.ok.rep (a:=p') AF
    rw[Am np] at this
    exact this
end
open PySem.Calls
section
variable{X:Cx}
end
section
variable{Z:Zx}{ρ:List (Option T)}{O:AJ}{e a b hi:Expr}{p p2 pos:Pos}{t:T}{ts:List T}{i:Int}{Φ:Bf}
theorem VL(ha:ET Z ρ O a (.lst [t]))(hb:ET Z ρ O b (.int i))(hi:0≤i∧i≤1000):ET Z ρ O (.BinOp a .Mult b pos) (.lst (iQ i.toNat t)):=fun Φ k=>
 GD VH (ET.we ha (ET.we hb fun H v w Q ok r1 r2 q=>by
  obtain⟨a,xs,rfl,h1,_,r1⟩:=r1.lst_inv
  obtain⟨v,rfl,g⟩:=r1.one_inv
  exact⟨a,i,v,rfl,r2.int_inv,.inl (.inl h1),hi,fun l hl=>q _ _ _ _ k (.new ok hl) (.lst AQ (ok.none_of hl) ((Rep.repl g _).kp (BN ok hl) ok))⟩))
theorem Ye(h:ET Z ρ O e (.lst ts))(h2:ET Z ρ O hi (.int i)):ET Z ρ O (.Subscript e (.Slice none (some hi) none p2) pos) (.lst (GP ts none (some i))):=fun Φ k=>by
 refine PE.weak (Er Nu (BW (ρ:=ρ)) Ja (Ep (BW (ρ:=ρ)))) fun σ H0 Q q=>?_
 refine⟨O,_,h (fun t O'=>t=.lst ts∧O'=O) ⟨rfl,rfl⟩,q.1,?_⟩
 rintro v H1 _ _ ⟨rfl,rfl⟩ f1 r1
 refine⟨_,_,h2 (fun t O'=>t=.int i∧O'=_) ⟨rfl,rfl⟩,q.1.step f1,?_⟩
 rintro v2 H2 _ _ ⟨rfl,rfl⟩ f2 r2
 obtain⟨a,xs,rfl,h1,_,r1⟩:=(r1.kp f2.kp f1.ok).lst_inv
 have ff:=f1.trans f2
 exact⟨i,r2.int_inv,a,xs,rfl,.inl (.inl h1),fun l hl=>q.2 _ _ _ _ k (ff.trans (.new ff.ok hl)) (.lst AQ (ff.ok.none_of hl) ((r1.cut).kp (BN ff.ok hl) ff.ok))⟩
end
end L2.TL
namespace L2
open PySem PySem.Spec PySem.Calls PyProof.Rows
section
variable{prog:Program}{w:World}{A:iC}{E:Value→a9→Prop}{s:a9}
theorem NB{l:Addr}{o:Obj}{vs:List Value}{n:Nat}{ns:List Int}{Q:Value→a9→Prop}(ho:s.heap.get? l=some o)(hc:o.cls=.type "list")(hd:o.data=.seq vs.toArray n)(hI:lI vs ns)(h64:vs.length<64)
  (h:∀(h':Heap) (a:Addr) (out:List Value) (ms:List Int) (c:Nat),s.heap.get? a=none→h'.get? a=some (jG "list" out.toArray c)→(∀b o,s.heap.get? b=some o→h'.get? b=some o)→lI out ms→ms.Perm ns→ms.Pairwise (·≤·)→Q (.ref a) {s with heap:=h'}):
  wpAny (model prog w) A (call (.builtin "sorted") [.ref l]) Q E s:=by
 refine Calls.call_function_entry sd rz rC (rH _) ?_
 unfold Builtin.«sorted»
 refine a7 (m:=checkCount "sorted" 1 1 _) (b9 ?_)
 refine a7 (wpAny_collect_seq l (.inl rfl) ho hc hd (fun h1 hk1=>?_) (by rw[iu,jC];omega))
 show wpAny _ _ (newList vs>>=_) _ _ _
 refine a7 (nU ?_ (by rw[jC];omega))
 have hoL:(h1.push (jG "list" vs.toArray 0)).get? h1.objs.size=some (jG "list" vs.toArray 0):=iz _ rfl
 show wpAny _ _ _ _ _ {s with heap:=h1.push (jG "list" vs.toArray 0)}
 refine a7 (je (jF qq ⟨_,hoL,rfl⟩ qd (list_sort_tree hoL hI h64 fun out ms a1 a2 a3=> ⟨_,rfl,?_⟩) (qw _)))
 refine b9 ⟨_,rfl,?_⟩
 obtain⟨c,hcat⟩:=sortedHeap_at (out:=out) hoL
 refine h _ h1.objs.size out.toList ms c ?_ hcat (fun b o e=>?_) a1 a2 a3
 ·cases e:s.heap.get? h1.objs.size with
  |none=>rfl
  |some o'=>exact absurd (ip (hk1 _ _ e)) (jD _)
 ·have hlt:=ip (hk1 b o e)
  rw[sortedHeap_old (iL hlt) (by rw[size_push'];exact jO hlt)]
  exact e6 _ (hk1 b o e)
end
section
variable{X:Cx}
theorem KH:BB X (.builtin "sorted") (fun xs H Q=>∃(a:Addr) (ns:List Int),xs=[.ref a]∧Cz X.K H a (ns.map V.int)∧ns.length<64∧∀(p:Addr) (ms:List Int),H p=none→ms.Perm ns→ms.Pairwise (·≤·)→Q (.ref p) (upd H p (.lst (ms.map V.int)))):=by
 intro pins s σ H xs us Q I r h
 obtain⟨a,ns,rfl,hS,hl,q⟩:=h
 obtain⟨u,rfl,ru⟩:=Vals.one r
 cases ru
 obtain⟨its,rv,⟨o,n,e1,e2,_,e3⟩,_⟩:=I.list hS
 have hi:=CC rv
 have hlen:its.length<64:=by have:=rv.length;simp at this;omega
 refine NB e1 e2 e3 hi hlen fun h' b out ms c hb hg hk hI pm pw=>?_
 have hf:H b=none:=I.hok.none_of hb
 refine⟨.ref b,upd H b (.lst (ms.map V.int)),I.laidF (t':=s.toks) hk hb ⟨?_,out,c,Do hI,hg⟩,rfl,q b ms hf pm pw⟩
 rw[c9,pm.length_eq,jC]
 omega
end
end L2
namespace L2.TL
open PySem PySem.Spec PyProof.Rows
section
variable{Z:Zx}{ρ:List (Option T)}{O:AJ}{e o:Expr}{Φ:Bf}{p pos apos cpos:Pos}{ns:List Int}{i:Int}{j:Nat}
theorem NC(m:Z.X.mg "sorted" =none)(h:ET Z ρ O e (.lst (ns.map T.int)))(hl:ns.length<64)(k:∀ms:List Int,ms.Perm ns→ms.Pairwise (·≤·)→Φ (.lst (ms.map T.int)) O)(hg:Gl Z.X "sorted":=by rfl)
  (he:e8 [e] Z.X.env=(false,eval e Z.X.env)::e8 [] Z.X.env:=by rfl):WE Z ρ O (.Call (.Name "sorted" p) [e] [] pos) Φ:=
 Hf KH m Jz (AI h AB he _ (fun H vs Q ok r q=>by
  obtain⟨v,rfl,r1⟩:=r.one_inv
  obtain⟨a,xs,rfl,h1,_,r1⟩:=r1.lst_inv
  cases r1.ints
  exact⟨a,ns,rfl,.inl (.inl h1),hl,fun p ms hp pm pw=>q _ _ _ O (k ms pm pw) (.new ok hp) (.lst AQ (ok.none_of hp) (Dw ms))⟩)) hg (by decide) (by decide) he
end
end L2.TL
namespace SrtG
open PySem PySem.Calls PySem.W PyProof.Rows
variable{prog:Program}{w:World}{A:iC}{E:Value→a9→Prop}{s:a9}
end SrtG
namespace L2
open PySem PySem.Spec PySem.Calls PyProof.Rows SrtG
section
variable{prog:Program}{w:World}{A:iC}{E:Value→a9→Prop}{s:a9}{U:Heap→Value→Prop}{rk:Heap→Value→Int}{T:Value}
end
section
variable{X:Cx}{pins:List (Addr×Obj)}{σ:St}{H:Hp}{s:a9}
end
end L2
namespace L2.TL
open PySem PySem.Spec PyProof.Rows SrtG
section
variable{K:a8}{O:AJ}{H:Hp}
end
section
variable{Z:Zx}{ρ:List (Option T)}{O:AJ}{e:Expr}{Φ:Bf}{p pos:Pos}{ks:List Kd}
end
end L2.TL
namespace L2
open PySem PySem.Spec PySem.Calls PyProof.Rows
section
variable{X:Cx}
end
end L2
namespace L2.TL
open PySem PySem.Spec PySem.Calls PyProof.Rows
section
variable{K:a8}{O:AJ}{H H':Hp}
end
section
variable{Z:Zx}{ρ:List (Option T)}{O:AJ}{e a b:Expr}{Φ:Bf}{p pos:Pos}{d:Addr}{qs:List (Str×T)}{x:Str}{t:T}
end
section
variable{Z:Zx}{ρ:List (Option T)}{O:AJ}{a b tg:Expr}{i j:Int}{pos:Pos}{n:Str}{ad:Addr}{xs:List V}
end
section
variable{Z:Zx}{ρ:List (Option T)}{O:AJ}{x y z:Str}{p1 p2 p3 pos:Pos}{k:Nat}{ad:Addr}{w:Str}{l m':Int}
end
end L2.TL
namespace GrR
open L2.TL
variable{R:Int→Int→Prop}{n:Int}{S:List Int}{v u:Int}{d e s k:Nat}{fs gs:List (Option Nat)}{BS ds:List Int}
inductive W(R:Int→Int→Prop)(S:List Int):Nat→Int→Prop
 |at{v:Int}:v∈S→W R S 0 v
 |go {k:Nat} {u v:Int}:W R S k u→R u v→W R S (k+1) v
def IsD(R:Int→Int→Prop)(S:List Int)(v:Int)(d:Nat):Prop:=W R S d v∧∀j,j<d→¬W R S j v
theorem IsD.uniq(a:IsD R S v d)(b:IsD R S v e):d=e:=by
 rcases lR d e with h|h|h
 ·exact absurd a.1 (b.2 d h)
 ·exact h
 ·exact absurd b.1 (a.2 e h)
theorem W.least(h:W R S k v):∃d,d≤k∧IsD R S v d:=by
 induction k using qh with
 |_ k ih=>
  by_cases hx:∃j,j<k∧W R S j v
  ·obtain⟨j,hj,w⟩:=hx
   obtain⟨d,hd,i⟩:=ih j hj w
   exact⟨d,by omega,i⟩
  ·exact⟨k,hC _,h,fun j hj w=>hx ⟨j,hj,w⟩⟩
theorem IsD.prev(h:IsD R S v (s+1)):∃u,IsD R S u s∧R u v:=by
 obtain⟨w,m⟩:=h
 cases w with
 |go w a=>exact⟨_,⟨w,fun j hj w'=>m (j+1) (by omega) (.go w' a)⟩,a⟩
theorem IsD.down(h:IsD R S v (s+k)):∃u,IsD R S u s:=by
 induction k generalizing v with
 |zero=>exact⟨v,h⟩
 |succ k ih=>
  obtain⟨u,hu,_⟩:=IsD.prev (s:=s+k) h
  exact ih hu
def bP(n:Int)(R:Int→Int→Prop):Prop:=∀u v,R u v→0≤v∧v<n
theorem W.inb(hw:bP n R)(hS:∀z∈S,0≤z∧z<n)(h:W R S k v):0≤v∧v<n:=by
 cases h with
 |«at» h=>exact hS _ h
 |go _ a=>exact hw _ _ a
theorem IsD.lt(hw:bP n R)(hS:∀z∈S,0≤z∧z<n)(h:IsD R S v s):(s:Int)<n:=by
 have key:∃L:List Nat,L.length=s+1∧L.Nodup∧∀u∈L,∃i,i≤s∧IsD R S (u:Int) i:=by
  induction s generalizing v with
  |zero=>
   have:=h.1.inb hw hS
   refine⟨[v.toNat],rfl,by simp,fun u hu=> ⟨0,hC _,?_⟩⟩
   rw[e9.mp hu,kR this.1]
   exact h
  |succ s ih=>
   obtain⟨u,hu,_⟩:=h.prev
   obtain⟨L,l1,l2,l3⟩:=ih hu
   have hb:=h.1.inb hw hS
   refine⟨v.toNat::L,by simp[l1],iT.mpr ⟨fun hm=>?_,l2⟩,fun z hz=>?_⟩
   ·obtain⟨i,hi,q⟩:=l3 _ hm
    rw[kR hb.1] at q
    have:=q.uniq h
    omega
   ·rcases ic.mp hz with rfl|hz
    ·exact⟨s+1,hC _,by rw[kR hb.1];exact h⟩
    ·obtain⟨i,hi,q⟩:=l3 z hz
     exact⟨i,by omega,q⟩
 obtain⟨L,l1,l2,l3⟩:=key
 have:=StT.Cm n.toNat L l2 (fun x hx=>by
  obtain⟨i,_,q⟩:=l3 x hx
  have:=q.1.inb hw hS
  omega)
 omega
structure Fr(n:Int)(R:Int→Int→Prop)(S:List Int)(s:Nat)(fs:List (Option Nat)):Prop where
 len:(fs.length:Int)=n
 eq:∀v:Int,0≤v→v<n→∀d,fs[v.toNat]?=some (some d)↔(d≤s∧IsD R S v d)
structure All(n:Int)(R:Int→Int→Prop)(S:List Int)(fs:List (Option Nat)):Prop where
 len:(fs.length:Int)=n
 eq:∀v:Int,0≤v→v<n→∀d,fs[v.toNat]?=some (some d)↔IsD R S v d
theorem Fr.all_end(h:Fr n R S s fs)(e:∀v,¬IsD R S v s):All n R S fs:=⟨h.len,fun v v0 v1 d=>by
 rw[h.eq v v0 v1 d]
 refine⟨fun z=>z.2,fun z=> ⟨?_,z⟩⟩
 by_cases hd:d≤s
 ·exact hd
 ·obtain⟨k,rfl⟩:∃k,d=s+k:=⟨d-s,by omega⟩
  obtain⟨u,hu⟩:=z.down
  exact absurd hu (e u)⟩
theorem VM(hl:(fs.length:Int)=n)(h:∀v:Int,0≤v→v<n→∀d,fs[v.toNat]?=some (some d)↔(d=0∧v∈S)):Fr n R S 0 fs:=⟨hl,fun v v0 v1 d=>by
 rw[h v v0 v1 d]
 constructor
 ·rintro⟨rfl,hv⟩
  exact⟨hC _,.at hv,fun j hj=>by omega⟩
 ·rintro⟨hd,w,_⟩
  have:d=0:=by omega
  subst this
  cases w with
  |«at» h=>exact⟨rfl,h⟩⟩
structure Mid(n:Int)(R:Int→Int→Prop)(S:List Int)(s:Nat)(fs:List (Option Nat))(BS ds:List Int):Prop where
 len:(fs.length:Int)=n
 eq:∀v:Int,0≤v→v<n→∀d,fs[v.toNat]?=some (some d)↔((d≤s∧IsD R S v d)∨(d=s+1∧v∈BS))
 sub:∀v∈BS,IsD R S v (s+1)
 dn:∀v∈ds,0≤v∧v<n∧∃d,fs[v.toNat]?=some (some d)
theorem Fr.mid(h:Fr n R S s fs):Mid n R S s fs [] []:=⟨h.len,fun v v0 v1 d=>by
 rw[h.eq v v0 v1 d]
 simp,(fun _ h=>by cases h),(fun _ h=>by cases h)⟩
theorem Mid.miss(m:Mid n R S s fs BS ds)(v0:0≤v)(v1:v<n)(h:fs[v.toNat]?=some (some d)):Mid n R S s fs BS (ds++[v]):=⟨m.len,m.eq,m.sub,fun z hz=>by
 rcases iO.mp hz with hz|hz
 ·exact m.dn z hz
 ·rw[e9.mp hz];exact⟨v0,v1,d,h⟩⟩
theorem Mid.hit(m:Mid n R S s fs BS ds)(v0:0≤v)(v1:v<n)(hn:fs[v.toNat]?=some none)(hu:IsD R S u s)(a:R u v):Mid n R S s (fs.set v.toNat (some (s+1))) (BS++[v]) (ds++[v]):=by
 have hl:=m.len
 have hlt:v.toNat<fs.length:=by omega
 have iv:IsD R S v (s+1):=by
  refine⟨.go hu.1 a,fun j hj w=>?_⟩
  obtain⟨d,hd,i⟩:=w.least
  have:=(m.eq v v0 v1 d).mpr (.inl ⟨by omega,i⟩)
  rw[hn] at this
  cases this
 have key:∀w:Int,0≤w→w<n→w≠v→(fs.set v.toNat (some (s+1)))[w.toNat]?=fs[w.toNat]?:=fun w w0 w1 h=>i6 (by omega)
 refine⟨by rw[lL];exact hl,fun w w0 w1 d=>?_,fun w hw=>?_,fun w hw=>?_⟩
 ·by_cases h:w=v
  ·subst h
   rw[jb hlt]
   constructor
   ·intro z
    have:d=s+1:=by cases z;rfl
    exact .inr ⟨this,by simp⟩
   ·rintro(z|z)
    ·have:=z.2.uniq iv
     omega
    ·rw[z.1]
  ·rw[key w w0 w1 h,m.eq w w0 w1 d]
   have:w∈BS++[v]↔w∈BS:=by simp[h]
   rw[this]
 ·rcases iO.mp hw with hw|hw
  ·exact m.sub w hw
  ·rw[e9.mp hw];exact iv
 ·rcases iO.mp hw with hw|hw
  ·obtain⟨w0,w1,d,hd⟩:=m.dn w hw
   refine⟨w0,w1,?_⟩
   by_cases h:w=v
   ·subst h;exact⟨_,jb hlt⟩
   ·exact⟨d,by rw[key w w0 w1 h];exact hd⟩
  ·rw[e9.mp hw];exact⟨v0,v1,_,jb hlt⟩
theorem Mid.done(m:Mid n R S s fs BS ds)(h:∀u v,IsD R S u s→R u v→v∈ds):Fr n R S (s+1) fs∧∀v,v∈BS↔IsD R S v (s+1):=by
 have key:∀v,IsD R S v (s+1)→v∈BS:=fun v i=>by
  obtain⟨u,hu,a⟩:=i.prev
  obtain⟨v0,v1,d,hd⟩:=m.dn v (h u v hu a)
  rcases(m.eq v v0 v1 d).mp hd with z|z
  ·have:=z.2.uniq i
   omega
  ·exact z.2
 refine⟨⟨m.len,fun v v0 v1 d=>?_⟩,fun v=> ⟨m.sub v,key v⟩⟩
 rw[m.eq v v0 v1 d]
 constructor
 ·rintro(z|z)
  ·exact⟨by omega,z.2⟩
  ·rw[z.1];exact⟨hC _,m.sub v z.2⟩
 ·rintro⟨h1,h2⟩
  by_cases hd:d≤s
  ·exact .inl ⟨hd,h2⟩
  ·have:d=s+1:=by omega
   subst this
   exact .inr ⟨rfl,key v h2⟩
theorem Mid.fresh(m:Mid n R S s fs BS ds)(v0:0≤v)(v1:v<n)(hn:fs[v.toNat]?=some none):v∉BS:=fun h=>by
 have:=(m.eq v v0 v1 (s+1)).mpr (.inr ⟨rfl,h⟩)
 rw[hn] at this
 cases this
variable{R D L:Int→Int→Prop}{n:Int}{S:List Int}{u v a b:Int}{d k:Nat}{fs:List (Option Nat)}
open Classical in
def IT (R:Int→Int→Prop) (S:List Int) (v:Int):Option Nat:=if h:∃d,IsD R S v d then some (choose h) else none
theorem Cs(h:IsD R S v d):IT R S v=some d:=by
 unfold IT
 have hx:∃d,IsD R S v d:=⟨d,h⟩
 rw[dif_pos hx]
 exact congrArg some ((Classical.choose_spec hx).uniq h)
theorem Dy:IT R S v=some d↔IsD R S v d:=by
 refine⟨fun e=>?_,Cs⟩
 unfold IT at e
 split at e
 ·rename_i h
  cases e
  exact Classical.choose_spec h
 ·cases e
theorem JI{S':List Int}{v':Int}{R':Int→Int→Prop}(h:∀d,IsD R S v d↔IsD R' S' v' d):IT R S v=IT R' S' v':=by
 cases e:IT R S v with
 |some d=>exact(Cs ((h d).mp (Dy.mp e))).symm
 |none=>
  cases e':IT R' S' v' with
  |none=>rfl
  |some d=>rw[Cs ((h d).mpr (Dy.mp e'))] at e;cases e
theorem All.get(al:All n R S fs)(v0:0≤v)(v1:v<n):fs[v.toNat]?=some (IT R S v):=by
 have hl:=al.len
 have hlt:v.toNat<fs.length:=by omega
 cases e:IT R S v with
 |some d=>exact(al.eq v v0 v1 d).mpr (Dy.mp e)
 |none=>
  rw[b6 hlt]
  cases z:fs[v.toNat] with
  |none=>rfl
  |some d=>
   have:=(al.eq v v0 v1 d).mp (by rw[b6 hlt,z])
   rw[Cs this] at e
   cases e
theorem W.mono(h:∀u v,L u v→D u v)(w:W L S k v):W D S k v:=by
 induction w with
 |«at» h=>exact .at h
 |go _ a ih=>exact .go ih (h _ _ a)
theorem W.cut(h:∀u v,D u v→L u v∨u=b)(w:W D S k v):W L S k v∨∃j,j<k∧W L S j b:=by
 induction w with
 |«at» h=>exact .inl (.at h)
 | @go k u v w a ih=>
  rcases ih with w'| ⟨j,hj,w'⟩
  ·rcases h _ _ a with l|rfl
   ·exact .inl (.go w' l)
   ·exact .inr ⟨k,by omega,w'⟩
  ·exact .inr ⟨j,by omega,w'⟩
theorem VN(h1:∀u v,L u v→D u v)(h2:∀u v,D u v→L u v∨u=b):IsD D S b d↔IsD L S b d:=by
 constructor
 ·rintro⟨w,m⟩
  refine⟨?_,fun j hj w'=>m j hj (w'.mono h1)⟩
  rcases w.cut h2 with w'| ⟨j,hj,w'⟩
  ·exact w'
  ·exact absurd (w'.mono h1) (m j hj)
 ·rintro⟨w,m⟩
  refine⟨w.mono h1,fun j hj w'=>?_⟩
  rcases w'.cut h2 with w'| ⟨i,hi,w'⟩
  ·exact m j hj w'
  ·exact m i (by omega) w'
theorem W.consR{p q:Int}(a:R p q)(h:W R [q] k v):W R [p] (k+1) v:=by
 induction h with
 |«at» h=>rw[e9.mp h];exact .go (.at (by simp)) a
 |go _ b ih=>exact .go ih b
theorem W.rev(sy:∀u v,R u v→R v u)(h:W R [a] k v):W R [v] k a:=by
 induction h with
 |«at» h=>rw[e9.mp h];exact .at (by simp)
 |go _ b ih=>exact .consR (sy _ _ b) ih
theorem OY(sy:∀u v,R u v→R v u):IsD R [a] b d↔IsD R [b] a d:=
 ⟨fun h=> ⟨h.1.rev sy,fun j hj w=>h.2 j hj (w.rev sy)⟩,fun h=> ⟨h.1.rev sy,fun j hj w=>h.2 j hj (w.rev sy)⟩⟩
theorem VO{ps:List (Int×Int)}:Gr.W ps S k v↔W (Gr.Adj ps) S k v:=by
 constructor
 ·intro h
  induction h with
  |«at» h=>exact .at h
  |go _ a ih=>exact .go ih a
 ·intro h
  induction h with
  |«at» h=>exact .at h
  |go _ a ih=>exact .go ih a
theorem ND{ps:List (Int×Int)}:Gr.IsD ps S v d↔IsD (Gr.Adj ps) S v d:=
 ⟨fun h=> ⟨VO.mp h.1,fun j hj w=>h.2 j hj (VO.mpr w)⟩,fun h=> ⟨VO.mpr h.1,fun j hj w=>h.2 j hj (VO.mp w)⟩⟩
local macro_rules | `(tactic| omega) => `(tactic| first | lia | omega)
variable{R:Int→Int→Prop}{a b p q:Int}{L M:List Int}{k d s:Nat}
def Ch(R:Int→Int→Prop):List Int→Prop
 |a::b::L=>R a b∧Ch R (b::L)
 |_=>True
theorem Ch.tail(h:Ch R (a::L)):Ch R L:=by
 cases L with
 |nil=>trivial
 |cons b L=>exact h.2
theorem El:Ch R (L++a::M)↔Ch R (L++[a])∧Ch R (a::M):=by
 induction L with
 |nil=>exact⟨fun h=> ⟨trivial,h⟩,fun h=>h.2⟩
 |cons x L ih=>
  cases L with
  |nil=>exact⟨fun h=> ⟨⟨h.1,trivial⟩,h.2⟩,fun h=> ⟨h.1.1,h.2⟩⟩
  |cons y L=>
   constructor
   ·intro h
    have:=ih.mp h.2
    exact⟨⟨h.1,this.1⟩,this.2⟩
   ·intro h
    exact⟨h.1.1,ih.mpr ⟨h.1.2,h.2⟩⟩
theorem Dz:Ch R (L++[a]++[b])↔Ch R (L++[a])∧R a b:=by
 rw[jR]
 exact El.trans ⟨fun h=> ⟨h.1,h.2.1⟩,fun h=> ⟨h.1,h.2,trivial⟩⟩
theorem NF(sy:∀u v,R u v→R v u):∀{L:List Int},Ch R L→Ch R L.reverse
 | [],_=>trivial
 | [a],_=>trivial
 |a::b::L,h=>by
  have:=NF sy h.2
  rw[jI,jI] at*
  exact Dz.mpr ⟨this,sy _ _ h.1⟩
structure Ring(R:Int→Int→Prop)(L:List Int):Prop where
 len:3≤L.length
 nd:L.Nodup
 ch:Ch R L
 cl:∀a z,L.head?=some a→L.getLast?=some z→R z a
theorem Ho(sy:∀u v,R u v→R v u):∀{p q:List Int} {a z:Int},Ch R (a::p)→Ch R (a::q)→(a::p).Nodup→(a::q).Nodup→(a::p).getLast?=some z→(a::q).getLast?=some z→p≠q→∃L,Ring R L∧L.length≤p.length+q.length
 | [],[],a,z,_,_,_,_,_,_,ne=>absurd rfl ne
 | [],c::q,a,z,_,_,_,nq,lp,lq,_=>by
  have e:z=a:=by simpa using lp.symm
  subst e
  rw[jK] at lq
  exact absurd (lg lq) (iT.mp nq).1
 |b::p,[],a,z,_,_,np,_,lp,lq,_=>by
  have e:z=a:=by simpa using lq.symm
  subst e
  rw[jK] at lp
  exact absurd (lg lp) (iT.mp np).1
 |b::p,c::q,a,z,hp,hq,np,nq,lp,lq,ne=>by
  rw[jK] at lp lq
  by_cases e:b=c
  ·subst e
   obtain⟨L,r,l⟩:=Ho sy hp.2 hq.2 (iT.mp np).2 (iT.mp nq).2 lp lq (fun z=>ne (by rw[z]))
   exact⟨L,r,by simp only[iw];omega⟩
  ·--the first of the second way that lies on the first
   have key:∀Q:List Int,(∃m∈Q,m∈b::p)→∃x m y,Q=x++m::y∧m∈b::p∧∀t∈x,t∉b::p:=by
    intro Q
    induction Q with
    |nil=>rintro⟨m,hm,_⟩;cases hm
    |cons t Q ih=>
     intro h
     by_cases ht:t∈b::p
     ·exact⟨[],t,Q,rfl,ht,fun _ h=>by cases h⟩
     ·obtain⟨m,hm,hm2⟩:=h
      rcases ic.mp hm with rfl|hm
      ·exact absurd hm2 ht
      ·obtain⟨x,m,y,e,h1,h2⟩:=ih ⟨m,hm,hm2⟩
       refine⟨t::x,m,y,by rw[e];rfl,h1,fun u hu=>?_⟩
       rcases ic.mp hu with rfl|hu
       ·exact ht
       ·exact h2 u hu
   obtain⟨x,m,y,eq,hm,hx⟩:=key (c::q) ⟨z,lg lq,lg lp⟩
   obtain⟨u,v,ep⟩:=List.append_of_mem hm
   have ha1:=(iT.mp np).1
   have ha2:=(iT.mp nq).1
   have n1:=(iT.mp np).2
   have n2:=(iT.mp nq).2
   rw[eq] at ha2 n2 hq
   have hum:∀t,t∈u++[m]→t∈b::p:=fun t ht=>by
    rw[ep];simp only[iO,ic,i9,or_false] at ht ⊢;rcases ht with h|h
    ·exact .inl h
    ·exact .inr (.inl h)
   have l1:(b::p).length=u.length+(v.length+1):=by rw[ep];simp
   have l2:(c::q).length=x.length+(y.length+1):=by rw[eq];simp
   simp only[iw] at l1 l2
   refine⟨a::(u++[m]++x.reverse),⟨?_,?_,?_,?_⟩,?_⟩
   ·simp only[iw,iB,kP,kH]
    cases u with
    |cons _ _=>simp only[iw];omega
    |nil=>
     cases x with
     |cons _ _=>simp only[iw];omega
     |nil=>
      have e1:b=m:=by simpa using(List.cons.inj ep).1
      have e2:c=m:=by simpa using(List.cons.inj eq).1
      exact absurd (e1.trans e2.symm) e
   ·rw[iT]
    refine⟨fun h=>?_,?_⟩
    ·rcases iO.mp h with h|h
     ·exact ha1 (hum _ h)
     ·exact ha2 (kK _ (nR.mp h))
    ·rw[jd]
     rw[ep] at n1
     refine⟨?_,nI.mpr ((jd.mp n2).1.imp Ne.symm),fun t ht w hw e=>hx w (nR.mp hw) (e▸hum t ht)⟩
     have:=jd.mp (show(u++m::v).Nodup from n1)
     rw[jd]
     exact⟨this.1,by simp,fun t ht w hw=>this.2.2 t ht w (by rw[e9.mp hw];simp)⟩
   ·have h1:Ch R ((a::u)++[m]):=(El (M:=v)).mp (by rw[mV,←ep];exact hp)|>.1
    have h2:Ch R (m::x.reverse):=by
     have:Ch R (x++[m]):=((El (L:=a::x) (M:=y)).mp hq).1.tail
     have:=NF sy this
     rwa[ow] at this
    have:=(El (L:=a::u) (a:=m) (M:=x.reverse)).mpr ⟨h1,h2⟩
    rwa[show a::(u++[m]++x.reverse)=(a::u)++m::x.reverse by simp]
   ·intro a' z' h1 h2
    have:a'=a:=by simpa using h1.symm
    subst this
    cases x with
    |nil=>
     have e2:c=m:=by simpa using(List.cons.inj eq).1
     have:z'=m:=by
      rw[List.reverse_nil,jV,←mV,mM] at h2
      simpa using h2.symm
     rw[this]
     exact sy _ _ hq.1
    |cons t x=>
     have:z'=t:=by
      rw[jI,←jR,←mV,mM] at h2
      simpa using h2.symm
     rw[this]
     exact sy _ _ hq.1
   ·simp only[iw,iB,kP,kH]
    omega
theorem OZ(h:IsD R [p] q d):∃L,L.length=d+1∧L.head?=some p∧L.getLast?=some q∧L.Nodup∧Ch R L∧∀x∈L,∃i,i≤d∧IsD R [p] x i:=by
 induction d generalizing q with
 |zero=>
  have:q=p:=by
   cases h.1 with
   |«at» h=>exact e9.mp h
  subst this
  exact⟨[q],rfl,rfl,rfl,by simp,trivial,fun x hx=>by rw[e9.mp hx];exact⟨0,hC _,h⟩⟩
 |succ d ih=>
  obtain⟨u,hu,r⟩:=h.prev
  obtain⟨L,l1,l2,l3,l4,l5,l6⟩:=ih hu
  obtain⟨M,rfl⟩:∃M,L=M++[u]:=j4.mp l3
  refine⟨M++[u]++[q],by simp only[iB,iw,kH] at l1 ⊢;omega,?_,by simp,?_,Dz.mpr ⟨l5,r⟩,fun x hx=>?_⟩
  ·rw[nH,l2];rfl
  ·rw[jd]
   refine⟨l4,by simp,fun x hx y hy e=>?_⟩
   rw[e9.mp hy] at e
   subst e
   obtain⟨i,hi,hd⟩:=l6 x hx
   have:=hd.uniq h
   omega
  ·rcases iO.mp hx with hx|hx
   ·obtain⟨i,hi,hd⟩:=l6 x hx
    exact⟨i,by omega,hd⟩
   ·rw[e9.mp hx];exact⟨d+1,hC _,h⟩
theorem VP:∀{L:List Int} {p q:Int},Ch R (p::L)→(p::L).getLast?=some q→W R [p] L.length q
 | [],p,q,_,h=>by
  have:q=p:=by simpa using h.symm
  rw[this];exact .at (by simp)
 |b::L,p,q,hc,h=>by
  rw[jK] at h
  exact .consR hc.1 (VP hc.2 h)
theorem EC{i:Nat}(h:Ch R L):Ch R (L.take i):=by
 by_cases hi:i<L.length
 ·have e:L=L.take i++L[i]::L.drop (i+1):=by rw[lB,jq]
  rw[e] at h
  have h1:=(El.mp h).1
  generalize L.take i=A at*
  clear e h
  induction A with
  |nil=>trivial
  |cons x A ih=>
   cases A with
   |nil=>trivial
   |cons y A=>exact⟨h1.1,ih h1.2⟩
 ·rw[List.take_of_length_le (by omega)];exact h
theorem KI{i:Nat}(h:Ch R L):Ch R (L.drop i):=by
 induction i generalizing L with
 |zero=>exact h
 |succ i ih=>
  cases L with
  |nil=>trivial
  |cons a L=>exact ih h.tail
theorem Lj(sy:∀u v,R u v→R v u)(h:Ring R (p::L))(least:∀M,Ring R M→(p::L).length≤M.length){i:Nat}(hi:i<L.length):IsD R [p] L[i] (min (i+1) (L.length-i)):=by
 have hl:(L.take (i+1)).getLast?=some L[i]:=by
  rw[List.getLast?_take,if_neg (by omega)]
  simp[b6 hi]
 have w1:W R [p] (i+1) L[i]:=by
  have hc:Ch R (p::L.take (i+1)):=EC (i:=i+2) h.ch
  have:=VP hc (q:=L[i]) (by
   cases e:L.take (i+1) with
   |nil=>rw[e] at hl;cases hl
   |cons x A=>rw[jK,←e];exact hl)
  rwa[iH,Nat.min_eq_left (by omega)] at this
 obtain⟨z,hz⟩:∃z,(p::L).getLast?=some z:=⟨_,oU⟩
 have w2:W R [p] (L.length-i) L[i]:=by
  have e:L.drop i=L[i]::L.drop (i+1):=(lB ..).symm
  have hc:Ch R (L[i]::L.drop (i+1)):=e▸KI (i:=i) h.ch.tail
  have hz2:(L[i]::L.drop (i+1)).getLast?=some z:=by
   rw[←e,List.getLast?_drop,if_neg (by omega)]
   cases L with
   |nil=>cases hi
   |cons x A=>rwa[jK] at hz
  have:=(VP hc hz2).rev sy
  have:=this.consR (sy _ _ (h.cl p z rfl hz))
  rwa[jx,show L.length- (i+1)+1=L.length-i by omega] at this
 have hw:W R [p] (min (i+1) (L.length-i)) L[i]:=by
  by_cases c:i+1≤L.length-i
  ·rw[Nat.min_eq_left c];exact w1
  ·rw[Nat.min_eq_right (by omega)];exact w2
 obtain⟨d,hd,hD⟩:=hw.least
 by_cases e:d=min (i+1) (L.length-i)
 ·rw[←e];exact hD
 ·exfalso
  obtain⟨M,m1,m2,m3,m4,m5,_⟩:=OZ hD
  cases M with
  |nil=>cases m2
  |cons x M=>
   have:x=p:=by simpa using m2
   subst this
   obtain⟨Q,r,l⟩:=Ho (p:=M) (q:=L.take (i+1)) sy m5 (EC (i:=i+2) h.ch) m4 (by
    exact List.Nodup.sublist (lS (i+2) (x::L)) h.nd) m3 (by
    cases e:L.take (i+1) with
    |nil=>rw[e] at hl;cases hl
    |cons y A=>rw[jK,←e];exact hl) (fun z=>by
     have:=congrArg List.length z
     rw[iH] at this
     simp only[iw] at m1
     omega)
   have:=least Q r
   simp only[iw,iH] at this l m1
   omega
end GrR
namespace GrR
variable{R:Int→Int→Prop}{nb:Int→List Int}{c:Nat→Int→Bool}{a b p q v:Int}{L M r:List Int}{rs:List (List Int)}{k d s:Nat}{n:Int}
def lst(r:List Int):Int:=r.getLastD 0
def Yg(nb:Int→List Int)(c:Int→Bool)(r:List Int):List (List Int):=((nb (lst r)).filter fun v=>c v&&!decide (v∈r)).map fun v=>r++[v]
def IU(nb:Int→List Int)(c:Int→Bool)(rs:List (List Int)):List (List Int):=rs.flatMap (Yg nb c)
def KJ(nb:Int→List Int)(c:Nat→Int→Bool)(p:Int):Nat→List (List Int)
 |0=> [[p]]
 |k+1=>IU nb (c (k+1)) (KJ nb c p k)
structure Way(R:Int→Int→Prop)(c:Nat→Int→Bool)(p:Int)(k:Nat)(r:List Int):Prop where
 len:r.length=k+1
 hd:r.head?=some p
 nd:r.Nodup
 ch:Ch R r
 ok:∀i v,1≤i→r[i]?=some v→c i v=true
theorem Yh(h:r.getLast?=some a):lst r=a:=by
 unfold lst
 rw[List.getLastD_eq_getLast?,h];rfl
theorem Dg(h:r≠[]):r.getLast?=some (lst r):=by
 cases e:r.getLast? with
 |none=>exact absurd (List.getLast?_eq_none_iff.mp e) h
 |some a=>rw[Yh e]
theorem ED(hR:∀u v,v∈nb u↔R u v):r∈KJ nb c p k↔Way R c p k r:=by
 induction k generalizing r with
 |zero=>
  constructor
  ·intro h
   rw[e9.mp h]
   exact⟨rfl,rfl,by simp,trivial,fun i v hi h=>by
    cases i with
    |zero=>omega
    |succ i=>cases h⟩
  ·rintro⟨h1,h2,_⟩
   match r,h1,h2 with
   | [x],_,h2=>
    have:x=p:=by simpa using h2
    rw[this];exact e9.mpr rfl
 |succ k ih=>
  constructor
  ·intro h
   obtain⟨r',hr',h⟩:=kJ.mp h
   obtain⟨v,hv,rfl⟩:=ig.mp h
   obtain⟨hv1,hv2⟩:=iX.mp hv
   rw[ko] at hv2
   have hv3:v∉r':=by simpa using hv2.2
   obtain⟨w1,w2,w3,w4,w5⟩:=ih.mp hr'
   have hne:r'≠[]:=fun z=>by rw[z] at w1;cases w1
   obtain⟨M,e⟩:=j4.mp (Dg hne)
   refine⟨by rw[iB,w1];rfl,by rw[nH,w2];rfl,?_,?_,fun i u hi h=>?_⟩
   ·rw[jd]
    exact⟨w3,by simp,fun x hx y hy e=>hv3 (by rw[←e9.mp hy,←e];exact hx)⟩
   ·rw[e]
    exact Dz.mpr ⟨e▸w4,(hR _ _).mp hv1⟩
   ·by_cases hl:i<r'.length
    ·rw[iY hl] at h
     exact w5 i u hi h
    ·rw[iG (by omega)] at h
     have:i-r'.length=0:=by
      cases z:i-r'.length with
      |zero=>rfl
      |succ z'=>rw[z] at h;simp at h
     rw[this] at h
     have hu:v=u:=by simpa using h
     have hi2:i=k+1:=by omega
     rw[←hu,hi2];exact hv2.1
  ·rintro⟨w1,w2,w3,w4,w5⟩
   have hne:r≠[]:=fun z=>by rw[z] at w1;cases w1
   obtain⟨M,e⟩:=j4.mp (Dg hne)
   generalize lst r=v at e
   subst e
   have hlM:M.length=k+1:=by simpa using w1
   have hneM:M≠[]:=fun z=>by rw[z] at hlM;cases hlM
   obtain⟨N,eN⟩:=j4.mp (Dg hneM)
   rw[jd] at w3
   have hadj:R (lst M) v:=by
    have:Ch R (N++[lst M]++[v]):=by rw[←eN];exact w4
    exact(Dz.mp this).2
   refine kJ.mpr ⟨M,ih.mpr ⟨hlM,?_,w3.1,?_,fun i u hi h=>?_⟩,ig.mpr ⟨v,iX.mpr ⟨(hR _ _).mpr hadj,?_⟩,rfl⟩⟩
   ·rw[nH] at w2
    cases M with
    |nil=>exact absurd rfl hneM
    |cons x M=>exact w2
   ·have:=EC (i:=M.length) w4
    rwa[List.take_left] at this
   ·refine w5 i u hi ?_
    rw[iY (ie.mp h).1];exact h
   ·rw[ko]
    refine⟨w5 (k+1) v (by omega) ?_,by simpa using fun h=>w3.2.2 v h v (by simp) rfl⟩
    rw[iG (by omega),hlM];simp
def rk(r:List Int):Int:=r.foldl (fun a v=>a*32+v) 0
theorem FG:rk (r++[v])=rk r*32+v:=by unfold rk;rw[pf];rfl
theorem NG{c:Int→Bool}(hs:∀u,(nb u).Pairwise (· < ·))(hb:∀u v,v∈nb u→0≤v∧v<32)(h:rs.Pairwise fun x y=>rk x<rk y):(IU nb c rs).Pairwise fun x y=>rk x<rk y:=by
 unfold IU
 rw[nJ]
 refine⟨fun r _=>?_,iZ.imp (fun{x y} hxy=>?_) h⟩
 ·unfold Yg
  rw[jc]
  refine iZ.imp (fun{u v} huv=>?_) ((hs (lst r)).filter _)
  rw[FG,FG];omega
 ·intro x' hx' y' hy'
  obtain⟨u,hu,rfl⟩:=ig.mp hx'
  obtain⟨v,hv,rfl⟩:=ig.mp hy'
  have:=hb _ _ (iX.mp hu).1
  have:=hb _ _ (iX.mp hv).1
  rw[FG,FG];omega
theorem Hq(hs:∀u,(nb u).Pairwise (· < ·))(hb:∀u v,v∈nb u→0≤v∧v<32):(KJ nb c p k).Pairwise fun x y=>rk x<rk y:=by
 induction k with
 |zero=>exact mf ..
 |succ k ih=>exact NG hs hb ih
theorem Yi(hb:∀u v,v∈nb u→0≤v∧v<32)(h:r∈KJ nb c p k):p*32^k≤rk r∧rk r< (p+1)*32^k:=by
 induction k generalizing r with
 |zero=>
  rw[e9.mp h]
  show p*1≤0*32+p∧0*32+p< (p+1)*1
  omega
 |succ k ih=>
  obtain⟨r',hr',h⟩:=kJ.mp h
  obtain⟨v,hv,rfl⟩:=ig.mp h
  have h1:=ih hr'
  have h2:=hb _ _ (iX.mp hv).1
  rw[FG,Int.pow_succ,←Int.mul_assoc,←Int.mul_assoc]
  generalize p*32^k=A at*
  generalize (p+1)*32^k=B at*
  omega
theorem NH{F:Int→List (List Int)}(hF:∀p,(F p).Pairwise fun x y=>rk x<rk y)(hk:∀p r,r∈F p→p*32^k≤rk r∧rk r< (p+1)*32^k){m:Nat}:((iA m).flatMap fun(i:Nat)=>F (i:Int)).Pairwise fun x y=>rk x<rk y:=by
 rw[nJ]
 refine⟨fun i _=>hF i,iZ.imp (fun{i j} hij=>?_) jP⟩
 intro x hx y hy
 have h1:=(hk _ _ hx).2
 have h2:=(hk _ _ hy).1
 have:((i:Int)+1)*32^k≤(j:Int)*32^k:=Int.mul_le_mul_of_nonneg_right (by omega) (Int.pow_nonneg (by decide))
 omega
local macro_rules | `(tactic| omega) => `(tactic| first | lia | omega)
variable{R R':Int→Int→Prop}{nb:Int→List Int}{a b p q v:Int}{L M r:List Int}{k d s:Nat}{n:Int}
def Wj(R:Int→Int→Prop)(a b u v:Int):Prop:=R u v∧¬(u=a∧v=b)∧¬(u=b∧v=a)
theorem KL:∀{L:List Int},Ch R L→(∀u∈L,∀v∈L,R u v→R' u v)→Ch R' L
 | [],_,_=>trivial
 | [_],_,_=>trivial
 |a::b::L,h,m=> ⟨m a (by simp) b (by simp) h.1,KL h.2 fun u hu v hv=>m u (iy _ hu) v (iy _ hv)⟩
theorem Yj(h:Ring R r):∃a b,R a b∧W (Wj R a b) [b] (r.length-1) a:=by
 match r,h with
 | [],h=>exact absurd h.len (by decide)
 | [_],h=>exact absurd h.len (by show¬3≤1;decide)
 | [_,_],h=>exact absurd h.len (by show¬3≤2;decide)
 |x::y::t::L,h=>
  have hne:(t::L)≠[]:=by simp
  have hz:(x::y::t::L).getLast?=some (lst (t::L)):=by
   rw[jK,jK];exact Dg hne
  have hmz:lst (t::L)∈t::L:=lg (Dg hne)
  generalize lst (t::L)=z at hz hmz
  have nd:=h.nd
  rw[iT,iT] at nd
  refine⟨z,x,h.cl x z rfl hz,?_⟩
  refine VP (L:=y::t::L) ⟨⟨h.ch.1,fun e=>?_,fun e=>?_⟩,KL h.ch.2 fun u hu v hv r=> ⟨r,fun e=>?_,fun e=>?_⟩⟩ hz
  ·exact nd.1 (e.2▸iV ..)
  ·exact nd.2.1 (e.2▸hmz)
  ·exact nd.1 (e.2▸hv)
  ·exact nd.1 (e.1▸hu)
theorem VQ(sy:∀u v,R u v→R v u)(ir:∀u,¬R u u)(h:R a b)(hd:IsD (Wj R a b) [a] b d):∃r,Ring R r∧r.length=d+1:=by
 obtain⟨L,l1,l2,l3,l4,l5,_⟩:=OZ hd
 refine⟨L,⟨?_,l4,KL l5 fun u _ v _ c=>c.1,fun x z h1 h2=>?_⟩,l1⟩
 ·match d,hd with
  |0,hd=>
   cases hd.1 with
   |«at» hm=>rw[e9.mp hm] at h;exact absurd h (ir _)
  |1,hd=>
   cases hd.1 with
   |go w c=>
    cases w with
    |«at» hm=>rw[e9.mp hm] at c;exact absurd ⟨rfl,rfl⟩ c.2.1
  |d+2,_=>omega
 ·rw[l2] at h1
  rw[l3] at h2
  cases h1
  cases h2
  exact sy _ _ h
def IV(R:Int→Int→Prop)(s:Nat)(p:Int)(i:Nat)(v:Int):Bool:=decide (IT R [p] v=some (min i (s-i)))
def Cf(R:Int→Int→Prop)(nb:Int→List Int)(s:Nat)(p:Int):List (List Int):=KJ nb (IV R s p) p (s-1)
def GQ(R:Int→Int→Prop)(nb:Int→List Int)(s m:Nat):List (List Int):=(iA m).flatMap fun(i:Nat)=>Cf R nb s (i:Int)
theorem Hr(sy:∀u v,R u v→R v u)(hR:∀u v,v∈nb u↔R u v)(hs:3≤s)(least:∀M,Ring R M→s≤M.length):r∈Cf R nb s p↔Ring R r∧r.length=s∧r.head?=some p:=by
 unfold Cf
 rw[ED hR]
 constructor
 ·rintro⟨w1,w2,w3,w4,w5⟩
  have hl:r.length=s:=by omega
  refine⟨⟨by omega,w3,w4,fun x z h1 h2=>?_⟩,hl,w2⟩
  rw[w2] at h1
  cases h1
  have hz:r[s-1]?=some z:=by rw[mY,hl] at h2;exact h2
  have:=of_decide_eq_true (w5 (s-1) z (by omega) hz)
  rw[show min (s-1) (s- (s-1))=1 by omega] at this
  obtain⟨u,hu,a⟩:=(Dy.mp this).prev
  cases hu.1 with
  |«at» hm=>rw[e9.mp hm] at a;exact sy _ _ a
 ·rintro⟨h,hl,hp⟩
  cases r with
  |nil=>cases hp
  |cons x L=>
   have:x=p:=by simpa using hp
   subst this
   have hl':L.length+1=s:=hl
   refine⟨by simp only[iw];omega,rfl,h.nd,h.ch,fun i v hi e=>?_⟩
   cases i with
   |zero=>omega
   |succ i=>
    rw[lu] at e
    obtain⟨hi',rfl⟩:=ie.mp e
    have:=Lj sy h (fun M hM=>by simp only[iw];have:=least M hM;omega) hi'
    unfold IV
    rw[Cs this]
    exact decide_eq_true (by congr 2;omega)
theorem BQ(hb:∀u v,R u v→0≤v∧v<n)(h:Ring R r):∀z∈r,0≤z∧z<n:=by
 have key:∀{L:List Int} {x:Int},0≤x∧x<n→Ch R (x::L)→∀z∈x::L,0≤z∧z<n:=by
  intro L
  induction L with
  |nil=>intro x hx _ z hz;rw[e9.mp hz];exact hx
  |cons y L ih=>
   intro x hx hc z hz
   rcases ic.mp hz with rfl|hz
   ·exact hx
   ·exact ih (hb _ _ hc.1) hc.2 z hz
 cases r with
 |nil=>intro z hz;cases hz
 |cons x L=>exact key (hb _ _ (h.cl x _ rfl (Dg (by simp)))) h.ch
theorem SO{F:Int→List (List Int)}{P:List Int→Prop}(hb:∀r,P r→∃p,r.head?=some p∧0≤p∧p<n)(h:∀p r,r∈F p↔P r∧r.head?=some p):r∈((iA n.toNat).flatMap fun(i:Nat)=>F (i:Int))↔P r:=by
 rw[kJ]
 constructor
 ·rintro⟨i,_,hi⟩
  exact((h _ _).mp hi).1
 ·intro hp
  obtain⟨p,h1,h2,h3⟩:=hb r hp
  refine⟨p.toNat,iM.mpr (by omega),(h _ _).mpr ⟨hp,?_⟩⟩
  rw[h1,kR h2]
theorem Pw(hb:∀u v,R u v→0≤v∧v<n)(h:Ring R r):∃p,r.head?=some p∧0≤p∧p<n:=by
 cases r with
 |nil=>exact absurd h.len (by decide)
 |cons x L=>exact⟨x,rfl,BQ hb h x (by simp)⟩
theorem Hs(sy:∀u v,R u v→R v u)(hR:∀u v,v∈nb u↔R u v)(hb:∀u v,R u v→0≤v∧v<n)(hs:3≤s)(least:∀M,Ring R M→s≤M.length):r∈GQ R nb s n.toNat↔Ring R r∧r.length=s:=
 SO (P:=fun r=>Ring R r∧r.length=s) (fun r h=>Pw hb h.1) fun p r=> (Hr sy hR hs least).trans and_assoc.symm
theorem Lk(hs:∀u,(nb u).Pairwise (· < ·))(hb:∀u v,v∈nb u→0≤v∧v<32){m:Nat}:(GQ R nb s m).Pairwise fun x y=>rk x<rk y:=
 NH (F:=Cf R nb s) (k:=s-1) (fun p=>Hq hs hb) fun p r h=>Yi hb h
end GrR
namespace GrR
local macro_rules | `(tactic| omega) => `(tactic| first | lia | omega)
variable{R:Int→Int→Prop}{nb:Int→List Int}{c:Nat→Int→Bool}{p:Int}{r q:List Int}{k s:Nat}{n:Int}
theorem SQ(sy:∀u v,R u v→R v u)(least:∀M,Ring R M→s≤M.length)(hr:Ch R r)(hq:Ch R q)(nr:r.Nodup)(nq:q.Nodup){i d:Nat}(hd:2*d<s)(lr:i+d<r.length)(lq:i+d<q.length)(e1:r[i]?=q[i]?)(e2:r[i+d]?=q[i+d]?):∀m,i≤m→m≤i+d→r[m]?=q[m]?:=by
 have hri:i<r.length:=by omega
 have hqi:i<q.length:=by omega
 have key:∀(x:List Int) (hx:i<x.length),i+d<x.length→(x.drop i).take (d+1)=x[i]::(x.drop (i+1)).take d∧((x.drop i).take (d+1)).getLast?=x[i+d]?:=fun x hx hl=>by
  constructor
  ·rw[←lB hx,List.take_succ_cons]
  ·rw[mY,iH,jx,lH,if_pos (by omega),jT]
   congr 1
   omega
 obtain⟨a1,b1⟩:=key r hri lr
 obtain⟨a2,b2⟩:=key q hqi lq
 have hh:r[i]=q[i]:=by
  rw[b6 hri,b6 hqi] at e1
  exact i8.inj e1
 have same:(r.drop (i+1)).take d=(q.drop (i+1)).take d:=by
  by_cases e:(r.drop (i+1)).take d=(q.drop (i+1)).take d
  ·exact e
  ·exfalso
   obtain⟨z,hz⟩:∃z,r[i+d]?=some z:=⟨_,b6 lr⟩
   obtain⟨L,h1,h2⟩:=Ho (a:=r[i]) (z:=z) sy (a1▸EC (KI hr)) (by rw[hh];exact a2▸EC (KI hq)) (a1▸(nr.sublist ((lS ..).trans (pj ..)))) (by rw[hh];exact a2▸(nq.sublist ((lS ..).trans (pj ..)))) (by rw[←a1,b1,hz]) (by rw[hh,←a2,b2,←e2,hz]) e
   have:=least L h1
   rw[iH,iH] at h2
   omega
 have all:(r.drop i).take (d+1)=(q.drop i).take (d+1):=by rw[a1,a2,same,hh]
 intro m h1 h2
 have:=congrArg (fun x:List Int=>x[m-i]?) all
 simp only[lH,jT] at this
 rw[if_pos (by omega),if_pos (by omega),show i+(m-i)=m by omega] at this
 exact this
theorem SR(hR:∀u v,v∈nb u↔R u v)(hb:∀u v,R u v→0≤v∧v<n)(hp:0≤p∧p<n)(h:r∈KJ nb c p k):∀z∈r,0≤z∧z<n:=by
 obtain⟨w1,w2,_,w4,_⟩:=(ED hR).mp h
 have key:∀{L:List Int} {x:Int},0≤x∧x<n→Ch R (x::L)→∀z∈x::L,0≤z∧z<n:=by
  intro L
  induction L with
  |nil=>intro x hx _ z hz;rw[e9.mp hz];exact hx
  |cons y L ih=>
   intro x hx hc z hz
   rcases ic.mp hz with rfl|hz
   ·exact hx
   ·exact ih (hb _ _ hc.1) hc.2 z hz
 cases r with
 |nil=>intro z hz;cases hz
 |cons x L=>
  have:x=p:=by simpa using w2
  subst this
  exact key hp w4
theorem SS{a b d a' b' d':Int}(h1:0≤a∧a<20)(h2:0≤b∧b<20)(h3:0≤d∧d<20)(h4:0≤a'∧a'<20)(h5:0≤b'∧b'<20)(h6:0≤d'∧d'<20)(e:a*400+b*20+d=a'*400+b'*20+d'):a=a'∧b=b'∧d=d':=by omega
theorem VR(sy:∀u v,R u v→R v u)(hR:∀u v,v∈nb u↔R u v)(hs:∀u,(nb u).Pairwise (· < ·))(hb:∀u v,R u v→0≤v∧v<n)(hn:n≤20)(hp:0≤p∧p<n)(least:∀M,Ring R M→s≤M.length)(hk:k<s):(KJ nb c p k).length≤8000:=by
 obtain⟨a,b,h1,h2,h3,h4⟩:∃a b:Nat,2*a<s∧2*b<s∧a+b≤k∧k≤a+b+1:=⟨min k ((s-1)/2),min (k-min k ((s-1)/2)) ((s-1)/2),by omega,by omega,by omega,by omega⟩
 have bd:∀r∈KJ nb c p k,∀i,i≤k→0≤r.getD i 0∧r.getD i 0<20:=fun r hr i hi=>by
  have hl:=((ED hR).mp hr).len
  have:=SR hR hb hp hr (r.getD i 0) (by rw[iD,b6 (show i<r.length by omega)];exact jg _)
  omega
 have inj:∀r∈KJ nb c p k,∀q∈KJ nb c p k,r.getD a 0*400+r.getD (a+b) 0*20+r.getD k 0=q.getD a 0*400+q.getD (a+b) 0*20+q.getD k 0→r=q:=fun r hr q hq e=>by
  obtain⟨r1,r2,r3,r4,_⟩:=(ED hR).mp hr
  obtain⟨q1,q2,q3,q4,_⟩:=(ED hR).mp hq
  obtain⟨e1,e2,e3⟩:=SS (bd r hr a (by omega)) (bd r hr (a+b) (by omega)) (bd r hr k (by omega)) (bd q hq a (by omega)) (bd q hq (a+b) (by omega)) (bd q hq k (by omega)) e
  have at_:∀i,i≤k→r.getD i 0=q.getD i 0→r[i]?=q[i]?:=fun i hi z=>by
   rw[iD,iD,b6 (show i<r.length by omega),b6 (show i<q.length by omega)] at z
   rw[b6 (show i<r.length by omega),b6 (show i<q.length by omega)]
   exact congrArg some z
  have e0:r[0]?=q[0]?:=by rw[←nG,←nG,r2,q2]
  have g1:=SQ sy least r4 q4 r3 q3 (i:=0) (d:=a) h1 (by omega) (by omega) e0 (by rw[k8];exact at_ a (by omega) e1)
  have g2:=SQ sy least r4 q4 r3 q3 (i:=a) (d:=b) h2 (by omega) (by omega) (at_ a (by omega) e1) (at_ (a+b) (by omega) e2)
  apply jy
  intro i
  by_cases c1:i≤a
  ·exact g1 i (jl _) (by omega)
  ·by_cases c2:i≤a+b
   ·exact g2 i (by omega) c2
   ·by_cases c3:i≤k
    ·have:i=k:=by omega
     subst this
     exact at_ i (hC _) e3
    ·rw[jh (by omega),jh (by omega)]
 have hb':∀u v,v∈nb u→0≤v∧v<32:=fun u v h=>by have:=hb u v ((hR u v).mp h);omega
 have:=Gr.Ek (n:=8000) (L:=(KJ nb c p k).map fun r=>r.getD a 0*400+r.getD (a+b) 0*20+r.getD k 0) ?_ ?_
 ·rw[c9] at this
  exact this
 ·rw[iF,jc]
  refine iZ.imp ?_ (iZ.and_mem.mp (Hq (c:=c) (p:=p) (k:=k) hs hb'))
  rintro x y ⟨hx,hy,h⟩ e
  have:=inj x hx y hy e
  subst this
  omega
 ·intro z hz
  obtain⟨r,hr,rfl⟩:=ig.mp hz
  have b1:=bd r hr a (by omega)
  have b2:=bd r hr (a+b) (by omega)
  have b3:=bd r hr k (by omega)
  omega
end GrR
namespace L2.TL
open PySem PySem.Spec PySem.Calls PyProof.Rows PySem.Builtin PySem.Builtin.Str
section
variable{X:Cx}
end
section
variable{Z:Zx}{ρ:List (Option T)}{O:AJ}{a b o e:Expr}{t:T}{Φ:Bf}{pos p apos cpos:Pos}{i j:Str}{xs:List Str}
end
section
variable{X:Cx}
end
section
variable{Z:Zx}{ρ:List (Option T)}{O:AJ}{a b o e:Expr}{t:T}{Φ:Bf}{pos p apos cpos:Pos}{i j:Str}{xs:List Str}
end
section
variable{Z:Zx}{ρ:List (Option T)}{O:AJ}{e elt tg iter:Expr}{ifs:List Expr}{csc:Scope}{nc:List Str}{cap:List (Str×Nat)}{Φ:Bf}{pos:Pos}
theorem SU(h:WE Z ρ O e fun t O'=>∃a ts,t=.raw (.ref a)∧O a=none∧O'=Ad O a ts∧Φ (.lst ts) O):WE Z ρ O e Φ:=
 PE.weak h fun σ H Q q=> ⟨q.1,fun v H' t O' p f r=>by
  obtain⟨a,ts,rfl,na,rfl,p⟩:=p
  cases r.raw_inv
  refine q.2 _ H' _ O p ⟨fun b o e1 e2=>?_,fun b us e1=> ⟨us,e1⟩,?_⟩ ?_
  ·have:=f.kp.trans (Bm (a:=a)) b o e1 e2
   rw[Am na] at this;exact this
  ·have:=f.ok.drop (a:=a)
   rw[Am na] at this;exact this
  ·have:=f.ok.rep (a:=a) AF
   rw[Am na] at this
   exact this⟩
end
theorem EE{i:Int}:∀{ns:List Int},((dTs (ns.map T.int)).any fun y=>kh y (dT (.int i)))=decide (i∈ns)
 | []=>rfl
 |n::ns=>by
  show((n==i)|| (dTs (ns.map T.int)).any fun y=>kh y (dT (.int i)))=_
  rw[EE,jW]
  simp only[Bool.or_eq_true,decide_eq_true_eq,ic,beq_iff_eq]
  constructor
  ·rintro(h|h)
   ·exact .inl h.symm
   ·exact .inr h
  ·rintro(h|h)
   ·exact .inl h.symm
   ·exact .inr h
end L2.TL
namespace L2
open PySem PySem.Spec PySem.Calls PyProof.Rows
section
variable{prog:Program}{w:World}{A:iC}{R:rX→a9→Prop}{I:Addr}{fp wr:List Addr}{n:Nat}{P:Nat→Value→Prop}{St:Nat→Heap→Prop}
theorem FH:(toString "min" ++toString ".loop" :String)= "min.loop":=by decide
theorem Px{kw:List (Str×Value)}(W:Walks prog w A.in1 I fp wr n P St)(bt:Nat→Nat→Bool)(hcmp:CmpOf prog w A.in1 .Lt P bt)(S:Addr)(hSf:S∉fp):
  ∀(k j:Nat) (s:a9) (vb:Value) (c:Nat),n- (j+1)=k→j+1≤n→St (j+1) s.heap→P (pX bt j) vb→
  s.heap.get? S=some {cls:=.type "list",dict:=none,data:=.seq #[vb,vb] c,slots:=#[]}→
  (∀v h' tk,P (pX bt (n-1)) v→(∀b o,b∉wr→b≠S→s.heap.get? b=some o→h'.get? b=some o)→R (.ok (.ret v)) {s with heap:=h',toks:=tk})→
  mQ (model prog w) A (.builtin "min.loop" ⟨[.ref I,.none,.ref S],kw⟩) R s:=by
 have hSw:S∉wr:=fun h=>hSf (W.sub _ h)
 intro k
 induction k with
 |zero=>
  intro j s vb c hk hj hst hPb hS hR
  have hin:j+1=n:=by omega
  refine ly pU ?_
  rw[lh lD _]
  show wpAny _ A.in1 (qJ (.ref S)>>=_) _ _ s
  refine a7 (j8 hS rfl ?_)
  show wpAny _ A.in1 (tryCatch (nh (.ref I)) _>>=_) _ _ s
  refine a7 (nA (W.done s _ _ (hin▸hst) fun h' tk hk'=>?_))
  have hS':=hk' S _ hSw hS
  show wpAny _ A.in1 (updateSeq S (fun _=> #[])>>=_) _ _ _
  refine a7 (qc hS' rfl (a7 (nu (b9 ?_))))
  exact hR vb _ tk (by rw[←hin];exact hPb) fun b o hbw hbS e=> (km _ _ (Ne.symm hbS)).trans (hk' b o hbw e)
 |succ k ih=>
  intro j s vb c hk hj hst hPb hS hR
  have hlt:j+1<n:=by omega
  refine ly pU ?_
  rw[lh lD _]
  show wpAny _ A.in1 (qJ (.ref S)>>=_) _ _ s
  refine a7 (j8 hS rfl ?_)
  show wpAny _ A.in1 (tryCatch (nh (.ref I)) _>>=_) _ _ s
  refine a7 (nA (W.item (j+1) s _ _ hlt hst fun v h' tk hP hst' hk'=>?_))
  have hS':=hk' S _ hSw hS
  show wpAny _ A.in1 (tryCatch (holding [v,v] (richCompare .Lt v vb>>=_)) _>>=_) _ _ _
  refine a7 (nA (je (a7 (hcmp (j+1) (pX bt j) v vb _ _ _ hP hPb ?_))))
  refine a7 (je (lj (a7 (nu (b9 ?_)))))
  cases hb:bt (j+1) (pX bt j) with
  |true=>
   simp only[if_true]
   refine a7 (qc hS' rfl (a7 (nu ?_)))
   rw[FH]
   refine b9 ⟨mB lD _,ih (j+1) _ v _ (by omega) hlt (W.frame _ _ _ hst' fun b hbf o e=>?_) (by simp only[pX,hb,if_true];exact hP) (lJ _ hS' rfl) fun v' h'' tk'' hP' hk''=>?_⟩
   ·exact(km _ _ (fun h:S=b=>hSf (by rw[h];exact hbf))).trans e
   ·exact hR v' h'' tk'' hP' fun b o hbw hbS e=>hk'' b o hbw hbS ((km _ _ (Ne.symm hbS)).trans (hk' b o hbw e))
  |false=>
   simp only[iK,if_false]
   refine a7 (nu ?_)
   rw[FH]
   refine b9 ⟨mB lD _,ih (j+1) _ vb c (by omega) hlt hst' (by simp only[pX,hb,iK,if_false];exact hPb) hS' fun v' h'' tk'' hP' hk''=>?_⟩
   exact hR v' h'' tk'' hP' fun b o hbw hbS e=>hk'' b o hbw hbS (hk' b o hbw e)
theorem NI{nm:Str}{d:Value}(W:Walks prog w A.in1 I fp wr n P St)(bt:Nat→Nat→Bool)(hcmp:CmpOf prog w A.in1 .Lt P bt)(S:Addr)(hSf:S∉fp){s:a9}{c:Nat}(hst:St 0 s.heap)
  (hS:s.heap.get? S=some {cls:=.type "list",dict:=none,data:=.seq #[] c,slots:=#[]})
  (h0:n=0→∀h' tk,(∀b o,b∉wr→b≠S→s.heap.get? b=some o→h'.get? b=some o)→R (.ok (.ret d)) {s with heap:=h',toks:=tk})
  (hR:0<n→∀v h' tk,P (pX bt (n-1)) v→(∀b o,b∉wr→b≠S→s.heap.get? b=some o→h'.get? b=some o)→R (.ok (.ret v)) {s with heap:=h',toks:=tk}):
  mQ (model prog w) A (.builtin "min.loop" ⟨[.ref I,.none,.ref S],[(nm,d)]⟩) R s:=by
 have hSw:S∉wr:=fun h=>hSf (W.sub _ h)
 refine ly pU ?_
 rw[lh lD _]
 show wpAny _ A.in1 (qJ (.ref S)>>=_) _ _ s
 refine a7 (j8 hS rfl ?_)
 show wpAny _ A.in1 (tryCatch (nh (.ref I)) _>>=_) _ _ s
 by_cases hn:0<n
 ·refine a7 (nA (W.item 0 s _ _ hn hst fun v h' tk hP hst' hk'=>?_))
  have hS':=hk' S _ hSw hS
  show wpAny _ A.in1 (updateSeq S (fun _=> #[v,v])>>=_) _ _ _
  refine a7 (qc hS' rfl ?_)
  rw[FH]
  refine b9 ⟨mB lD _,Px W bt hcmp S hSf _ 0 _ v _ rfl hn (W.frame _ _ _ hst' fun b hbf o e=>?_) hP (lJ _ hS' rfl) fun v' h'' tk'' hP' hk''=>?_⟩
  ·exact(km _ _ (fun h:S=b=>hSf (by rw[h];exact hbf))).trans e
  ·exact hR hn v' h'' tk'' hP' fun b o hbw hbS e=>hk'' b o hbw hbS ((km _ _ (Ne.symm hbS)).trans (hk' b o hbw e))
 ·have e0:n=0:=by omega
  refine a7 (nA (W.done s _ _ (by rw[e0];exact hst) fun h' tk hk'=>?_))
  show wpAny _ A.in1 (rule _>>=fun _=>ret d) _ _ _
  exact a7 (lx (b9 (h0 e0 h' tk fun b o hbw _ e=>hk' b o hbw e)))
end
section
variable{prog:Program}{w:World}{A:iC}{E:Value→a9→Prop}{s:a9}
theorem Py{x d:Value}{Q:Value→a9→Prop}
  (h:wpAny (model prog w) A.in1 (qt x) (fun it s₂=>∃I fp wr n P St bt,it=.ref I∧Walks prog w A.in1 I fp wr n P St∧St 0 s₂.heap∧(∀b∈fp,b<s₂.heap.objs.size)∧CmpOf prog w A.in1 .Lt P bt∧
   (n=0→∀h' tk,(∀b o,b∉wr→s₂.heap.get? b=some o→h'.get? b=some o)→Q d {s₂ with heap:=h',toks:=tk})∧
   (0<n→∀v h' tk,P (pX bt (n-1)) v→(∀b o,b∉wr→s₂.heap.get? b=some o→h'.get? b=some o)→Q v {s₂ with heap:=h',toks:=tk})) E s):
  wpAny (model prog w) A (call (.builtin "min") [x] [("default",d)]) Q E s:=by
 refine pW (lO F.plain_min F.entry_min ?_)
 refine nY (show pN "min" ⟨[x],[("default",d)]⟩=pure () by kernel_rfl) ?_
 show wpAny _ A.in1 (Builtin.Builtins.bindParams "min" ["key","default"] 0 ⟨[],[("default",d)]⟩>>=_) _ _ s
 refine a7 (nY (show Builtin.Builtins.bindParams "min" ["key","default"] 0 ⟨[],[("default",d)]⟩=pure [none,some d] from rfl) ?_)
 refine a7 (b9 ?_)
 refine a7 (mn h (fun it s₂ h₂=>?_) fun _ _ e=>e)
 obtain⟨I,fp,wr,n,P,St,bt,rfl,W,hst,hfp,hcmp,q0,q1⟩:=h₂
 refine a7 (js ?_)
 have hSf:s₂.heap.objs.size∉fp:=fun hm=>jD _ (hfp _ hm)
 rw[FH]
 refine b9 ⟨mB lD _,NI W bt hcmp s₂.heap.objs.size hSf (W.frame _ _ _ hst fun b _ o e=>e6 _ e) (iz _ rfl) (fun e0 h' tk hk=>?_) fun hn v h' tk hP hk=>?_⟩
 ·exact q0 e0 h' tk fun b o hbw e=>hk b o hbw (iL (ip e)) (e6 _ e)
 ·exact q1 hn v h' tk hP fun b o hbw e=>hk b o hbw (iL (ip e)) (e6 _ e)
end
section
variable{M:Model}{A:iC}{E:Value→a9→Prop}{s:a9}
theorem KM{pos:Pos}{id:String}{k:Str}{x y:Sem Value}{Q:Value→a9→Prop}
  (h:wpAny M A x (fun v s₁=>wpAny M A y (fun d s₂=>wpAny M A (call (.builtin id) [v] [(k,d)]) Q E s₂) E s₁) E s):
  wpAny M A (callWith pos (.builtin id) [] [(false,x)] [(some k,y)]) Q E s:=by
 unfold callWith
 refine a7 (je (evalArgs_kw rfl (Calls.spliced_cons (mn h (fun v s₁ h₁=>?_) fun _ _ e=>e))))
 refine Calls.spliced_nil (wpAny_evalAll_cons (mn h₁ (fun d s₂ h₂=>wpAny_evalAll_nil ?_) fun _ _ e=>e))
 refine a7 (m6 ?_)
 refine a7 (b9 ?_)
 exact a7 (mn h₂ (fun r s₃ hr=>a7 (je (wpAny_point (b9 hr)))) fun _ _ e=>e)
end
section
variable{X:Cx}
def Fs(ns:List Int):Option Int→Prop
 |none=>ns=[]
 |some m=>HY ns m
def fE:Option Int→V
 |none=> .non
 |some m=> .int m
theorem VS{e:Expr}{te:TE}{p pos kp np:Pos}{j:Nat}(hc:X.calm=true)(hg:Gl X "min")(hm:X.mg "min" =none)(he:PE X e te)(hn:TL.Bz e=true):
  PE X (.Call (.Name "min" p) [e] [⟨some "default",.Constant .none j np,kp⟩] pos) (fun σ H Q=>te σ H fun v H1=>∃(a:Addr) (ns:List Int),v=.ref a∧Wa X.K H1 a (ns.map V.int)∧∀m,Fs ns m→Q (fE m) H1):=by
 intro pins s σ H Q I h
 refine ng (DV I hg hm TL.Uv ?_ (by decide) (by decide))
 rw[TL.Dv hn]
 refine KM (Aw (he pins s σ H _ I h) fun u s1 ⟨v,H1,I1,r1,q1⟩=>?_)
 obtain⟨a,ns,rfl,hq,q⟩:=q1
 cases r1
 refine a7 ?_
 show wpAny _ _ (eval (.Constant .none j np) X.env) _ _ _
 refine b9 (a7 (m6 (b9 ?_)))
 obtain⟨its,rv,lt,wk⟩:=I1.walk hq
 have hl:its.length=ns.length:=by have:=rv.length;rw[c9] at this;exact this.symm
 refine Py (wk X.A.in1 _ _ (I1.ok.hd hc) fun o St W st=> ⟨_,_,_,_,_,_,_,rfl,W,st,fun b hb=>?_,CmpOf.ints_lt (fun i=>ns.getD i 0) (fun i v hv=>CH rv i v hv),fun e0 h' tk hk=>?_,fun hn v h' tk hP hk=>?_⟩)
 ·show b< (s1.heap.push o).objs.size
  rw[jA]
  simp only[ic,i9,or_false] at hb
  rcases hb with rfl|rfl
  ·exact k4 _
  ·exact jO lt
 ·exact⟨.non,H1,I1.kept (t':=tk) (Eb hk),rfl,q none (List.eq_nil_of_length_eq_zero (by omega))⟩
 ·obtain⟨t,rfl⟩:=CH rv _ v hP
  obtain⟨b1,b2⟩:=argBest_lt (fun i=>ns.getD i 0) (its.length-1)
  exact⟨.int _,H1,I1.kept (t':=tk) (Eb hk),⟨t,rfl⟩,q (some _) ⟨HZ (by omega),fun n hn=>by
   obtain⟨j,hj,rfl⟩:=l9 hn
   have:=b2 j (by omega)
   simpa[kc,hj] using this⟩⟩
end
end L2
namespace L2.TL
open PySem PySem.Spec PySem.Calls PyProof.Rows
section
variable{Z:Zx}{ρ:List (Option T)}{O:AJ}{e:Expr}{p pos kp np:Pos}{ns:List Int}{j:Nat}
def IW:Option Int→T
 |none=> .non
 |some m=> .int m
theorem Ll{a b:Option Int}(ha:Fs ns a)(hb:Fs ns b):a=b:=by
 cases a with
 |none=>
  cases b with
  |none=>rfl
  |some m=>rw[show ns=[] from ha] at hb;exact absurd hb.1 (by simp)
 |some m=>
  cases b with
  |none=>rw[show ns=[] from hb] at ha;exact absurd ha.1 (by simp)
  |some k=>rw[qm (ha.2 k hb.1) (hb.2 m ha.1)]
theorem VT{m:Option Int}(hm:Fs ns m)(mm:Z.X.mg "min" =none)(hc:Z.X.calm=true)(h:ET Z ρ O e (.lst (ns.map T.int)))(hg:Gl Z.X "min":=by rfl)(hn:Bz e=true:=by rfl):
  ET Z ρ O (.Call (.Name "min" p) [e] [⟨some "default",.Constant .none j np,kp⟩] pos) (IW m):=fun Φ q=>
 PE.weak (VS hc hg mm (h (fun t O'=>t=.lst (ns.map T.int)∧O'=O) ⟨rfl,rfl⟩) hn) fun σ H Q k=> ⟨k.1,by
  rintro v H' _ _ ⟨rfl,rfl⟩ f r
  obtain⟨a,xs,rfl,h1,o1,r1⟩:=r.lst_inv
  cases Reps.ints r1
  refine⟨a,ns,rfl,.inl (.inl (.inl h1)),fun m' hm'=>?_⟩
  cases Ll hm' hm
  refine k.2 _ H' _ _ q f ?_
  cases m with
  |none=>exact .non
  |some m=>exact .int m⟩
end
end L2.TL
namespace L2
open PySem PySem.Spec PySem.Calls PyProof.Rows
section
variable{prog:Program}{w:World}{A:iC}{R:rX→a9→Prop}{I:Addr}{fp wr:List Addr}{n:Nat}{P:Nat→Value→Prop}{St:Nat→Heap→Prop}
end
section
variable{prog:Program}{w:World}{A:iC}{E:Value→a9→Prop}{s:a9}
end
section
variable{X:Cx}
end
end L2
namespace L2.TL
open PySem PySem.Spec PySem.Calls PyProof.Rows
section
variable{Z:Zx}{ρ:List (Option T)}{O:AJ}{e:Expr}{p pos kp np:Pos}{ns:List Int}{j:Nat}
end
end L2.TL
namespace L2
open PySem PySem.Spec PyProof.Rows
open Sem (wp)
section
variable{prog:Program}{w:World}{A:iC}{E:Value→a9→Prop}{s:a9}
end
section
variable{prog:Program}{w:World}{A:iC}{E:Value→a9→Prop}{s:a9}
end
section
variable{prog:Program}{w:World}{A:iC}{E:Value→a9→Prop}{s:a9}
end
section
variable{M:Model}{A:iC}{E:Value→a9→Prop}{s:a9}
end
section
variable{X:Cx}
end
section
variable{X:Cx}{tg:Expr}
end
end L2
namespace L2.TL
open PySem PySem.Spec PyProof.Rows
section
variable{Z:Zx}{ρ:List (Option T)}{O:AJ}{a tg:Expr}{ts:List T}{p pos:Pos}
end
open PySem.Builtin PySem.Builtin.Str
section
variable{Z:Zx}{ρ:List (Option T)}{O:AJ}{a b e:Expr}{p pos:Pos}{x y:Str}{i:Int}{K:a8}
end
structure Fi(K:a8)(x:Str)(st:Stmt)(f:Addr)(fd:iI):Prop where
 F:Fun K x x st f fd
 a:mR K kg x=some (some (.ref f))
def Fx(K:a8)(x:Str)(st:Stmt):Prop:=∃f fd,Fi K x st f fd
def Zn(K:a8)(x:Str):Prop:=mR K kg x=some none
structure Mg(P:Program)(w:World)(K:a8)(mg:Str→Option Value)(base:Heap):Prop where
 mm:∀{x:Str} {v:Value},mR K kg x=some (some v)→mg x=some v
section
variable{P:Program}{w:World}{K:a8}{mg:Str→Option Value}{base:Heap}{x:Str}{st:Stmt}{f:Addr}{fd:iI}{ps:List Str}{k:Nat}
theorem fi{oc:Value}{od:Option Addr}{kV doc pm:Value}{an:Option Addr}{cdv ct:Value}{osl:Array (Option Value)}(a:mR K kg x=some (some (.ref f)))(l:K.lookup f=some ⟨oc,od,.func (mS x x (Eu st) (BL st) (AA st) .none kV doc pm an cdv ct),osl⟩)(q:qy K cdv x=true)(h:lG K (.ref f)=true):
  Fx K x st:=⟨f,_,⟨⟨⟨oc,od,kV,doc,pm,an,cdv,ct,osl,rfl,l,q⟩,h⟩,a⟩⟩
abbrev Bi(x:Str)(st:Stmt)(ps:List Str)(us:List Value):Prop:=∀(kV doc pm:Value) (an:Option Addr) (cdv ct:Value),bindArgs (mS x x (Eu st) (BL st) (AA st) .none kV doc pm an cdv ct) ⟨us,[]⟩=pure (ps.zip us)
theorem Fi.b1(h:Fi K x st f fd)(hl:ps.length=1)(q:∀a,Bi x st ps [a]):Binds K fd ps []:=h.F.binds fun _ _ _ _ _ _ us e=>match us,e.trans hl with| [a],_=>q a ..
theorem Fi.b2(h:Fi K x st f fd)(hl:ps.length=2)(q:∀a b,Bi x st ps [a,b]):Binds K fd ps []:=h.F.binds fun _ _ _ _ _ _ us e=>match us,e.trans hl with| [a,b],_=>q a b ..
theorem Fi.b3(h:Fi K x st f fd)(hl:ps.length=3)(q:∀a b c,Bi x st ps [a,b,c]):Binds K fd ps []:=h.F.binds fun _ _ _ _ _ _ us e=>match us,e.trans hl with| [a,b,c],_=>q a b c ..
theorem Fi.b4(h:Fi K x st f fd)(hl:ps.length=4)(q:∀a b c d,Bi x st ps [a,b,c,d]):Binds K fd ps []:=h.F.binds fun _ _ _ _ _ _ us e=>match us,e.trans hl with| [a,b,c,d],_=>q a b c d ..
theorem Fi.t{s:CB}(h:Fi K x st f fd)(M:Mg P w K mg base)(ok:FnOk P w K mg base (CXe P w) k f fd ps (Ci K s))(b:Binds K fd ps []):FnT P w K mg base x k ps s:=⟨f,fd,ok,M.mm h.a,h.F.kp,b⟩
end
end L2.TL
namespace L2
open PySem PySem.Spec PySem.Calls PyProof.Rows Builtin.ObjectAttr
section
variable{prog:Program}{w:World}{A:iC}{E:Value→a9→Prop}{s:a9}{K:a8}{x dx C f:Addr}{name:Str}{v:Value}
end
section
variable{prog:Program}{w:World}{A:iC}{E:Value→a9→Prop}{s:a9}{K:a8}{x dx C f:Addr}{name:Str}{v:Value}
end
section
variable{prog:Program}{w:World}{A:iC}{E:Value→a9→Prop}{s:a9}{K:a8}{C f:Addr}
end
section
variable{X:Cx}{pins:List (Addr×Obj)}{σ:St}{H:Hp}{s:a9}
end
section
variable{X:Cx}{o value:Expr}{n:Str}{pos pos':Pos}{ta tv:TE}
end
end L2
namespace L2.TL
open PySem PySem.Spec PySem.Calls PyProof.Rows
section
variable{Z:Zx}{ρ:List (Option T)}{O:AJ}{e a b:Expr}{es:List Expr}{Ψ:Es}{Φ:Bf}{pos p:Pos}{t:T}{ts:List T}{x:Str}
end
end L2.TL
namespace L2
open PySem PySem.Spec PySem.Calls PyProof.Rows
end L2
namespace L2.TL
open PySem PySem.Spec PySem.Calls PyProof.Rows
section
variable{Z:Zx}{ρ:List (Option T)}{O O':AJ}{e a b:Expr}{es:List Expr}{Ψ:Es}{Φ:Bf}{pos p:Pos}{t:T}{ts:List T}{x y C D:Addr}{H':Hp}{o:HO}{cls:Value}{fs:Str}
end
section
variable{P:Program}{w:World}{K:a8}{mg:Str→Option Value}{base:Heap}
end
section
variable{P:Program}{w:World}{K:a8}{mg:Str→Option Value}{base:Heap}{C R f:Addr}{q x:Str}{st:Stmt}{fd:iI}
end
section
variable{K:a8}{O O':AJ}{H:Hp}
end
section
variable{Z:Zx}{ρ:List (Option T)}{O:AJ}{e a b:Expr}{es:List Expr}{Ψ:Es}{Φ:Bf}{pos p:Pos}{t:T}{ts ts' us:List T}{x:Str}{l:Addr}
end
end L2.TL
namespace L2
open PySem PySem.Spec PyProof.Rows
section
variable{X:Cx}{W:St→XK}
end
end L2
namespace L2.TL
open PySem PySem.Spec PyProof.Rows
section
variable{Z:Zx}{ρ:List (Option T)}{O:AJ}{Φ:Bf}{p pos:Pos}{x:Str}{t:T}
end
theorem Lm:∀{ns:List Int},rdBs (ns.map T.int)=true
 | []=>rfl
 |n::ns=>by
  rw[iN,rdBs,Lm]
  rfl
section
variable{Z:Zx}{ρ:List (Option T)}{O:AJ}{Ψ:Es}{a b o e:Expr}{apos cpos pos:Pos}{bs:List Bool}{i:Int}{ns:List Int}
theorem Yk(i j:Nat){x y:Str}{a b:Expr}{px py pt pos:Pos}{kt k2 pt2}(hc:Z.X.calm=true)(hN:Z.X.N.Nodup)(h:WA Z ρ O [a,b] fun ts O'=>∃t u,ts=[t,u]∧Ψ.nx ((ρ.set i (some t)).set j (some u)) O')
  (hi:Z.X.N[i]?=some x:=by rfl) (hj:Z.X.N[j]?=some y:=by rfl) (hij:i≠j:=by decide) (hx:Z.X.env.scope.names.lookup x=some .local:=by rfl) (hy:Z.X.env.scope.names.lookup y=some .local:=by rfl)
  (hw:nW [.Tuple [.Name x px,.Name y py] kt pt] (.Tuple [a,b] k2 pt2) Z.X.env=pure (some [x,y]):=by rfl)
  (hs:nV [.Tuple [.Name x px,.Name y py] kt pt] (.Tuple [a,b] k2 pt2) pos.line Z.X.env=pure false:=by rfl):
  WS Z ρ O (.Assign [.Tuple [.Name x px,.Name y py] kt pt] (.Tuple [a,b] k2 pt2) pos) Ψ:=
 PS.weak (XN hc hN hi hj hij hx hy h hw hs) fun D σ H q=> ⟨q.1,fun vs H' ts O' ⟨t,u,e,p⟩ f r=>by
  subst e
  obtain⟨v,w,rfl,r1,r2⟩:=r.two_inv
  exact⟨v,w,rfl,q.2.nx _ O' _ H' p ⟨((q.1.step f).rl.set r1).set r2,(q.1.step f).fr⟩ f.kp⟩⟩
end
end L2.TL
namespace L2
open PySem PySem.Spec PyProof.Rows
section
variable{X:Cx}{pos:Pos}
end
end L2
namespace L2.TL
open PySem PySem.Spec PyProof.Rows
section
variable{Z:Zx}{ρ:List (Option T)}{O:AJ}{x y z:Str}{p1 p2 p3 pos:Pos}{k:Nat}{ta tb tc:T}{fe e:Expr}{es:List Expr}{Φ:Bf}
end
end L2.TL
namespace GrR
variable{R:Int→Int→Prop}{S L M:List Int}{a b p q u v x y:Int}{i j k d s e:Nat}{nb:Int→List Int}{n:Int}
theorem Ln{l l':List Int}(h:l.Nodup)(h':l'.Nodup)(e:∀v,v∈l↔v∈l'):l.length=l'.length:=((mL h h').mpr e).length_eq
theorem VU{l:List Int}(h:l.Nodup)(hm:x∈l):(l.filter fun v=>decide (v≠x)).length+1=l.length:=by
 have:((x::l.filter fun v=>decide (v≠x))).length=l.length:=Ln (iT.mpr ⟨fun h=>by simp at h,h.filter _⟩) h fun v=>by
  simp only[ic,iX,decide_eq_true_eq]
  by_cases c:v=x
  ·subst c;simp[hm]
  ·simp[c]
 simpa using this
variable{R R':Int→Int→Prop}{S L:List Int}{a b u v:Int}{i j k d s:Nat}{nb:Int→List Int}{n:Int}{σ:Int→Int}
theorem SV(h:∀u v,R u v→R' (σ u) (σ v)):∀{L:List Int},Ch R L→Ch R' (L.map σ)
 | [],_=>trivial
 | [_],_=>trivial
 |a::b::L,c=> ⟨h _ _ c.1,SV h (L:=b::L) c.2⟩
theorem Ht(h:∀u v,R u v→R' (σ u) (σ v))(inj:∀u∈L,∀v∈L,σ u=σ v→u=v)(r:Ring R L):Ring R' (L.map σ):=by
 refine⟨by rw[c9];exact r.len,?_,SV h r.ch,fun a z ha hz=>?_⟩
 ·rw[iF,jc]
  have:=iF.mp r.nd
  exact this.imp_of_mem fun{x y} hx hy ne e=>ne (inj x hx y hy e)
 ·rw[List.head?_map] at ha
  rw[List.getLast?_map] at hz
  cases e1:L.head? with
  |none=>rw[e1] at ha;cases ha
  |some x=>
   cases e2:L.getLast? with
   |none=>rw[e2] at hz;cases hz
   |some y=>
    rw[e1] at ha
    rw[e2] at hz
    have ha:σ x=a:=by simpa using ha
    have hz:σ y=z:=by simpa using hz
    rw[←ha,←hz]
    exact h _ _ (r.cl x y e1 e2)
end GrR
namespace K06
open PySem L2 L2.TL PySem.Spec PyProof.Rows
def top(i:Nat):Stmt:=iW.main.body.getD i (.Pass ⟨0,0,0,0⟩)
abbrev NJ:Stmt:=top 6
abbrev KN:Stmt:=top 7
abbrev NK:Stmt:=top 18
abbrev SW:Stmt:=top 19
abbrev KO:Stmt:=top 21
abbrev SX:Stmt:=top 22
abbrev JJ:Stmt:=top 23
abbrev NL:Stmt:=top 24
abbrev EF:Stmt:=top 25
abbrev Oa:Stmt:=top 26
abbrev Gd:Stmt:=top 27
abbrev FI:Stmt:=top 17
abbrev Cu:Stmt:=top 35
abbrev KP:Stmt:=top 9
abbrev Ob:Stmt:=top 20
abbrev VV:Stmt:=top 29
abbrev Hu:Stmt:=top 28
abbrev KQ:Stmt:=top 30
abbrev Yl:Stmt:=top 31
abbrev VW:Stmt:=top 32
abbrev NM:Stmt:=top 33
abbrev KR:Stmt:=top 34
abbrev KS:Stmt:=top 16
abbrev Ym:Stmt:=top 46
abbrev Pz:Stmt:=top 47
abbrev SY:Stmt:=top 48
abbrev Lo:Stmt:=top 49
structure Txt(mg:Str→Option Value):Prop where
 nInt:mg "int" =none
 nBool:mg "bool" =none
 nTuple:mg "tuple" =none
 nList:mg "list" =none
 nSet:mg "set" =none
 nRange:mg "range" =none
 nIsi:mg "isinstance" =none
 nMax:mg "max" =none
 nMin:mg "min" =none
 nLen:mg "len" =none
 nAll:mg "all" =none
 nSorted:mg "sorted" =none
 nRepr:mg "repr" =none
 nVE:mg "ValueError" =none
 nAny:mg "any" =none
 nEnum:mg "enumerate" =none
 iMost:∃t,mg "MOST_PLACES" =some (.int 16 t)
 nZip:mg "zip" =none
 nSum:mg "sum" =none
 iLeast:∃t,mg "LEAST_RING" =some (.int 3 t)
def dP(t:T)(a b:Int):Bool:=match t with
 | .int i=>decide (a≤i)&&decide (i≤b)
 |_=>false
def AU(n:Int)(p:Int×Int):Prop:=0≤p.1∧p.1<p.2∧p.2<n
theorem EW.cast{Z:Zx}{ρ:List (Option T)}{O:AJ}{e:Expr}{k l:Bool}(h:EW Z ρ O e k)(z:k=l):EW Z ρ O e l:=z▸h
theorem EB.cast{Z:Zx}{ρ:List (Option T)}{O:AJ}{e:Expr}{k l:Bool}(h:EB Z ρ O e k)(z:k=l):EB Z ρ O e l:=z▸h
theorem ET.cast{Z:Zx}{ρ:List (Option T)}{O:AJ}{e:Expr}{k l:T}(h:ET Z ρ O e k)(z:k=l):ET Z ρ O e l:=z▸h
section
variable{P:Program}{w:World}{K:a8}{mg:Str→Option Value}{base:Heap}
def EG:CB:=GF fun ts r=>∃t a b,ts=[t,.int a,.int b]∧Cr t=false∧r=.bl (dP t a b)
theorem VX:FnScope ["thing","least","most"] ["thing","least","most"] (AA NJ):=by ac_rfl
theorem SZ{f:Addr}{fd:iI}(F:Fun K "is_whole" "is_whole" NJ f fd)(T:Txt mg):FnOk P w K mg base (CXe P w) 1 f fd ["thing","least","most"] (Ci K EG):=by
 refine AY F VX ?_ ?_
 ·rintro ts O Φ Ξ ⟨r,⟨t,a,b,rfl,_⟩,_⟩
  rfl
 ·rintro cdv A outer s H E O Ξ hr xf _ Φ ⟨_,⟨t,a,b,rfl,ht,rfl⟩,q⟩
  refine AD (Ae (EW.eb (Cp (BF (Ef T.nIsi T.nInt bG Uu (ev 0) ht)) fun _=>CI (Ef T.nIsi T.nBool bH Ru (ev 0) ht))) (fun h=>AG (AN (Ra _ ?_))) (fun h=>Ab ?_))
  ·have:dP t a b=false:=by
    cases t<;>first|rfl|cases h
   rw[this] at q;exact q
  ·cases t with
   |int i=>exact AG (AN (Up (ev 1) (ev 0) (ev 2) (by with_unfolding_all rfl) _ q))
   |bl i=>cases h
   |raw i=>cases ht
   |_=>cases h
end
abbrev Sa:Stmt:=top 37
abbrev Sb:Stmt:=top 38
abbrev Yn:Stmt:=top 39
abbrev Sd:Stmt:=top 40
def GR(xs:List T):Prop:=∃a b c:Int,xs=[.int a,.int b,.int c]∧0≤a∧0≤c∧c<2147483648
section
variable{P:Program}{w:World}{K:a8}{mg:Str→Option Value}{base:Heap}
def Hv(K:a8):Sp:=fun vs H Q _=>∃(a:Addr) (ns:List Int),vs=[.ref a,.int 0]∧Cz K H a (ns.map V.int)∧∀i,Q (.int i) H
theorem Yo:FnScope ["_law_script","_law_k"] ["_law_script","_law_k"] (AA Sa):=by ac_rfl
theorem VY{f:Addr}{fd:iI}(F:Fun K "_law_cell_at" "_law_cell_at" Sa f fd)(T:Txt mg):FnOk P w K mg base (CXe P w) 1 f fd ["_law_script","_law_k"] (Hv K):=by
 refine F.okX Yo (fun vs H Q E h=>?_) (fun cdv A outer s H vs Q E hr h=>?_)
 ·obtain⟨a,ns,rfl,_⟩:=h
  rfl
 ·obtain⟨a,ns,rfl,hS,k⟩:=h
  refine⟨_,Km (WL (Nn Qb (pv 1) (En By (by rfl) T.nLen Rx (Dm (pv 0) FZ)) (Ai _)) (JW (JX (WQ Et (pv 0) (pv 1) (fun _ _=>rfl)))) Ng) (JW (JX JV)),?_⟩
  refine⟨_,rfl,_,rfl,a,_,rfl,.inl hS,_,_,rfl,rfl,_,rfl,?_⟩
  refine Xn (fun h1=>?_) (fun h1=>?_)
  ·have h1:(0:Int)< ((ns.map V.int).length:Int):=by simpa using h1
   cases ns with
   |nil=>simp at h1
   |cons n ns=>exact⟨_,rfl,_,rfl,a,_,0,.int n,rfl,rfl,hS,BE (j:=0) rfl,k n⟩
  ·exact k 0
def Se:CB:=fun ts O Φ _=>∃n:Int,ts=[.int n]∧∀m:Int,0≤m→m<2147483629→Φ (.int m) O
theorem Sf:FnScope ["_law_seed"] ["_law_seed"] (AA Sb):=by ac_rfl
theorem VZ{f:Addr}{fd:iI}(F:Fun K "_law_next" "_law_next" Sb f fd):FnOk P w K mg base (CXe P w) 1 f fd ["_law_seed"] (Ci K Se):=by
 refine AY F Sf ?_ ?_
 ·rintro ts O Φ Ξ ⟨n,rfl,_⟩
  rfl
 ·rintro cdv A outer s H E O Ξ hr xf _ Φ ⟨n,rfl,q⟩
  have b1:=lN (n+7919) (show(2147483647:Int)≠0 by decide)
  have b2:=k7 (n+7919) (show(0:Int)<2147483647 by decide)
  refine AD (AW 0 (ET.we (Fk (Cd (ev 0) AC) AC (by decide)) ?_) Sf.nd)
  exact AG (AN (ET.we (Fk (Cd (Cd (Mt (ev 0) (ev 0) (.inl ⟨by omega,by omega⟩)) (Mt AC (ev 0) (.inl ⟨by decide,by decide⟩))) AC) AC (by decide)) (q _ (lN _ (by decide)) (k7 _ (by decide)))))
def Wl:CB:=fun ts O Φ _=>∃c:Int,ts=[.int c]∧∀(p:Addr) (xs:List T),O p=none→GR xs→Φ (.raw (.ref p)) (Ad O p xs)
theorem Wm:FnScope ["_law_cell","_law_left"] ["_law_cell"] (AA Yn):=by ac_rfl
theorem Yp{f:Addr}{fd:iI}(F:Fun K "_law_pen_of" "_law_pen_of" Yn f fd)(T:Txt mg):FnOk P w K mg base (CXe P w) 1 f fd ["_law_cell"] (Ci K Wl):=by
 refine AY F Wm ?_ ?_
 ·rintro ts O Φ Ξ ⟨n,rfl,_⟩
  rfl
 ·rintro cdv A outer s H E O Ξ hr xf _ Φ ⟨n,rfl,q⟩
  refine AD (AW 1 (ET.we (Ga T.nMax rfl (ev 0) (Ce AC (ev 0))) ?_) Wm.nd)
  refine AG (AN (Dq (EA.wa (AI (ev 1) (AI (Uy T.nInt (ay (ev 1) (YE AC AC ⟨by decide,by decide,by decide⟩))) (AI (Fk (ev 1) AC (by decide)) AB))) ⟨by show 3≤sizeLine;decide,fun a ha=>q a _ ha ?_⟩)))
  have b1:=lN (max n (0-n)) (show(1000003:Int)≠0 by decide)
  have b2:=k7 (max n (0-n)) (show(0:Int)<1000003 by decide)
  exact⟨_,_,_,rfl,by omega,b1,by omega⟩
def BK:CB:=fun ts O Φ _=>∃(p:Addr) (xs:List T) (m:Int),ts=[.raw (.ref p),.int m]∧O p=some xs∧GR xs∧0<m∧m<1000∧∀(r:Int) (xs':List T),0≤r→r<m→GR xs'→Φ (.int r) (Ad O p xs')
theorem Sg:FnScope ["_law_pen","_law_many","_law_found"] ["_law_pen","_law_many"] (AA Sd):=by ac_rfl
theorem Va{f:Addr}{fd:iI}(F:Fun K "_law_draw" "_law_draw" Sd f fd)(G:FnT P w K mg base "_law_next" 1 ["_law_seed"] Se):FnOk P w K mg base (CXe P w) 2 f fd ["_law_pen","_law_many"] (Ci K BK):=by
 refine AY F Sg ?_ ?_
 ·rintro ts O Φ Ξ ⟨p,xs,m,rfl,_⟩
  rfl
 ·rintro cdv A outer s H E O Ξ hr xf _ Φ ⟨p,_,m,rfl,hp,⟨a,b,c,rfl,a0,c0,c1⟩,m0,m1,q⟩
  refine AD (Ae (Dc (Dd hp (ev 0) AC) AC) (fun h=>?_) (fun h=>Ab ?_))
  ·refine AD (AW 2 (ET.we (Fk (Dd hp (ev 0) AC) (ev 1) m0) ?_) Sg.nd)
   refine AD (Hi (ET.we (GY (Dd hp (ev 0) AC) (ev 1) ⟨m0,by omega⟩) (ET.we (ev 0) ⟨p,rfl,ET.we AC ⟨_,0,0,rfl,hp,rfl,?_⟩⟩)))
   exact AG (AN (ET.we (ev 2) (q _ _ (lN _ (by omega)) (k7 _ m0) ⟨a/m,b,c,rfl,Int.ediv_nonneg a0 (by omega),c0,c1⟩)))
  ·refine AD (Hi (Aj G hr xf (Bn (GD Gv (Aj G hr xf (EA.wa (AI (Dd hp (ev 0) AC) AB) ⟨c,rfl,fun u u0 u1=>?_⟩))))))
   refine ET.we AC (JA _ (Ap ⟨u+7,rfl,fun r r0 r1=>ET.we (ev 0) ⟨p,rfl,ET.we AC ⟨_,2,2,rfl,hp,rfl,?_⟩⟩⟩))
   exact AG (AN (ET.we (Fk (GY (Dd AF (ev 0) AC) AC ⟨by decide,by decide⟩) (ev 1) m0) (q _ _ (lN _ (by omega)) (k7 _ m0) ⟨a,b,r,rfl,a0,r0,by omega⟩)))
end
abbrev Ft:Stmt:=top 41
abbrev FJ:Stmt:=top 42
abbrev Ge:Stmt:=top 43
def Cv(ns:List Int)(i:Int):Int:=ns.getD i.toNat 0
def nm(ns:List Int)(p:Int×Int):Int×Int:=(min (Cv ns p.1) (Cv ns p.2),max (Cv ns p.1) (Cv ns p.2))
theorem Cw{ns:List Int}{i:Int}(h0:0≤i)(h1:i<ns.length):atI (ns.map T.int) i=some (.int (Cv ns i)):=by
 obtain⟨j,rfl⟩:=iE h0
 have hj:j<ns.length:=by omega
 have:=BE (xs:=ns.map T.int) (j:=j) (v:=.int (ns.getD j 0)) (by
  rw[e7,b6 hj]
  simp[kc,hj])
 exact this
theorem Fu{α β:Type}(f:α→β):∀(l:List α) (i:Nat),(l.eraseIdx i).map f=(l.map f).eraseIdx i
 | [],_=>rfl
 |_::_,0=>rfl
 |a::l,i+1=>by
  show f a::(l.eraseIdx i).map f=f a::(l.map f).eraseIdx i
  rw[Fu f l i]
theorem Hw{α:Type}:∀(l:List α) (i:Nat) (h:i<l.length),(l[i]::l.eraseIdx i).Perm l
 |_::_,0,_=> .refl _
 |a::l,i+1,h=> (lM.swap a (l[i]'(by simpa using h)) (l.eraseIdx i)).trans ((Hw l i (by simpa using h)).cons a)
section
variable{P:Program}{w:World}{K:a8}{mg:Str→Option Value}{base:Heap}
def KU:CB:=fun ts O Φ _=>∃(n:Int) (ps:List (Int×Int)) (ns:List Int),ts=[.tup [.int n,.tup (ps.map AE)],.tup (ns.map T.int)]∧ps.length≤300∧(∀p∈ps,0≤p.1∧p.1<ns.length∧0≤p.2∧p.2<ns.length)∧(∀z∈ns,0≤z∧z<65536)∧
 ∀qs:List (Int×Int),qs.Pairwise Eg→(∀q,q∈qs↔q∈ps.map (nm ns))→qs.length≤ps.length→Φ (.tup [.int n,.tup (qs.map AE)]) O
theorem Oc:FnScope ["_law_web","_law_names","_law_ties"] ["_law_web","_law_names"] (AA Ft):=by ac_rfl
theorem bQ:(Ah ["_law_one","_law_other"] [(("_law_names" :Str),1)]).Nodup:=by decide+kernel
theorem bR:(Ah ["_law_tie"] []).Nodup:=by decide+kernel
theorem EH{ns:List Int}{i:Int}(h0:0≤i)(h1:i<ns.length):Cv ns i∈ns:=by
 unfold Cv
 have:i.toNat<ns.length:=by omega
 simp[kc,this]
theorem Sh{f:Addr}{fd:iI}(F:Fun K "_law_named" "_law_named" Ft f fd)(Tx:Txt mg):FnOk P w K mg base (CXe P w) 2 f fd ["_law_web","_law_names"] (Ci K KU):=by
 refine AY F Oc ?_ ?_
 ·rintro ts O Φ Ξ ⟨n,ps,ns,rfl,_⟩
  rfl
 ·rintro cdv A outer s H E O Ξ hr xf _ Φ ⟨n,ps,ns,rfl,hl,hp,hn,q⟩
  have hu:(A.deeper (lE "_law_named" (AA Ft) s.heap.objs.size f cdv)).units+8<cLine:=by have:=hr.un;omega
  have hz:ps.length≤sizeLine:=jv hl (by decide)
  refine AD (Hj (i:=2) (nc:=["_law_one","_law_other"]) (cap:=[("_law_names",1)]) (by rfl) Oc.nd rfl (BU (AA Ft) ["_law_web","_law_names","_law_ties"] (by decide+kernel)) (Bl (AZ (ev 0) AC) _ (FF ps AE (fun p=>AE (Cv ns p.1,Cv ns p.2)) hz (fun x hx=> ⟨[some (.int x.1),some (.int x.2),some (.tup (ns.map T.int))],fun X' Oe He is O'=>?_⟩) ?_)))
  ·obtain⟨cl,s',H',fp,rfl⟩:=is
   have:=hp x hx
   exact⟨BZ 0 1 rfl bQ (by decide) (by decide),DH (AI (AZ (ev 2) (ev 0) (Cw this.1 this.2.1)) (AI (AZ (ev 2) (ev 1) (Cw this.2.2.1 this.2.2.2)) AB))⟩
  ·refine AG (AN (Bt (Bn (ET.we (AZ (ev 0) AC) (Bn (CJ Tx.nTuple (DJ (ps:=ps.map (nm ns)) Tx.nSorted Tx.nSet rfl hu ?_ (by simpa using hl) ?_ fun qs h1 h2 h3=> ⟨_,rfl,Ap ⟨by show 2≤sizeLine;decide,q qs h1 h2 (by simpa using h3)⟩⟩)))))))
   ·rw[i7]
    refine BJ ["_law_tie"] [] ps (fun p=>AE (Cv ns p.1,Cv ns p.2)) _ rfl (BU (AA Ft) ["_law_web","_law_names","_law_ties"] (by decide+kernel)) (BG (ev 2)) hz fun x hx=> ⟨[some (AE (Cv ns x.1,Cv ns x.2))],fun X' Oe He is O'=>?_⟩
    obtain⟨cl,s',H',fp,rfl⟩:=is
    exact⟨AL 0 bR (by decide),DH (AI (Uw Tx.nMin rfl (ev 0)) (AI (Ux Tx.nMax rfl (ev 0)) AB))⟩
   ·intro z hz
    obtain⟨p,h1,rfl⟩:=ig.mp hz
    have:=hp p h1
    have e1:=hn _ (EH this.1 this.2.1)
    have e2:=hn _ (EH this.2.2.1 this.2.2.2)
    show 0≤max _ _∧max _ _<65536
    omega
def EJ:CB:=fun ts O Φ _=>∃(p:Addr) (xs:List T) (m:Int),ts=[.raw (.ref p),.int m]∧O p=some xs∧GR xs∧0≤m∧m<100∧∀(ns:List Int) (xs':List T),ns.Perm ((iA m.toNat).map fun(i:Nat)=> (i:Int))→GR xs'→Φ (.tup (ns.map T.int)) (Ad O p xs')
theorem JK:FnScope ["_law_pen","_law_many","_law_left"] ["_law_pen","_law_many"] (AA FJ):=by ac_rfl
theorem bS:(Ah ["_law_place"] [(("_law_left" :Str),2),(("_law_pen" :Str),0)]).Nodup:=by decide+kernel
theorem Lp{f:Addr}{fd:iI}(F:Fun K "_law_names_by" "_law_names_by" FJ f fd)(Tx:Txt mg)(G:FnT P w K mg base "_law_draw" 2 ["_law_pen","_law_many"] BK):FnOk P w K mg base (CXe P w) 3 f fd ["_law_pen","_law_many"] (Ci K EJ):=by
 refine AY F JK ?_ ?_
 ·rintro ts O Φ Ξ ⟨p,xs,m,rfl,_⟩
  rfl
 ·rintro cdv A outer s H E O Ξ hr xf _ Φ ⟨p,xs,m,rfl,hp,px,m0,m1,q⟩
  refine AD (AW 2 (Ry (p1:=⟨0,0,0,0⟩) Tx.nList Tx.nRange rfl (ev 1) m0 (by omega) fun l hl=>?_) JK.nd)
  have pl:p≠l:=Mx hp hl
  refine AG (OV (l:=l) hl (CJ Tx.nTuple (JB (nc:=["_law_place"]) (cap:=[("_law_left",2),("_law_pen",0)]) rfl (BU (AA FJ) ["_law_pen","_law_many","_law_left"] (by decide+kernel)) (EI.wi (Al Tx.nRange (ev 1) ⟨by omega,by omega⟩) ?_))))
  refine⟨fun i acc O'=>i≤m.toNat∧∃(as rs:List Int) (xs':List T),acc=as.map T.int∧as.length=i∧(as++rs).Perm ((iA m.toNat).map fun(i:Nat)=> (i:Int))∧GR xs'∧O'=Ad (Ad O p xs') l (rs.map T.int),⟨jl _,[],(iA m.toNat).map fun(i:Nat)=> (i:Int),xs,rfl,rfl,.refl _,px,?_⟩,?_,?_⟩
  ·rw[La hp,i7]
   rfl
  ·rintro i t acc O' c e ⟨_,as,rs,xs',rfl,hi,pm,px',rfl⟩ hc
   obtain⟨hi2,rfl⟩:=Az e
   have hcl:c≠l:=fun z=>by rw[z,AF] at hc;cases hc
   have hcp:c≠p:=fun z=>by rw[z,AV pl,AF] at hc;cases hc
   refine⟨[some (.int (0+i)),some (.raw (.ref l)),some (.raw (.ref p))],fun X' Oe He is=>?_⟩
   have hlen:as.length+rs.length=m.toNat:=by
    have:=pm.length_eq
    simpa using this
   refine⟨?_,Dt (Jc fun X' Oe He is=>?_)⟩
   ·obtain⟨cl,s',H',fp,rfl⟩:=is
    exact AL 0 bS (by decide)
   ·obtain⟨cl,s',H',fp,rfl⟩:=is
    have ol:(Ad (Ad (Ad O p xs') l (rs.map T.int)) c (as.map T.int)) l=some (rs.map T.int):=by rw[AV (Ne.symm hcl),AF]
    have op:(Ad (Ad (Ad O p xs') l (rs.map T.int)) c (as.map T.int)) p=some xs':=by rw[AV (Ne.symm hcp),AV pl,AF]
    refine LX (ET.we (ev 1) ⟨l,rfl,⟨_,ol⟩,Aj G hr BO (EA.wa (AI (ev 2) (AI (OR Tx.nLen (ev 1) ol) AB)) ⟨p,xs',_,rfl,op,px',by simp;omega,by simp;omega,fun r xs2 r0 r1 px2=>?_⟩)⟩)
    have r1:r<rs.length:=by simpa using r1
    have hr':r.toNat<rs.length:=by omega
    refine⟨rs.map T.int,r,.int rs[r.toNat],rfl,?_,r0,by omega,by simpa using r1,by rw[e7,b6 hr'];rfl,?_⟩
    ·rw[AV (Ne.symm pl),ol]
    ·refine⟨Ad (Ad O p xs2) l ((rs.eraseIdx r.toNat).map T.int),?_,?_,?_,?_⟩
     ·have e1:(rs.map T.int).eraseIdx r.toNat=(rs.eraseIdx r.toNat).map T.int:=(Fu _ _ _).symm
      rw[e1]
      rw[Bd (p:=c) (a:=p) (Ne.symm hcp),Bd (p:=c) (a:=l) (Ne.symm hcl),Bd (p:=l) (a:=p) pl,Av,Av]
     ·rw[AV hcl,AV hcp]
      rw[AV hcl,AV hcp] at hc
      exact hc
     ·rw[c9]
      have:(1000:Nat)<sizeLine:=by decide
      omega
     ·refine⟨hi2,as++[rs[r.toNat]],rs.eraseIdx r.toNat,xs2,by simp,by simp[hi],?_,px2,rfl⟩
      refine lM.trans ?_ pm
      rw[jR]
      exact(Hw rs _ hr').append_left as
  ·rintro acc O' ⟨_,as,rs,xs',rfl,hi,pm,px',rfl⟩
   rw[BD] at hi
   have hlen:as.length+rs.length=m.toNat:=by
    have:=pm.length_eq
    simpa using this
   have:rs=[]:=mh.mp (by omega)
   subst this
   rw[jV] at pm
   refine⟨_,rfl,?_⟩
   rw[JC hl pl]
   exact q as xs' pm px'
end
local macro_rules | `(tactic| omega) => `(tactic| first | lia | omega)
open PySem L2 L2.TL PySem.Spec PyProof.Rows
section
variable{P:Program}{w:World}{K:a8}{mg:Str→Option Value}{base:Heap}
def Dh:CB:=fun ts O Φ _=>∃(m:Int) (ss:List Int),ts=[.int m,.lst (ss.map T.int)]∧0<m∧m≤16∧ss.length≤16∧(∀s∈ss,1≤s∧s<m)∧
 ∀qs:List (Int×Int),qs.Pairwise Eg→(∀q∈qs,AU m q)→qs.length≤256→Φ (.tup [.int m,.tup (qs.map AE)]) O
theorem Di:FnScope ["_law_many","_law_steps","_law_ties","_law_step","_law_place","_law_other"] ["_law_many","_law_steps"] (AA Ge):=by ac_rfl
theorem JL{m s j:Int}(hs:1≤s∧s<m)(hj:0≤j∧j<m):AU m (min j ((j+s)%m),max j ((j+s)%m)):=by
 unfold AU
 by_cases h:j+s<m
 ·rw[Int.emod_eq_of_lt (by omega) h]
  show 0≤min _ _∧min _ _<max _ _∧max _ _<_
  omega
 ·have e:j+s=(j+s-m)+m*1:=by omega
  rw[e,Int.add_mul_emod_self_left,Int.emod_eq_of_lt (by omega) (by omega)]
  show 0≤min _ _∧min _ _<max _ _∧max _ _<_
  omega
theorem AX:(1000:Nat)<sizeLine:=by decide
theorem QA{f:Addr}{fd:iI}(F:Fun K "_law_turned" "_law_turned" Ge f fd)(Tx:Txt mg):FnOk P w K mg base (CXe P w) 2 f fd ["_law_many","_law_steps"] (Ci K Dh):=by
 refine AY F Di ?_ ?_
 ·rintro ts O Φ Ξ ⟨m,ss,rfl,_⟩
  rfl
 ·rintro cdv A outer s H E O Ξ hr xf _ Φ ⟨m,ss,rfl,m0,m1,hn,hs,q⟩
  have hu:(A.deeper (lE "_law_turned" (AA Ge) s.heap.objs.size f cdv)).units+8<cLine:=by have:=hr.un;omega
  have sb:=AX
  refine AD (AW 2 (Dq (Ap ⟨jl _,fun l hl=>?_⟩)) Di.nd)
  refine AD (BI Ak.own rfl (BG (ev 1) _ ⟨fun i ρ' O'=>∃(qs:List (Int×Int)) (v3 v4 v5:Option T),ρ'=[some (.int m),some (.lst (ss.map T.int)),some (.raw (.ref l)),v3,v4,v5]∧O'=Ad O l (qs.map AE)∧(∀q∈qs,AU m q)∧qs.length≤16*i,⟨[],none,none,none,rfl,rfl,by simp,by simp⟩,?_,?_⟩))
  ·rintro i t _ _ e ⟨qs,v3,v4,v5,rfl,rfl,hq,hz⟩
   rw[e7] at e
   cases es:ss[i]? with
   |none=>rw[es] at e;cases e
   |some st=>
    rw[es] at e
    cases e
    have hst:=hs st (hZ es)
    have hi:=(ie.mp es).1
    refine⟨[some (.int m),some (.lst (ss.map T.int)),some (.raw (.ref l)),some (.int st),v4,v5],AL 3 Di.nd (by show 3<6;decide),AG (BI Ak.own rfl (EI.wi (Al Tx.nRange (ev 0) ⟨by omega,by omega⟩) ⟨fun j ρ' O'=>∃(qs:List (Int×Int)) (v4 v5:Option T),ρ'=[some (.int m),some (.lst (ss.map T.int)),some (.raw (.ref l)),some (.int st),v4,v5]∧O'=Ad O l (qs.map AE)∧(∀q∈qs,AU m q)∧qs.length≤16*i+j,⟨qs,v4,v5,rfl,rfl,hq,by omega⟩,?_,?_⟩))⟩
    ·rintro j t _ _ e ⟨qs,v4,v5,rfl,rfl,hq,hz⟩
     obtain⟨hj,rfl⟩:=Az e
     refine⟨[some (.int m),some (.lst (ss.map T.int)),some (.raw (.ref l)),some (.int st),some (.int (0+j)),v5],AL 4 Di.nd (by show 4<6;decide),?_⟩
     refine AD (AW 5 (ET.we (Fk (Cd (ev 4) (ev 3)) (ev 0) m0) ?_) Di.nd)
     refine AG (BY (Bj (ET.we (ev 2) ⟨l,rfl,⟨_,AF⟩,ET.we (DH (AI (FE Tx.nMin rfl (ev 4) (ev 5)) (AI (Ga Tx.nMax rfl (ev 4) (ev 5)) AB))) ⟨_,AF,?_,?_⟩⟩)))
     ·rw[c9];omega
     ·refine⟨qs++[(min (0+(j:Int)) ((0+(j:Int)+st)%m),max (0+(j:Int)) ((0+(j:Int)+st)%m))],_,_,rfl,?_,fun z hz=>?_,by simp;omega⟩
      ·rw[Av,iU];rfl
      ·rcases iO.mp hz with hz|hz
       ·exact hq z hz
       ·rw[e9.mp hz]
        exact JL hst ⟨by omega,by omega⟩
    ·rintro _ _ ⟨qs,v4,v5,rfl,rfl,hq,hz⟩
     rw[BD] at hz
     exact⟨qs,_,_,_,rfl,rfl,hq,by omega⟩
  ·rintro _ _ ⟨qs,v3,v4,v5,rfl,rfl,hq,hz⟩
   rw[c9] at hz
   refine Cq (p:=l) (n:=2) (ts:=qs.map AE) AF hl rfl ?_
   rw[Am hl]
   refine AG (AN (Bt (Bn (ET.we (ev 0) (Bn (CJ Tx.nTuple (DJ (ps:=qs) Tx.nSorted Tx.nSet rfl hu (ev 2) (by omega) (fun z hz=>?_) fun rs h1 h2 h3=> ⟨_,rfl,Ap ⟨by show 2≤sizeLine;decide,q rs h1 (fun z hz=>hq z ((h2 z).mp hz)) (by omega)⟩⟩)))))))
   have:=hq z hz
   unfold AU at this
   omega
end
end K06
namespace K06
open PySem L2 L2.TL PySem.Spec PyProof.Rows
abbrev Bv:Stmt:=top 44
def PO(O0:AJ)(p:Addr)(O:AJ):Prop:=∃xs,O=Ad O0 p xs∧GR xs
theorem PO.at{O0 O:AJ}{p:Addr}(h:PO O0 p O):∃xs,O p=some xs∧GR xs:=by
 obtain⟨xs,rfl,px⟩:=h
 exact⟨xs,AF,px⟩
theorem PO.step{O0 O:AJ}{p:Addr}{xs:List T}(h:PO O0 p O)(px:GR xs):PO O0 p (Ad O p xs):=by
 obtain⟨ys,rfl,_⟩:=h
 exact⟨xs,Av,px⟩
theorem PO.start{O:AJ}{p:Addr}{xs:List T}(h:O p=some xs)(px:GR xs):PO O p O:=⟨xs,(La h).symm,px⟩
section
variable{P:Program}{w:World}{K:a8}{mg:Str→Option Value}{base:Heap}
section
variable{Z:Zx}{ρ:List (Option T)}{O O0 O1:AJ}{a b:Expr}{Φ:Bf}{pos q:Pos}{p c:Addr}{m:Int}{acc:List T}
theorem KW(G:FnT Z.X.prog Z.X.w Z.X.K Z.X.mg Z.X.base "_law_draw" 2 ["_law_pen","_law_many"] BK)(hr:Room 2 Z.X.A)(xf:XFly Z.X Z.W)(po:PO O0 p O)(ha:ET Z ρ O a (.raw (.ref p)))(hb:ET Z ρ O b (.int m))(m0:0<m)(m1:m<1000)(k:∀r O',0≤r→r<m→PO O0 p O'→Φ (.int r) O')(hg:Gl Z.X "_law_draw":=by rfl)
  (he:e8 [a,b] Z.X.env=(false,eval a Z.X.env)::e8 [b] Z.X.env:=by rfl) (he2:e8 [b] Z.X.env=(false,eval b Z.X.env)::e8 [] Z.X.env:=by rfl) (hpl:(lz pos (e8 [b] Z.X.env)).any (·.1)=false:=by rfl):WE Z ρ O (.Call (.Name "_law_draw" q) [a,b] [] pos) Φ:=by
 obtain⟨xs,hp,px⟩:=po.at
 exact Aj G hr xf (EA.wa (AI ha (AI hb AB he2) he) ⟨p,xs,m,rfl,hp,px,m0,m1,fun r xs' r0 r1 px'=>k r _ r0 r1 (po.step px')⟩) hg (by decide) he hpl
theorem CK(G:FnT Z.X.prog Z.X.w Z.X.K Z.X.mg Z.X.base "_law_draw" 2 ["_law_pen","_law_many"] BK)(hr:Room 2 Z.X.A)(xf:XFly Z.X Z.W)(po:PO O0 p O)(hc:O c=none)(ha:ET Z ρ (Ad O c acc) a (.raw (.ref p)))(hb:ET Z ρ (Ad O c acc) b (.int m))(m0:0<m)(m1:m<1000)(k:∀r O',0≤r→r<m→PO O0 p O'→O' c=none→Φ (.int r) (Ad O' c acc))(hg:Gl Z.X "_law_draw":=by rfl)
  (he:e8 [a,b] Z.X.env=(false,eval a Z.X.env)::e8 [b] Z.X.env:=by rfl) (he2:e8 [b] Z.X.env=(false,eval b Z.X.env)::e8 [] Z.X.env:=by rfl) (hpl:(lz pos (e8 [b] Z.X.env)).any (·.1)=false:=by rfl):WE Z ρ (Ad O c acc) (.Call (.Name "_law_draw" q) [a,b] [] pos) Φ:=by
 obtain⟨xs,hp,px⟩:=po.at
 have hpc:p≠c:=Mx hp hc
 refine Aj G hr xf (EA.wa (AI ha (AI hb AB he2) he) ⟨p,xs,m,rfl,by rw[AV hpc];exact hp,px,m0,m1,fun r xs' r0 r1 px'=>?_⟩) hg (by decide) he hpl
 rw[Bd hpc]
 exact k r _ r0 r1 (po.step px') (by rw[AV (Ne.symm hpc)];exact hc)
end
def Od:CB:=fun ts O Φ _=>∃(p:Addr) (xs:List T) (most:Int),ts=[.raw (.ref p),.int most]∧O p=some xs∧GR xs∧1≤most∧most≤16∧∀(n:Int) (ps:List (Int×Int)) (O':AJ),1≤n→n≤most→(∀q∈ps,AU n q)→ps.length≤256→PO O p O'→Φ (.tup [.int n,.tup (ps.map AE)]) O'
def DN:List Str:=["_law_pen","_law_most","_law_way","_law_many","_law_every","_law_other","_law_side","_law_ring"]
theorem CV:FnScope DN ["_law_pen","_law_most"] (AA Bv):=by ac_rfl
theorem bT:(Ah ["_law_one"] [(("_law_other" :Str),5)]).Nodup:=by decide+kernel
theorem bU:(Ah ["_law_pair"] [(("_law_pen" :Str),0),(("_law_way" :Str),2)]).Nodup:=by decide+kernel
theorem bV:(Ah ["_law_step"] [(("_law_pen" :Str),0)]).Nodup:=by decide+kernel
theorem bW:(Ah ["_law_one","_law_other"] [(("_law_side" :Str),6)]).Nodup:=by decide+kernel
theorem Wn:(Ah ["_law_place"] []).Nodup:=by decide+kernel
theorem bX:(Ah ["_law_place"] [(("_law_pen" :Str),0)]).Nodup:=by decide+kernel
theorem bY{r:Int}(r0:0≤r)(r1:r<3):∃m:Int,atI [T.int 2,T.int 3,T.int 6] r=some (.int m)∧0<m∧m<1000:=by
 have:r=0∨r=1∨r=2:=by omega
 rcases this with rfl|rfl|rfl
 ·exact⟨2,rfl,by decide,by decide⟩
 ·exact⟨3,rfl,by decide,by decide⟩
 ·exact⟨6,rfl,by decide,by decide⟩
def Fv(i:Nat):Stmt:=(BL Bv).getD i (.Pass ⟨0,0,0,0⟩)
def bZ:Stmt→List Stmt
 | .If _ a _ _=>a
 |_=> []
abbrev zS(P:Program)(w:World)(K:a8)(mg:Str→Option Value)(base:Heap)(f:Addr)(cdv:Value)(A:iC)(outer:List Env)(s:a9)(H:Hp)(E:XK)(O:AJ)(Ξ:Value→AJ→Prop):Zx:=zB P w K mg base DN "_law_shape" (AA Bv) f cdv A outer s H E O Ξ
abbrev Em(p:Addr)(most way n:Int)(es:List (Int×Int))(v5:Option T):List (Option T):=[some (.raw (.ref p)),some (.int most),some (.int way),some (.int n),some (.lst (es.map AE)),v5,none,none]
end
local macro_rules | `(tactic| omega) => `(tactic| first | lia | omega)
open PySem L2 L2.TL PySem.Spec PyProof.Rows
abbrev DO:Stmt:=top 45
section
variable{P:Program}{w:World}{K:a8}{mg:Str→Option Value}{base:Heap}
def JM(n:Int)(p:Int×Int):Prop:=0≤p.1∧p.1<n∧0≤p.2∧p.2<n∧p.1≠p.2
def Of:CB:=fun ts O Φ _=>∃(p:Addr) (xs:List T) (most:Int),ts=[.raw (.ref p),.int most]∧O p=some xs∧GR xs∧1≤most∧most≤16∧∀(n:Int) (ps:List (Int×Int)) (O':AJ),1≤n→n≤most→(∀q∈ps,AU n q)→ps.Pairwise Eg→ps.length≤257→PO O p O'→Φ (.tup [.int n,.tup (ps.map AE)]) O'
def Hx:List Str:=["_law_pen","_law_most","_law_many","_law_ties","_law_way","_law_one"]
theorem FK:FnScope Hx ["_law_pen","_law_most"] (AA DO):=by ac_rfl
theorem NN{n:Int}{ns:List Int}(n0:0≤n)(pm:ns.Perm ((iA n.toNat).map fun(i:Nat)=> (i:Int))):(ns.length:Int)=n∧(∀z∈ns,0≤z∧z<n)∧ns.Nodup:=by
 refine⟨?_,fun z hz=>?_,?_⟩
 ·have:=pm.length_eq
  simp at this
  omega
 ·obtain⟨i,hi,rfl⟩:=ig.mp (pm.mem_iff.mp hz)
  have:=iM.mp hi
  omega
 ·refine pm.nodup_iff.mpr ?_
  show iZ _ _
  rw[jc]
  exact(List.nodup_range).imp fun h z=>h (Int.ofNat.inj z)
theorem Yq{ns:List Int}(nd:ns.Nodup){i j:Int}(hi:0≤i∧i<ns.length)(hj:0≤j∧j<ns.length)(h:i≠j):Cv ns i≠Cv ns j:=by
 unfold Cv
 have h1:i.toNat<ns.length:=by omega
 have h2:j.toNat<ns.length:=by omega
 have e1:ns.getD i.toNat 0=ns[i.toNat]:=by simp[kc,h1]
 have e2:ns.getD j.toNat 0=ns[j.toNat]:=by simp[kc,h2]
 rw[e1,e2]
 intro z
 have pw:=jn.mp nd
 rcases Nat.lt_or_gt_of_ne (show i.toNat≠j.toNat by omega) with hl|hl
 ·exact pw _ _ h1 h2 hl z
 ·exact pw _ _ h2 h1 hl z.symm
theorem Vb{n:Int}{ns:List Int}(hl:(ns.length:Int)=n)(hb:∀z∈ns,0≤z∧z<n)(nd:ns.Nodup){q:Int×Int}(h:JM n q):AU n (nm ns q):=by
 obtain⟨h1,h2,h3,h4,h5⟩:=h
 have e1:=hb _ (EH (ns:=ns) h1 (by omega))
 have e2:=hb _ (EH (ns:=ns) h3 (by omega))
 have e3:=Yq nd (i:=q.1) (j:=q.2) ⟨h1,by omega⟩ ⟨h3,by omega⟩ h5
 unfold AU nm
 show 0≤min _ _∧min _ _<max _ _∧max _ _<n
 omega
theorem Si{f:Addr}{cdv:Value}{A:iC}{outer:List Env}{s:a9}{H:Hp}{E:XK}{O0 O1:AJ}{Ξ:Value→AJ→Prop}{p l:Addr}{most n:Int}{v4 v5:Option T}{Φ:Bf}{qs:List (Int×Int)}
  (hr:Room 3 (zB P w K mg base Hx "_law_web_by" (AA DO) f cdv A outer s H E O0 Ξ).X.A) (xf:XFly (zB P w K mg base Hx "_law_web_by" (AA DO) f cdv A outer s H E O0 Ξ).X (zB P w K mg base Hx "_law_web_by" (AA DO) f cdv A outer s H E O0 Ξ).W)
  (Tx:Txt mg) (Gn:FnT P w K mg base "_law_named" 2 ["_law_web","_law_names"] KU) (Gb:FnT P w K mg base "_law_names_by" 3 ["_law_pen","_law_many"] EJ)
  (po:PO O0 p O1) (hl:O0 l=none) (hpl:p≠l) (n0:1≤n) (n1:n≤16) (hq:∀q∈qs,JM n q) (hz:qs.length≤257)
  (q:∀(ps:List (Int×Int)) (O':AJ),(∀q∈ps,AU n q)→ps.Pairwise Eg→ps.length≤257→PO O0 p O'→Φ (.tup [.int n,.tup (ps.map AE)]) O'):
  Hg (zB P w K mg base Hx "_law_web_by" (AA DO) f cdv A outer s H E O0 Ξ) [some (.raw (.ref p)),some (.int most),some (.int n),some (.raw (.ref l)),v4,v5] (Ad O1 l (qs.map AE)) [(BL DO).getD 5 (.Pass ⟨0,0,0,0⟩)] {nx:=fun _ O'=>Φ .non O',rt:=Φ}:=by
 obtain⟨xs,rfl,px⟩:=po
 have hp:Ad (Ad O0 p xs) l (qs.map AE) p=some xs:=by rw[AV hpl,AF]
 refine AG (OV (l:=l) hl (Aj Gn (hr.mono (by decide)) xf (CA (ET.we (DH (AH (ev 2) (AH (Po Tx.nTuple AF (ev 3)) AB))) (CA (Aj Gb hr xf (EA.wa (AH (ev 0) (AH (ev 2) AB)) ⟨p,xs,n,rfl,hp,px,by omega,by omega,fun ns xs' pm px'=>Ap ?_⟩)))))))
 obtain⟨h1,h2,h3⟩:=NN (by omega) pm
 refine⟨n,qs,ns,rfl,by omega,fun z hz=>?_,fun z hz=>?_,fun rs r1 r2 r3=>?_⟩
 ·have:=hq z hz
  unfold JM at this
  omega
 ·have:=h2 z hz
  omega
 ·have e:CQ (Ad (Ad (Ad O0 p xs) l (qs.map AE)) p xs') l=Ad O0 p xs':=by
   rw[Bd hpl,Av,JC hl hpl]
  show Φ _ (CQ (Ad (Ad (Ad O0 p xs) l (qs.map AE)) p xs') l)
  rw[e]
  refine q rs _ (fun z hz=>?_) r1 (by omega) ⟨xs',rfl,px'⟩
  obtain⟨y,hy,rfl⟩:=ig.mp ((r2 z).mp hz)
  exact Vb h1 h2 h3 (hq y hy)
theorem QB{f:Addr}{fd:iI}(F:Fun K "_law_web_by" "_law_web_by" DO f fd)(Tx:Txt mg)(G:FnT P w K mg base "_law_draw" 2 ["_law_pen","_law_many"] BK)(Gs:FnT P w K mg base "_law_shape" 3 ["_law_pen","_law_most"] Od)(Gn:FnT P w K mg base "_law_named" 2 ["_law_web","_law_names"] KU)(Gb:FnT P w K mg base "_law_names_by" 3 ["_law_pen","_law_many"] EJ):
  FnOk P w K mg base (CXe P w) 4 f fd ["_law_pen","_law_most"] (Ci K Of):=by
 refine AY F FK ?_ ?_
 ·rintro ts O Φ Ξ ⟨p,xs,m,rfl,_⟩
  rfl
 ·rintro cdv A outer s H E O0 Ξ hr xf _ Φ ⟨p,xs,most,rfl,hp,px,t0,t1,q⟩
  have hu:(A.deeper (lE "_law_web_by" (AA DO) s.heap.objs.size f cdv)).units<cLine:=by have:=hr.un;omega
  refine AD (YN (n:=6) (Aj Gs hr xf (EA.wa (AH (ev 0) (AH (ev 1) AB)) ⟨p,xs,most,rfl,hp,px,t0,t1,fun n ps O1 n0 n1 hps hz po1=> ⟨[some (.raw (.ref p)),some (.int most),some (.int n),some (.tup (ps.map AE)),none,none],BZ 2 3 rfl FK.nd (by decide) (by decide),?_⟩⟩)))
  have q':∀(ps:List (Int×Int)) (O':AJ),(∀q∈ps,AU n q)→ps.Pairwise Eg→ps.length≤257→PO O0 p O'→Φ (.tup [.int n,.tup (ps.map AE)]) O':=fun ps O' a b c d=>q n ps O' n0 n1 a b c d
  refine AD (AW 3 (Pn Tx.nList (ev 3) fun l hl1=>?_) FK.nd)
  have hl:O0 l=none:=by
   obtain⟨ys,rfl,_⟩:=po1
   by_cases hb:l=p
   ·rw[hb,AF] at hl1;cases hl1
   ·rw[AV hb] at hl1;exact hl1
  have hpl:p≠l:=Mx hp hl
  have hD:∀q∈ps,JM n q:=fun z hz=>by
   have:=hps z hz
   unfold AU at this
   unfold JM
   omega
  refine AD (AW 4 (CK G (hr.mono (by decide)) xf po1 hl1 (ev 0) AC (by decide) (by decide) fun way O2 w0 w1 po2 hc2=>?_) FK.nd)
  refine AD (OO (Ψ:={nx:=fun ρ' O'=>∃(qs:List (Int×Int)) (O3:AJ),ρ'=[some (.raw (.ref p)),some (.int most),some (.int n),some (.raw (.ref l)),some (.int way),none]∧O'=Ad O3 l (qs.map AE)∧O3 l=none∧PO O0 p O3∧(∀q∈qs,JM n q)∧qs.length≤256,rt:=Φ}) (Ae (EW.eb (Fl (Dc (ev 4) AC) fun _=>Dr (SB hu AF (ev 3)))) (fun h=>?_) (fun h=>Ab ⟨ps,O2,rfl,rfl,hc2,po2,hD,hz⟩)) ?_ (fun _ _ z=>z) (fun _ _ z=>z) (fun _ _ z=>z))
  ·have h:(decide (way=0)&&!(ps.map AE).isEmpty)=true:=h
   have hne:0<ps.length:=by
    simp at h
    exact List.length_pos_iff.mpr h.2
   refine AG (BY (LX (ET.we (ev 3) ⟨l,rfl,⟨_,AF⟩,CK G (hr.mono (by decide)) xf po2 hc2 (ev 0) (OR Tx.nLen (ev 3) AF) (by simp;omega) (by simp;omega) fun r O3 r0 r1 po3 hc3=>?_⟩)))
   have r1:r<ps.length:=by simpa using r1
   have hr':r.toNat<ps.length:=by omega
   refine⟨ps.map AE,r,AE ps[r.toNat],rfl,AF,r0,by omega,by simpa using r1,by rw[e7,b6 hr'];rfl,?_⟩
   refine⟨ps.eraseIdx r.toNat,O3,rfl,by rw[Av,Fu],hc3,po3,fun z hz=>hD z (List.mem_of_mem_eraseIdx hz),?_⟩
   have:=List.length_eraseIdx_le ps r.toNat
   omega
  ·rintro _ _ ⟨qs,O3,rfl,rfl,hc3,po3,hq,hz3⟩
   refine AD (Ae (EW.eb (Fl (Dc (ev 4) AC) fun _=>Dr (OL (ev 2) AC))) (fun h=>?_) (fun h=>Ab (Si hr xf Tx Gn Gb po3 hl hpl n0 (by omega) hq (by omega) q')))
   have h:(decide (way=1)&&decide (1<n))=true:=h
   have n2:1<n:=by simp at h;exact h.2
   refine AD (AW 5 (CK G (hr.mono (by decide)) xf po3 hc3 (ev 0) (ev 2) (by omega) (by omega) fun one O4 o0 o1 po4 hc4=>?_) FK.nd)
   refine AG (BY (Bj (ET.we (ev 3) ⟨l,rfl,⟨_,AF⟩,?_⟩)))
   refine Bt (CA (ET.we (ev 5) (CA ?_)))
   refine GD QZ (GD Gv (ET.we (Cd (ev 5) AC) ?_))
   refine CK G (hr.mono (by decide)) xf po4 hc4 (ev 0) (Ce (ev 2) AC) (by omega) (by omega) fun r O5 r0 r1 po5 hc5=>?_
   refine JA _ (ET.we (ev 2) (Rg (C:=fun _ j=>0<j) (show 0<n by omega) _ ?_))
   refine Ap ⟨by show 2≤sizeLine;decide,_,AF,?_,?_⟩
   ·rw[c9]
    have:=AX
    omega
   ·rw[Av]
    have e:(qs.map AE++[T.tup [.int one,.int ((one+1+r)%n)]])=(qs++[(one,(one+1+r)%n)]).map AE:=by rw[iU];rfl
    rw[e]
    refine Si hr xf Tx Gn Gb po5 hl hpl n0 (by omega) (fun z hz=>?_) (by simp;omega) q'
    rcases iO.mp hz with hz|hz
    ·exact hq z hz
    ·rw[e9.mp hz]
     have:=JL (m:=n) (s:=1+r) (j:=one) ⟨by omega,by omega⟩ ⟨o0,o1⟩
     unfold AU at this
     have e2:one+1+r=one+(1+r):=by omega
     rw[e2]
     have b0:=lN (one+(1+r)) (show n≠0 by omega)
     have b1:=k7 (one+(1+r)) (show 0<n by omega)
     show 0≤one∧one<n∧0≤(one+(1+r))%n∧(one+(1+r))%n<n∧one≠(one+(1+r))%n
     omega
end
end K06
namespace K06
local macro_rules | `(tactic| omega) => `(tactic| first | lia | omega)
open PySem L2 L2.TL PySem.Spec PyProof.Rows Gr
section
variable{P:Program}{w:World}{K:a8}{mg:Str→Option Value}{base:Heap}{CP:Addr}
def Gh:CB:=GF fun ts r=>∃n u t,ts=[.tup [.int n,u],t]∧Cr t=false∧r=.bl (dP t 0 (n-1))
theorem Vc:FnScope ["web","thing"] ["web","thing"] (AA NK):=by ac_rfl
theorem Sj{f:Addr}{fd:iI}(F:Fun K "is_place" "is_place" NK f fd)(G:FnT P w K mg base "is_whole" 1 ["thing","least","most"] EG):FnOk P w K mg base (CXe P w) 2 f fd ["web","thing"] (Ci K Gh):=by
 refine AY F Vc ?_ ?_
 ·rintro ts O Φ Ξ ⟨r,⟨n,u,t,rfl,_⟩,_⟩
  rfl
 ·rintro cdv A outer s H E O Ξ hr xf _ Φ ⟨_,⟨n,u,t,rfl,ht,rfl⟩,q⟩
  exact AG (AN (ET.we (AS G hr xf (AH (ev 1) (AH AC (AH (Ce (AZ (ev 0) AC) AC) AB))) ⟨t,0,n-1,rfl,ht,rfl⟩) q))
theorem Yr:FnScope ["web","thing"] ["web","thing"] (AA SW):=by ac_rfl
def Af(qs:List (Int×Int))(i:Nat):List Int:=qs.filterMap fun p=>if p.1=(i:Int) then some p.2 else if p.2=(i:Int) then some p.1 else none
theorem Lq{qs:List (Int×Int)}{p:Int×Int}{i:Nat}:Af (qs++[p]) i=Af qs i++(if p.1=(i:Int) then[p.2] else if p.2=(i:Int) then[p.1] else[]):=by
 unfold Af
 rw[nL]
 congr 1
 by_cases h:p.1=(i:Int)
 ·simp[h]
 ·by_cases h2:p.2=(i:Int)
  ·simp[h,h2]
  ·simp[h,h2]
theorem CM{qs:List (Int×Int)}{i:Nat}:(Af qs i).length≤qs.length:=List.length_filterMap_le ..
def Dj(n:Int)(ps:List (Int×Int)):T:=.lst ((iA n.toNat).map fun i=> .lst ((Af ps i).map T.int))
structure Nst(n:Int)(O:AJ)(l:Addr)(qs:List (Int×Int))(rs:List (Addr×List T)):Prop where
 len:(rs.length:Int)=n
 nd:(rs.map kI).Nodup
 ne:∀r∈rs,r.1≠l
 fr:∀r∈rs,O r.1=none
 val:∀(i:Nat) r,rs[i]?=some r→r.2=(Af qs i).map T.int
theorem FM{rs:List (Addr×List T)}{i:Nat}{r:Addr×List T}{vs:List T}(h:rs[i]?=some r):(rs.set i (r.1,vs)).map kI=rs.map kI:=VG (us:=r.2) h
theorem ba{O:AJ}{rs:List (Addr×List T)}{l:Addr}{i:Nat}{r:Addr×List T}{us:List T}(e:rs[i]?=some r)(hn:(rs.map kI).Nodup)(hl:∀r∈rs,r.1≠l):
  Ad (Ad (Kj O rs) l (rs.map IS)) r.1 us=Ad (Kj O (rs.set i (r.1,us))) l ((rs.set i (r.1,us)).map IS):=by
 rw[Bd (hl r (hZ e)),VF (us:=r.2) hn e]
 congr 1
 have:=FM (vs:=us) e
 have e1:∀rs:List (Addr×List T),rs.map IS=(rs.map kI).map fun a=>T.raw (.ref a):=fun rs=>by rw[i7];rfl
 rw[e1,e1,this]
theorem Nst.set2{n:Int}{O:AJ}{l:Addr}{qs:List (Int×Int)}{rs:List (Addr×List T)}(h:Nst n O l qs rs){a b:Nat}(hab:a≠b){ra rb:Addr×List T}(ea:rs[a]?=some ra)(eb:rs[b]?=some rb):
  Nst n O l (qs++[((a:Int),(b:Int))]) ((rs.set a (ra.1,ra.2++[T.int b])).set b (rb.1,rb.2++[T.int a])):=by
 have eb':(rs.set a (ra.1,ra.2++[T.int b]))[b]?=some rb:=by rw[i6 hab];exact eb
 have m1:=FM (vs:=ra.2++[T.int b]) ea
 have m2:=FM (vs:=rb.2++[T.int a]) eb'
 have hm:∀r∈((rs.set a (ra.1,ra.2++[T.int b])).set b (rb.1,rb.2++[T.int a])),∃r'∈rs,r'.1=r.1:=fun r hr=>by
  have:r.1∈(((rs.set a (ra.1,ra.2++[T.int b])).set b (rb.1,rb.2++[T.int a])).map kI):=oy hr
  rw[m2,m1] at this
  obtain⟨r',h1,h2⟩:=ig.mp this
  exact⟨r',h1,h2⟩
 refine⟨by rw[lL,lL];exact h.len,by rw[m2,m1];exact h.nd,fun r hr=>?_,fun r hr=>?_,fun i r e=>?_⟩
 ·obtain⟨r',h1,h2⟩:=hm r hr
  rw[←h2];exact h.ne r' h1
 ·obtain⟨r',h1,h2⟩:=hm r hr
  rw[←h2];exact h.fr r' h1
 ·have la:=(ie.mp ea).1
  have lb:=(ie.mp eb).1
  rw[Lq,iU]
  by_cases h1:i=b
  ·subst h1
   rw[jb (by rw[lL];exact lb)] at e
   cases e
   have:¬((a:Int)=(i:Int)):=by omega
   show rb.2++[T.int a]=_
   rw[h.val i rb eb]
   simp[this]
  ·rw[i6 (fun z=>h1 z.symm)] at e
   by_cases h2:i=a
   ·subst h2
    rw[jb la] at e
    cases e
    show ra.2++[T.int b]=_
    rw[h.val i ra ea]
    simp
   ·rw[i6 (fun z=>h2 z.symm)] at e
    have n1:¬((a:Int)=(i:Int)):=by omega
    have n2:¬((b:Int)=(i:Int)):=by omega
    rw[h.val i r e]
    simp[n1,n2]
theorem Nst.tree{n:Int}{O:AJ}{l:Addr}{ps:List (Int×Int)}{rs:List (Addr×List T)}(h:Nst n O l ps rs):T.lst (rs.map fun r=>T.lst r.2)=Dj n ps:=by
 have hl:=h.len
 unfold Dj
 congr 1
 apply jy
 intro i
 rw[e7,e7]
 by_cases hi:i<rs.length
 ·rw[b6 hi,kQ (by omega)]
  show some (T.lst rs[i].2)=_
  rw[h.val i rs[i] (b6 hi)]
  rfl
 ·rw[jh (by omega),jh (by rw[jQ];omega)]
  rfl
def CW:CB:=GF fun ts r=>∃n ps,ts=[Ar n ps]∧0≤n∧n≤200∧GH n ps∧ps.length≤200∧r=Dj n ps
theorem KY:FnScope ["web","nears","a","b"] ["web"] (AA KO):=by ac_rfl
theorem bb:(Ah ["place"] []).Nodup:=by decide+kernel
theorem Sk{f:Addr}{fd:iI}(F:Fun K "nears_of" "nears_of" KO f fd)(Tx:Txt mg):FnOk P w K mg base (CXe P w) 1 f fd ["web"] (Ci K CW):=by
 refine AY F KY ?_ ?_
 ·rintro ts O Φ Ξ ⟨r,⟨n,ps,rfl,_⟩,_⟩
  rfl
 ·rintro cdv A outer s H E O Ξ hr xf _ Φ ⟨_,⟨n,ps,rfl,n0,n1,hw,hl,rfl⟩,q⟩
  have sb:=AX
  refine AD (JH (i:=1) (nc:=["place"]) (cap:=[]) (by rfl) KY.nd rfl (BU (AA KO) ["web","nears","a","b"] (by decide+kernel)) (EI.wi (Al Tx.nRange (AZ (ev 0) AC) ⟨by omega,by omega⟩) ?_))
  refine⟨fun i acc O'=>i≤200∧∃as:List Addr,acc=(as.map fun a=> (a,([]:List T))).map IS∧as.length=i∧as.Nodup∧(∀a∈as,O a=none)∧O'=Kj O (as.map fun a=> (a,[])),⟨by omega,[],rfl,rfl,by simp,(fun _ h=>by cases h),rfl⟩,?_,?_⟩
  ·rintro i t acc O' c e ⟨_,as,rfl,hal,hnd,hfr,rfl⟩ hc
   obtain⟨hi,rfl⟩:=Az e
   refine⟨[some (.int (0+(i:Int)))],fun X' Oe He is=> ⟨?_,Dt (Jc fun X' Oe He is=>?_)⟩⟩
   ·obtain⟨cl,s',H',fp,rfl⟩:=is
    exact AL 0 bb (by decide)
   ·obtain⟨cl,s',H',fp,rfl⟩:=is
    refine Dq (Ap ⟨jl _,fun p hp=>?_⟩)
    have hpc:p≠c:=fun z=>by rw[z,AF] at hp;cases hp
    rw[AV hpc] at hp
    have hpa:p∉as:=fun z=>by
     rw[Ej (rs:=as.map fun a=> (a,[])) (r:=(p,[])) (by rw[i7];simpa[Function.comp_def] using hnd) (oy z)] at hp
     cases hp
    have hpO:O p=none:=by
     rw[Dx fun r hr=>by
      obtain⟨a,ha,rfl⟩:=ig.mp hr
      exact fun z=>hpa (z▸ha)] at hp
     exact hp
    refine⟨Ad (Kj O (as.map fun a=> (a,[]))) p [],Bd hpc,by rw[AV hpc.symm];exact hc,by rw[c9,c9];omega,by omega,as++[p],by rw[iU,iU];rfl,by simp;omega,?_,fun a ha=>?_,?_⟩
    ·rw[jd]
     refine⟨hnd,by simp,fun a ha b hb z=>?_⟩
     rw[e9.mp hb] at z
     exact hpa (z▸ha)
    ·rcases iO.mp ha with ha|ha
     ·exact hfr a ha
     ·rw[e9.mp ha];exact hpO
    ·rw[iU];exact(SL (r:=(p,[]))).symm
  ·rintro acc O' ⟨_,as,rfl,hal,hnd,hfr,rfl⟩ l hlO
   rw[BD] at hal
   have hkeys:((as.map fun a=> (a,([]:List T))).map kI)=as:=by rw[i7];simp[Function.comp_def]
   have nst0:Nst n O l [] (as.map fun a=> (a,([]:List T))):=by
    refine⟨by rw[c9];omega,by rw[hkeys];exact hnd,fun r hr z=>?_,fun r hr=>?_,fun i r e=>?_⟩
    ·rw[←z,Ej (by rw[hkeys];exact hnd) hr] at hlO
     cases hlO
    ·obtain⟨a,ha,rfl⟩:=ig.mp hr
     exact hfr a ha
    ·have:=hZ e
     obtain⟨a,ha,rfl⟩:=ig.mp this
     rfl
   have hlO':O l=none:=by
    rw[Dx nst0.ne] at hlO
    exact hlO
   refine AD (BI Ak.own rfl (EI.wi (Bl (AZ (ev 0) AC)) ⟨fun j ρ' O'=>∃rs v2 v3,ρ'=[some (Ar n ps),some (.raw (.ref l)),v2,v3]∧O'=Ad (Kj O rs) l (rs.map IS)∧Nst n O l (ps.take j) rs,⟨_,none,none,rfl,rfl,by rw[oT];exact nst0⟩,?_,?_⟩))
   ·rintro j t _ _ e ⟨rs,v2,v3,rfl,rfl,nst⟩
    rw[e7] at e
    cases ec:ps[j]? with
    |none=>rw[ec] at e;cases e
    |some z=>
     rw[ec] at e
     cases e
     have hb:=hw z (hZ ec)
     have hlen:=nst.len
     have htl:(ps.take j).length≤200:=by rw[iH];omega
     obtain⟨a,ea⟩:=iE hb.1
     obtain⟨b,eb⟩:=iE (show 0≤z.2 by omega)
     have ha:a<rs.length:=by omega
     have hb':b<rs.length:=by omega
     have hab:a≠b:=by omega
     have ga:=b6 ha
     have gb:(rs.set a (rs[a].1,rs[a].2++[T.int b]))[b]?=some rs[b]:=by rw[i6 hab];exact b6 hb'
     have m1:=FM (vs:=rs[a].2++[T.int b]) ga
     have nd1:((rs.set a (rs[a].1,rs[a].2++[T.int b])).map kI).Nodup:=by rw[m1];exact nst.nd
     have ne1:∀r∈rs.set a (rs[a].1,rs[a].2++[T.int b]),r.1≠l:=fun r hr=>by
      have:r.1∈(rs.set a (rs[a].1,rs[a].2++[T.int b])).map kI:=oy hr
      rw[m1] at this
      obtain⟨r',h1,h2⟩:=ig.mp this
      rw[←h2];exact nst.ne r' h1
     have la:rs[a].2.length≤200:=by rw[nst.val a rs[a] ga,c9];exact jv CM htl
     have lb:rs[b].2.length≤200:=by rw[nst.val b rs[b] (b6 hb'),c9];exact jv CM htl
     have ez:z=((a:Int),(b:Int)):=by rw[←ea,←eb]
     subst ez
     refine⟨[some (Ar n ps),some (.raw (.ref l)),some (.int a),some (.int b)],BZ 2 3 rfl KY.nd (by show 2<4;decide) (by show 3<4;decide),?_⟩
     refine AD (BY (Bj (ET.we (Dd (ts:=rs.map IS) AF (ev 1) (ev 2) (BE (by rw[e7,ga];rfl))) ⟨rs[a].1,rfl,⟨rs[a].2,?_⟩,ET.we (ev 3) ⟨rs[a].2,?_,by omega,?_⟩⟩)))
     ·rw[AV (nst.ne _ (jg ha))];exact Ej nst.nd (jg ha)
     ·rw[AV (nst.ne _ (jg ha))];exact Ej nst.nd (jg ha)
     ·rw[ba ga nst.nd nst.ne]
      refine AG (BY (Bj (ET.we (Dd (ts:=(rs.set a (rs[a].1,rs[a].2++[T.int b])).map IS) AF (ev 1) (ev 3) (BE (by rw[e7,gb];rfl))) ⟨rs[b].1,rfl,⟨rs[b].2,?_⟩,ET.we (ev 2) ⟨rs[b].2,?_,by omega,?_⟩⟩)))
      ·rw[AV (ne1 _ (hZ gb))];exact Ej nd1 (hZ gb)
      ·rw[AV (ne1 _ (hZ gb))];exact Ej nd1 (hZ gb)
      ·rw[ba gb nd1 ne1]
       refine⟨_,_,_,rfl,rfl,?_⟩
       have:ps.take (j+1)=ps.take j++[((a:Int),(b:Int))]:=by
        rw[jt,ec];rfl
       rw[this]
       exact nst.set2 hab ga (b6 hb')
   ·rintro _ _ ⟨rs,v2,v3,rfl,rfl,nst⟩
    rw[c9,jj] at nst
    refine SN nst.nd nst.ne nst.fr nst.fr ?_
    refine Cq (p:=l) (n:=1) (ts:=rs.map fun r=>T.lst r.2) AF hlO' rfl ?_
    rw[Am hlO']
    refine AG (AN (ET.we (ev 1) ?_))
    show Φ (T.lst (rs.map fun r=>T.lst r.2)) O
    rw[nst.tree]
    exact q
end
end K06
namespace K06
open PySem L2 L2.TL PySem.Spec PyProof.Rows Gr
section
variable{P:Program}{w:World}{K:a8}{mg:Str→Option Value}{base:Heap}{CP:Addr}
theorem EK{n:Int}{ps:List (Int×Int)}(hw:GH n ps){i:Nat}{v:Int}:v∈Af ps i↔Adj ps (i:Int) v:=by
 unfold Af Adj
 rw[k6]
 constructor
 ·rintro⟨p,hp,e⟩
  by_cases h:p.1=(i:Int)
  ·rw[if_pos h] at e
   cases e
   exact .inl (by rw[←h];exact hp)
  ·rw[if_neg h] at e
   by_cases h2:p.2=(i:Int)
   ·rw[if_pos h2] at e
    cases e
    exact .inr (by rw[←h2];exact hp)
   ·rw[if_neg h2] at e;cases e
 ·rintro(h|h)
  ·exact⟨_,h,by simp⟩
  ·have:=hw _ h
   simp only at this
   exact⟨_,h,by rw[if_neg (by omega)];simp⟩
theorem Sl{n:Int}{ps:List (Int×Int)}{i:Nat}(h:(i:Int)<n):atI ((iA n.toNat).map fun i=>T.lst ((Af ps i).map T.int)) (i:Int)=some (.lst ((Af ps i).map T.int)):=
 BE (by rw[e7,kQ (by omega)];rfl)
theorem KZ{m:Nat}{i:Nat}(h:i<m):PU m (i:Int)=some i:=by
 unfold PU
 rw[if_pos (by omega),if_pos (by omega)]
 rfl
structure WebN(n:Int)(ps:List (Int×Int)):Prop where
 n0:0≤n
 n1:n≤200
 hw:GH n ps
 hl:ps.length≤200
theorem Ys:FnScope ["web","place"] ["web","place"] (AA SX):=by ac_rfl
def Aq:Option Nat→T
 |none=> .non
 |some d=> .int d
theorem Hy{x:Option Nat}:Cr (Aq x)=false:=by cases x<;>rfl
theorem Lr{x:Option Nat}:CU (Aq x)=x.isNone:=by cases x<;>rfl
def NO:CB:=fun ts O Φ _=>∃n ps S,ts=[Dj n ps,.lst (S.map T.int)]∧WebN n ps∧(∀z∈S,0≤z∧z<n)∧∀fs,All n ps S fs→Φ (.lst (fs.map Aq)) O
def Sm:List Str:=["nears","starts","fars","start","border","steps","beyond","place","near"]
theorem Cg:FnScope Sm ["nears","starts"] (AA JJ):=by ac_rfl
theorem bf:(Ah ["near"] []).Nodup:=by decide+kernel
def fc(i:Nat):Stmt:=(BL JJ).getD i (.Pass ⟨0,0,0,0⟩)
def Ls:Stmt→List Stmt
 | .While _ b _ _=>b
 | .For _ _ b _ _=>b
 |_=> []
def fg(i:Nat):Stmt:=(Ls (fc 4)).getD i (.Pass ⟨0,0,0,0⟩)
variable{f:Addr}{cdv:Value}{A:iC}{outer:List Env}{s:a9}{H:Hp}{E:XK}{O:AJ}{Ξ:Value→AJ→Prop}{n:Int}{ps:List (Int×Int)}{S bs:List Int}{l lb:Addr}
abbrev zF(P:Program)(w:World)(K:a8)(mg:Str→Option Value)(base:Heap)(f:Addr)(cdv:Value)(A:iC)(outer:List Env)(s:a9)(H:Hp)(E:XK)(O:AJ)(Ξ:Value→AJ→Prop):Zx:=zB P w K mg base Sm "fars_from" (AA JJ) f cdv A outer s H E O Ξ
abbrev GS(O:AJ)(l lb:Addr)(fs:List (Option Nat))(BS:List Int):AJ:=Ad (Ad O l (fs.map Aq)) lb (BS.map T.int)
end
section
variable{P:Program}{w:World}{K:a8}{mg:Str→Option Value}{base:Heap}{CP:Addr}{f:Addr}{cdv:Value}{A:iC}{outer:List Env}{s:a9}{H:Hp}{E:XK}{O:AJ}{Ξ:Value→AJ→Prop}{n:Int}{ps:List (Int×Int)}{S bs:List Int}{l lb:Addr}
theorem Vd:FnScope ["web","one","other"] ["web","one","other"] (AA NL):=by ac_rfl
end
open GrR
abbrev Bg(rows:List (List Int)):T:=.lst (rows.map fun r=> .lst (r.map T.int))
def Rw(rows:List (List Int))(u v:Int):Prop:=0≤u∧v∈rows.getD u.toNat []
structure RowsN(n:Int)(rows:List (List Int)):Prop where
 len:(rows.length:Int)=n
 n1:n≤200
 hw:bP n (Rw rows)
theorem Lu{rows:List (List Int)}{i:Nat}{v:Int}:v∈rows.getD i []↔Rw rows (i:Int) v:=by
 unfold Rw
 rw[iS]
 exact⟨fun h=> ⟨by omega,h⟩,fun h=>h.2⟩
theorem Ka{rows:List (List Int)}{i:Nat}(h:i<rows.length):atI (rows.map fun r=>T.lst (r.map T.int)) (i:Int)=some (.lst ((rows.getD i []).map T.int)):=
 BE (by rw[e7,b6 h];simp[kc,h])
theorem Sn{R:Int→Int→Prop}{S:List Int}{v:Int}:IsD R S v 0↔v∈S:=by
 constructor
 ·rintro⟨w,_⟩
  cases w with
  |«at» h=>exact h
 ·intro h
  exact⟨.at h,fun j hj=>by omega⟩
section
variable{P:Program}{w:World}{K:a8}{mg:Str→Option Value}{base:Heap}{f:Addr}{cdv:Value}{A:iC}{outer:List Env}{s:a9}{H:Hp}{E:XK}{O:AJ}{Ξ:Value→AJ→Prop}{n:Int}{rows:List (List Int)}{S bs:List Int}{l lb:Addr}
def Gi:CB:=fun ts O Φ _=>∃n rows S,ts=[Bg rows,.lst (S.map T.int)]∧RowsN n rows∧(∀z∈S,0≤z∧z<n)∧∀fs,All n (Rw rows) S fs→Φ (.lst (fs.map Aq)) O
abbrev GT(n:Int)(rows:List (List Int))(S:List Int)(l:Addr)(v3:Option T)(bs:List Int)(k:Nat)(v6 v7 v8:Option T):List (Option T):=[some (Bg rows),some (.lst (S.map T.int)),some (.raw (.ref l)),v3,some (.lst (bs.map T.int)),some (.int (k:Int)),v6,v7,v8]
theorem QC{v3 v7:Option T}{k:Nat}{fs:List (Option Nat)}{BS ds:List Int}{u:Int}{v:Nat}{Φ:Bf}{N Bk Ct:Jw}(hll:lb≠l)(n1:n≤200)(hv:(v:Int)<n)(m:Mid n (Rw rows) S k fs BS ds)(nd:BS.Nodup)(hw:bP n (Rw rows))(hS:∀z∈S,0≤z∧z<n)(hu:IsD (Rw rows) S u k)(a:Rw rows u v)
  (q:∀fs BS,Mid n (Rw rows) S k fs BS (ds++[(v:Int)])→BS.Nodup→N (GT n rows S l v3 bs (k+1) (some (.raw (.ref lb))) v7 (some (.int v))) (GS O l lb fs BS)):
  Hg (zF P w K mg base f cdv A outer s H E O Ξ) (GT n rows S l v3 bs (k+1) (some (.raw (.ref lb))) v7 (some (.int v))) (GS O l lb fs BS) (Ls ((Ls (fg 2)).getD 0 (.Pass ⟨0,0,0,0⟩))) {nx:=N,rt:=Φ,bk:=Bk,ct:=Ct}:=by
 have sb:=AX
 have hl:=m.len
 have hlt:v<fs.length:=by omega
 have gl:GS O l lb fs BS l=some (fs.map Aq):=by
  show Ad (Ad O l _) lb _ l=_
  rw[AV hll.symm,AF]
 have gv:atI (fs.map Aq) (v:Int)=some (Aq fs[v]):=BE (by rw[e7,b6 hlt];rfl)
 refine AG (Ae (Ei Hy (Dd gl (ev 2) (ev 8) gv)) (fun h=>?_) (fun h=>Ab ?_))
 ·rw[Lr] at h
  have hn:fs[(v:Int).toNat]?=some none:=by
   rw[iS,b6 hlt]
   cases z:fs[v] with
   |none=>rfl
   |some d=>rw[z] at h;cases h
  have hb:BS.length≤n.toNat:=Gr.Ek nd fun z hz=> (m.sub z hz).1.inb hw hS
  refine AD (Hi (ET.we (ev 5) (ET.we (ev 2) ⟨l,rfl,ET.we (ev 8) ⟨_,_,v,rfl,gl,by rw[c9];exact KZ hlt,?_⟩⟩)))
  have eo:Ad (GS O l lb fs BS) l ((fs.map Aq).set v (.int ((k+1:Nat):Int)))=GS O l lb (fs.set v (some (k+1))) BS:=by
   show Ad (Ad (Ad O l _) lb _) l _=_
   rw[Bd hll.symm,Av]
   show _=Ad (Ad O l ((fs.set v (some (k+1))).map Aq)) lb _
   rw[p9]
   rfl
  rw[eo]
  refine AG (BY (Bj (ET.we (ev 6) ⟨lb,rfl,⟨_,AF⟩,ET.we (ev 8) ⟨BS.map T.int,AF,by rw[c9];omega,?_⟩⟩)))
  have m2:=m.hit (v:=(v:Int)) (by omega) hv hn hu a
  rw[iS] at m2
  have:=q _ _ m2 (by
   rw[jd]
   refine⟨nd,by simp,fun x hx y hy z=>?_⟩
   rw[e9.mp hy] at z
   exact m.fresh (by omega) hv hn (z▸hx))
  have e2:Ad (GS O l lb (fs.set v (some (k+1))) BS) lb (BS.map T.int++[T.int v])=GS O l lb (fs.set v (some (k+1))) (BS++[(v:Int)]):=by
   show Ad (Ad (Ad O l _) lb _) lb _=Ad (Ad O l _) lb _
   rw[Av,iU]
   rfl
  rw[e2]
  exact this
 ·rw[Lr] at h
  cases z:fs[v] with
  |none=>rw[z] at h;cases h
  |some d=>exact q fs BS (m.miss (by omega) hv (d:=d) (by rw[iS,b6 hlt,z])) nd
theorem NP{v3 v8:Option T}{k:Nat}{fs:List (Option Nat)}{BS ds:List Int}{u:Nat}{Φ:Bf}{N Bk Ct:Jw}(hll:lb≠l)(hrl:(rows.length:Int)=n)(n1:n≤200)(hu0:(u:Int)<n)(m:Mid n (Rw rows) S k fs BS ds)(nd:BS.Nodup)(hw:bP n (Rw rows))(hS:∀z∈S,0≤z∧z<n)(hu:IsD (Rw rows) S u k)
  (q:∀v8 fs BS ds',Mid n (Rw rows) S k fs BS ds'→BS.Nodup→(∀v∈ds,v∈ds')→(∀v,Rw rows u v→v∈ds')→N (GT n rows S l v3 bs (k+1) (some (.raw (.ref lb))) (some (.int u)) v8) (GS O l lb fs BS)):
  Hg (zF P w K mg base f cdv A outer s H E O Ξ) (GT n rows S l v3 bs (k+1) (some (.raw (.ref lb))) (some (.int u)) v8) (GS O l lb fs BS) (Ls (fg 2)) {nx:=N,rt:=Φ,bk:=Bk,ct:=Ct}:=by
 refine AG (BI Ak.own rfl (EI.wi (BG (DI (ev 0) (ev 7) (Ka (by omega)))) ⟨fun j ρ' O'=>∃v8 fs BS ds',ρ'=GT n rows S l v3 bs (k+1) (some (.raw (.ref lb))) (some (.int u)) v8∧O'=GS O l lb fs BS∧Mid n (Rw rows) S k fs BS ds'∧BS.Nodup∧(∀v∈ds,v∈ds')∧∀v∈(rows.getD u []).take j,v∈ds',⟨v8,fs,BS,ds,rfl,rfl,m,nd,fun _ h=>h,fun v h=>by simp at h⟩,?_,?_⟩))
 ·rintro j t _ _ e ⟨v8,fs,BS,ds',rfl,rfl,m,nd,h1,h2⟩
  rw[e7] at e
  cases ec:(rows.getD u [])[j]? with
  |none=>rw[ec] at e;cases e
  |some z=>
   rw[ec] at e
   cases e
   have a:=Lu.mp (hZ ec)
   have hb:=hw _ _ a
   obtain⟨v,rfl⟩:=iE hb.1
   refine⟨GT n rows S l v3 bs (k+1) (some (.raw (.ref lb))) (some (.int u)) (some (.int v)),AL 8 Cg.nd (by show 8<9;decide),QC hll n1 hb.2 m nd hw hS hu a fun fs' bey' m' nd'=> ⟨_,_,_,_,rfl,rfl,m',nd',fun x hx=>kK _ (h1 x hx),fun x hx=>?_⟩⟩
   rw[jt,ec] at hx
   rcases iO.mp hx with hx|hx
   ·exact kK _ (h2 x hx)
   ·exact jr _ hx
 ·rintro _ _ ⟨v8,fs,BS,ds',rfl,rfl,m,nd,h1,h2⟩
  rw[c9,jj] at h2
  exact q v8 fs BS ds' m nd h1 fun v a=>h2 v (Lu.mpr a)
theorem NQ{v3 v6 v7 v8:Option T}{k:Nat}{fs:List (Option Nat)}{Φ:Bf}{N Bk Ct:Jw}(hlO:O l=none)(wn:RowsN n rows)(hS:∀z∈S,0≤z∧z<n)(h:Fr n (Rw rows) S k fs)(hb:∀v,v∈bs↔IsD (Rw rows) S v k)
  (q:∀v6 v7 v8 fs BS,Fr n (Rw rows) S (k+1) fs→(∀v,v∈BS↔IsD (Rw rows) S v (k+1))→N (GT n rows S l v3 BS (k+1) v6 v7 v8) (Ad O l (fs.map Aq))):
  Hg (zF P w K mg base f cdv A outer s H E O Ξ) (GT n rows S l v3 bs k v6 v7 v8) (Ad O l (fs.map Aq)) (Ls (fc 4)) {nx:=N,rt:=Φ,bk:=Bk,ct:=Ct}:=by
 have sb:=AX
 refine AD (YM 5 XQ rfl (ET.we AC (fun H v w Q ok r1 r2 acc=> ⟨_,_,r1.int_inv,r2.int_inv,acc _ H (.int (((k+1:Nat):Int))) _ ?_ (.refl ok) (.int _)⟩)) Cg.nd)
 refine AD (AW 6 (Dq (Ap ⟨jl _,fun lb hlb=>?_⟩)) Cg.nd)
 have hll:lb≠l:=fun z=>by rw[z,AF] at hlb;cases hlb
 have hlb':O lb=none:=by rw[AV hll] at hlb;exact hlb
 refine AD (BI Ak.own rfl (EI.wi (BG (ev 4)) ⟨fun i ρ' O'=>∃v7 v8 fs BS ds,ρ'=GT n rows S l v3 bs (k+1) (some (.raw (.ref lb))) v7 v8∧O'=GS O l lb fs BS∧Mid n (Rw rows) S k fs BS ds∧BS.Nodup∧∀u∈bs.take i,∀v,Rw rows u v→v∈ds,⟨v7,v8,fs,[],[],rfl,rfl,h.mid,by simp,fun u hu=>by simp at hu⟩,?_,?_⟩))
 ·rintro i t _ _ e ⟨v7,v8,fs,BS,ds,rfl,rfl,m,nd,h1⟩
  rw[e7] at e
  cases ec:bs[i]? with
  |none=>rw[ec] at e;cases e
  |some z=>
   rw[ec] at e
   cases e
   have hz:=(hb z).mp (hZ ec)
   have hi:=hz.1.inb wn.hw hS
   obtain⟨u,rfl⟩:=iE hi.1
   refine⟨GT n rows S l v3 bs (k+1) (some (.raw (.ref lb))) (some (.int u)) v8,AL 7 Cg.nd (by show 7<9;decide),NP hll wn.len wn.n1 hi.2 m nd wn.hw hS hz fun v8 fs' bey' ds' m' nd' g1 g2=> ⟨_,_,_,_,ds',rfl,rfl,m',nd',fun x hx v a=>?_⟩⟩
   rw[jt,ec] at hx
   rcases iO.mp hx with hx|hx
   ·exact g1 v (h1 x hx v a)
   ·have:x=(u:Int):=by simpa using hx
    rw[this] at a
    exact g2 v a
 ·rintro _ _ ⟨v7,v8,fs,BS,ds,rfl,rfl,m,nd,h1⟩
  rw[c9,jj] at h1
  obtain⟨h2,h3⟩:=m.done fun u v hu a=>h1 u ((hb u).mpr hu) v a
  refine Cq (p:=lb) (n:=6) (ts:=BS.map T.int) AF hlb' rfl ?_
  rw[show CQ (GS O l lb fs BS) lb=Ad O l (fs.map Aq) from Am (by rw[AV hll];exact hlb')]
  exact AG (AW 4 (ET.we (ev 6) (q _ _ _ fs BS h2 h3)) Cg.nd)
theorem So{fd:iI}(F:Fun K "fars_from" "fars_from" JJ f fd):FnOk P w K mg base (CXe P w) 1 f fd ["nears","starts"] (Ci K Gi):=by
 refine AY F Cg ?_ ?_
 ·rintro ts O Φ Ξ ⟨n,rows,S,rfl,_⟩
  rfl
 ·rintro cdv A outer s H E O Ξ hr xf _ Φ ⟨n,rows,S,rfl,wn,hS,q⟩
  have sb:=AX
  have n0:=wn.len
  have n1:=wn.n1
  refine AD (JH (i:=2) (nc:=["near"]) (cap:=[]) (by rfl) Cg.nd rfl (BU (AA JJ) Sm (by decide+kernel)) (EI.wi (BG (ev 0)) ?_))
  refine⟨fun i acc O'=>i≤200∧acc=(iQ i (none:Option Nat)).map Aq∧O=O',⟨by omega,rfl,rfl⟩,?_,?_⟩
  ·rintro i t acc _ c e ⟨_,rfl,rfl⟩ hc
   have hi:i<rows.length:=by
    have:=(ie.mp e).1
    simpa using this
   refine⟨[some t],fun X' Oe He is=> ⟨?_,Dt (Jc fun X' Oe He is=>?_)⟩⟩
   ·obtain⟨cl,s',H',fp,rfl⟩:=is
    exact AL 0 bf (by decide)
   ·obtain⟨cl,s',H',fp,rfl⟩:=is
    exact ET.we DG ⟨O,rfl,hc,by rw[c9,kB];omega,by omega,by rw[List.replicate_succ',iU];rfl,rfl⟩
  ·rintro acc _ ⟨_,rfl,rfl⟩ l hlO
   rw[c9]
   refine AD (BI Ak.own rfl (EI.wi (BG (ev 1)) ⟨fun j ρ' O'=>∃(fs:List (Option Nat)) (v3:Option T),ρ'=[some (Bg rows),some (.lst (S.map T.int)),some (.raw (.ref l)),v3,none,none,none,none,none]∧O'=Ad O l (fs.map Aq)∧(fs.length:Int)=n∧∀v:Int,0≤v→v<n→∀d,fs[v.toNat]?=some (some d)↔(d=0∧v∈S.take j),⟨_,none,rfl,rfl,by rw[kB];omega,fun v v0 v1 d=>?_⟩,?_,?_⟩))
   ·rw[kL]
    simp
   ·rintro j t _ _ e ⟨fs,v3,rfl,rfl,hl,hf⟩
    rw[e7] at e
    cases ec:S[j]? with
    |none=>rw[ec] at e;cases e
    |some z=>
     rw[ec] at e
     cases e
     have hz:=hS z (hZ ec)
     obtain⟨v,rfl⟩:=iE hz.1
     have hlt:v<fs.length:=by omega
     refine⟨[some (Bg rows),some (.lst (S.map T.int)),some (.raw (.ref l)),some (.int v),none,none,none,none,none],AL 3 Cg.nd (by show 3<9;decide),?_⟩
     refine AG (Hi (ET.we AC (ET.we (ev 2) ⟨l,rfl,ET.we (ev 3) ⟨_,_,v,rfl,AF,by rw[c9];exact KZ hlt,?_⟩⟩)))
     refine⟨fs.set v (some 0),_,rfl,by rw[Av,p9];rfl,by rw[lL];exact hl,fun y y0 y1 d=>?_⟩
     rw[jt,ec]
     by_cases hy:y=(v:Int)
     ·subst hy
      rw[iS,jb hlt]
      simp[eq_comm]
     ·rw[i6 (by omega),hf y y0 y1 d]
      simp[hy]
   ·rintro _ _ ⟨fs,v3,rfl,rfl,hl,hf⟩
    rw[c9,jj] at hf
    have fr:Fr n (Rw rows) S 0 fs:=VM hl hf
    refine AD (AW 4 (ET.we (ev 1) ?_) Cg.nd)
    refine AD (AW 5 (ET.we AC ?_) Cg.nd)
    refine AD (SK Ak.own (fun m ρ' O'=>∃(k:Nat) (bs:List Int) (fs:List (Option Nat)) (v3 v6 v7 v8:Option T),ρ'=GT n rows S l v3 bs k v6 v7 v8∧O'=Ad O l (fs.map Aq)∧Fr n (Rw rows) S k fs∧(∀v,v∈bs↔IsD (Rw rows) S v k)∧m=n.toNat+1-k) ⟨_,0,S,fs,v3,none,none,none,rfl,rfl,fr,fun v=>Sn.symm,rfl⟩ ?_)
    rintro m _ _ ⟨k,bs,fs,v3,v6,v7,v8,rfl,rfl,fr,hb,rfl⟩
    refine(show EB (zF P w K mg base f cdv A outer s H E O Ξ) (GT n rows S l v3 bs k v6 v7 v8) (Ad O l (fs.map Aq)) _ (!(bs.map T.int).isEmpty) from Hc (t:=T.lst (bs.map T.int)) (ev 4) rfl) _ ?_
    cases bs with
    |nil=>
     refine Qo ?_
     have al:=fr.all_end fun v hv=>by
      have:=(hb v).mpr hv
      cases this
     refine Cq (p:=l) (n:=2) (ts:=fs.map Aq) AF hlO rfl ?_
     rw[Am hlO]
     exact AG (AN (ET.we (ev 2) (q fs al)))
    |cons b bs'=>
     refine Jc (NQ hlO wn hS fr hb fun v6 v7 v8 fs' BS fr' hb'=> ⟨_,?_,k+1,BS,fs',_,v6,v7,v8,rfl,rfl,fr',hb',rfl⟩)
     have:=((hb b).mp (by simp)).lt wn.hw hS
     omega
end
end K06
namespace L2.TL
open PySem PySem.Spec PyProof.Rows
section
variable{Z:Zx}{ρ:List (Option T)}{O:AJ}{e:Expr}{p pos:Pos}{ns:List Int}{i:Int}
theorem Ve(hi:HY ns i)(m:Z.X.mg "min" =none)(hc:Z.X.calm=true)(h:ET Z ρ O e (.lst (ns.map T.int)))(hg:Gl Z.X "min":=by rfl)(he:e8 [e] Z.X.env=(false,eval e Z.X.env)::e8 [] Z.X.env:=by rfl):ET Z ρ O (.Call (.Name "min" p) [e] [] pos) (.int i):=
 Ay (Iy hc) m Uv (AI h AB he) (fun Φ q H vs Q ok r k=>by
  obtain⟨v,rfl,r1⟩:=r.one_inv
  obtain⟨a,xs,rfl,h1,o1,r1⟩:=r1.lst_inv
  cases Reps.ints r1
  refine⟨a,ns,rfl,.inl (.inl (.inl h1)),nF hi.1,fun n hn=>?_⟩
  have:n=i:=qm (hn.2 i hi.1) (hi.2 n hn.1)
  rw[this]
  exact k _ H _ O q (.refl ok) (.int _)) hg (by decide) (by decide) he
theorem Vf(hi:OJ ns i)(m:Z.X.mg "max" =none)(hc:Z.X.calm=true)(h:ET Z ρ O e (.lst (ns.map T.int)))(hg:Gl Z.X "max":=by rfl)(he:e8 [e] Z.X.env=(false,eval e Z.X.env)::e8 [] Z.X.env:=by rfl):ET Z ρ O (.Call (.Name "max" p) [e] [] pos) (.int i):=
 Ay (Iz hc) m YT (AI h AB he) (fun Φ q H vs Q ok r k=>by
  obtain⟨v,rfl,r1⟩:=r.one_inv
  obtain⟨a,xs,rfl,h1,o1,r1⟩:=r1.lst_inv
  cases Reps.ints r1
  refine⟨a,ns,rfl,.inl (.inl (.inl h1)),nF hi.1,fun n hn=>?_⟩
  have:n=i:=qm (hi.2 n hn.1) (hn.2 i hi.1)
  rw[this]
  exact k _ H _ O q (.refl ok) (.int _)) hg (by decide) (by decide) he
theorem Lv:∀{ns:List Int},ns≠[]→∃i,HY ns i
 | [],h=>absurd rfl h
 | [a],_=> ⟨a,by simp,fun n hn=>by rw[e9.mp hn];exact kT _⟩
 |a::b::ns,_=>by
  obtain⟨i,h1,h2⟩:=Lv (ns:=b::ns) (by simp)
  refine⟨min a i,?_,fun n hn=>?_⟩
  ·rcases mX a i with h|h
   ·rw[ot h];simp
   ·rw[nT h];exact iy _ h1
  ·rcases ic.mp hn with rfl|hn
   ·exact Int.min_le_left ..
   ·exact lC (Int.min_le_right ..) (h2 n hn)
theorem Og:∀{ns:List Int},ns≠[]→∃i,OJ ns i
 | [],h=>absurd rfl h
 | [a],_=> ⟨a,by simp,fun n hn=>by rw[e9.mp hn];exact kT _⟩
 |a::b::ns,_=>by
  obtain⟨i,h1,h2⟩:=Og (ns:=b::ns) (by simp)
  refine⟨max a i,?_,fun n hn=>?_⟩
  ·rcases mX a i with h|h
   ·rw[pT h];exact iy _ h1
   ·rw[ql h];simp
  ·rcases ic.mp hn with rfl|hn
   ·exact Int.le_max_left ..
   ·exact lC (h2 n hn) (Int.le_max_right ..)
end
end L2.TL
namespace K06
open PySem L2 L2.TL PySem.Spec PyProof.Rows Gr
section
variable{P:Program}{w:World}{K:a8}{mg:Str→Option Value}{base:Heap}{CN:Addr}
theorem bg:FnScope ["thing","least","most"] ["thing","least","most"] (AA KN):=by ac_rfl
def Ac(n:Int)(ps:List (Int×Int)):List Int:=(iA n.toNat).map fun i=> ((Af ps i).length:Int)
def IX(cs:List Int):T:=if cs.all (fun c=>decide (c=cs.headD 0))=true then .int (cs.headD 0) else .non
def Kb:CB:=GF fun ts r=>∃n ps,ts=[Ar n ps]∧WebN n ps∧1≤n∧r=IX (Ac n ps)
theorem Sq:FnScope ["web","counts"] ["web"] (AA Oa):=by ac_rfl
theorem bh:(Ah ["near"] []).Nodup:=by decide+kernel
theorem Yt{cs:List Int}{a b:Int}(ha:HY cs a)(hb:OJ cs b):cs.all (fun c=>decide (c=cs.headD 0))=decide (a=b):=by
 have hne:cs≠[]:=fun z=>by rw[z] at ha;cases ha.1
 have hh:cs.headD 0∈cs:=by
  cases cs with
  |nil=>exact absurd rfl hne
  |cons x xs=>simp
 by_cases h:a=b
 ·subst h
  rw[decide_eq_true rfl,jM]
  intro c hc
  have h1:=ha.2 c hc
  have h2:=hb.2 c hc
  have h3:=ha.2 _ hh
  have h4:=hb.2 _ hh
  exact decide_eq_true (by omega)
 ·rw[decide_eq_false h]
  cases z:cs.all (fun c=>decide (c=cs.headD 0)) with
  |false=>rfl
  |true=>
   rw[jM] at z
   have h1:=of_decide_eq_true (z a ha.1)
   have h2:=of_decide_eq_true (z b hb.1)
   omega
theorem Vg{f:Addr}{fd:iI}(F:Fun K "even_by" "even_by" Oa f fd)(Tx:Txt mg)(G:FnT P w K mg base "nears_of" 1 ["web"] CW):FnOk P w K mg base (CXe P w) 2 f fd ["web"] (Ci K Kb):=by
 refine AY F Sq ?_ ?_
 ·rintro ts O Φ Ξ ⟨r,⟨n,ps,rfl,_⟩,_⟩
  rfl
 ·rintro cdv A outer s H E O Ξ hr xf _ Φ ⟨_,⟨n,ps,rfl,wn,n0,rfl⟩,q⟩
  have sb:=AX
  have n1:=wn.n1
  have hlen:(Ac n ps).length=n.toNat:=by simp[Ac]
  have hne:Ac n ps≠[]:=fun z=>by rw[z] at hlen;simp at hlen;omega
  obtain⟨a,ha⟩:=Lv hne
  obtain⟨b,hb⟩:=Og hne
  have e0:atI ((Ac n ps).map T.int) 0=some (.int ((Ac n ps).headD 0)):=by
   cases z:Ac n ps with
   |nil=>exact absurd z hne
   |cons x xs=>
    show atI _ ((0:Nat):Int)=_
    exact BE rfl
  refine AD (Hj (i:=1) (nc:=["near"]) (cap:=[]) (by rfl) Sq.nd rfl (BU (AA Oa) ["web","counts"] (by decide+kernel)) (EI.wi (BG (AS G hr xf (AH (ev 0) AB) ⟨n,ps,rfl,wn.n0,wn.n1,wn.hw,wn.hl,rfl⟩)) (FF (iA n.toNat) (fun i=>T.lst ((Af ps i).map T.int)) (fun i=>T.int (((Af ps i).map T.int).length:Int)) (by simp;omega) (fun x hx=> ⟨[some (.lst ((Af ps x).map T.int))],fun X' Oe He is O'=>?_⟩) ?_)))
  ·obtain⟨cl,s',H',fp,rfl⟩:=is
   exact⟨AL 0 bh (by decide),GZ Tx.nLen (ev 0)⟩
  ·have e1:(iA n.toNat).map (fun i=>T.int (((Af ps i).map T.int).length:Int))=(Ac n ps).map T.int:=by simp[Ac]
   rw[e1]
   refine AG (AN (ET.we (Rp (Dc (Ve ha Tx.nMin rfl (ev 1)) (Vf hb Tx.nMax rfl (ev 1))) (fun _=>DI (ev 1) AC e0) (fun _=>DG)) ?_))
   have:(if decide (a=b)=true then T.int ((Ac n ps).headD 0) else T.non)=IX (Ac n ps):=by
    unfold IX
    rw[Yt ha hb]
   rw[this]
   exact q
end
section
variable{P:Program}{w:World}{K:a8}{mg:Str→Option Value}{base:Heap}
section
variable{O:AJ}{l:Addr}{rs:List (Addr×List T)}{p:Nat}{r:Addr×List T}{fs gs:List (Option Nat)}
end
variable{f:Addr}{cdv:Value}{A:iC}{outer:List Env}{s:a9}{H:Hp}{E:XK}{O:AJ}{Ξ:Value→AJ→Prop}{n:Int}{ps:List (Int×Int)}{l:Addr}{rs:List (Addr×List T)}{p:Nat}{r:Addr×List T}
end
section
variable{P:Program}{w:World}{K:a8}{mg:Str→Option Value}{base:Heap}{f:Addr}{cdv:Value}{A:iC}{outer:List Env}{s:a9}{H:Hp}{E:XK}{O:AJ}{Ξ:Value→AJ→Prop}{n:Int}{ps:List (Int×Int)}{l:Addr}{rs:List (Addr×List T)}{p:Nat}{r:Addr×List T}
end
section
variable{P:Program}{w:World}{K:a8}{mg:Str→Option Value}{base:Heap}
structure FarL(n:Int)(ps:List (Int×Int))(FL:List (List (Option Nat))):Prop where
 len:(FL.length:Int)=n
 all:∀(i:Nat) fs,FL[i]?=some fs→All n ps [(i:Int)] fs
end
theorem Wo:∀{xs ys:List Int},xs.Pairwise (· < ·)→ys.Pairwise (· < ·)→(∀v,v∈xs↔v∈ys)→xs=ys
 | [],[],_,_,_=>rfl
 | [],y::ys,_,_,h=>by have:=(h y).mpr (by simp);cases this
 |x::xs,[],_,_,h=>by have:=(h x).mp (by simp);cases this
 |x::xs,y::ys,h1,h2,h=>by
  rw[mx] at h1 h2
  have e:x=y:=by
   have a:=(h x).mp (by simp)
   have b:=(h y).mpr (by simp)
   rcases ic.mp a with a|a
   ·exact a
   ·rcases ic.mp b with b|b
    ·exact b.symm
    ·have:=h1.1 y b
     have:=h2.1 x a
     omega
  subst e
  congr 1
  refine Wo h1.2 h2.2 fun v=> ⟨fun hv=>?_,fun hv=>?_⟩
  ·rcases ic.mp ((h v).mp (iy _ hv)) with e|e
   ·have:=h1.1 v hv
    omega
   ·exact e
  ·rcases ic.mp ((h v).mpr (iy _ hv)) with e|e
   ·have:=h2.1 v hv
    omega
   ·exact e
theorem FN{n:Int}{ps:List (Int×Int)}{i:Nat}(hw:GH n ps)(hp:ps.Pairwise Eg):(Af ps i).Pairwise (· < ·):=by
 unfold Af
 rw[List.pairwise_filterMap]
 refine k9 ?_ hp
 intro p q hp hq h x hx y hy
 have a:=hw p hp
 have b:=hw q hq
 unfold Eg at h
 have f:∀(r:Int×Int) (z:Int),(if r.1=(i:Int) then some r.2 else if r.2=(i:Int) then some r.1 else none)=some z→(r.1=(i:Int)∧r.2=z)∨(r.1≠(i:Int)∧r.2=(i:Int)∧r.1=z):=fun r z e=>by
  by_cases h:r.1=(i:Int)
  ·rw[if_pos h] at e
   cases e
   exact .inl ⟨h,rfl⟩
  ·rw[if_neg h] at e
   by_cases h2:r.2=(i:Int)
   ·rw[if_pos h2] at e
    cases e
    exact .inr ⟨h,h2,rfl⟩
   ·rw[if_neg h2] at e;cases e
 rcases f p x hx with c|c<;>rcases f q y hy with d|d<;>omega
def mm(p:Int×Int):Int×Int:=(min p.1 p.2,max p.1 p.2)
section
variable{P:Program}{w:World}{K:a8}{mg:Str→Option Value}{base:Heap}{CP CL:Addr}
theorem Yu:(Ah ["a","b"] []).Nodup:=by decide+kernel
def Hz:CB:=fun ts O Φ _=>∃ps:List (Int×Int),ts=[.lst (ps.map AE)]∧ps.length≤300∧(∀p∈ps,(0≤p.1∧p.1<65536)∧0≤p.2∧p.2<65536)∧
 ∀qs:List (Int×Int),qs.Pairwise Eg→(∀q,q∈qs↔q∈ps.map mm)→qs.length≤ps.length→Φ (.tup (qs.map AE)) O
def bj(ps:List (Int×Int))(a b:Int):Bool:=decide (mm (a,b)∈ps)
def Sr:CB:=GF fun ts r=>∃n ps a b,ts=[Ar n ps,.int a,.int b]∧r=.bl (bj ps a b)
theorem Yv:FnScope ["web","a","b"] ["web","a","b"] (AA Ob):=by ac_rfl
theorem Vh{f:Addr}{fd:iI}(F:Fun K "are_tied" "are_tied" Ob f fd)(Tx:Txt mg):FnOk P w K mg base (CXe P w) 1 f fd ["web","a","b"] (Ci K Sr):=by
 refine AY F Yv ?_ ?_
 ·rintro ts O Φ Ξ ⟨r,⟨n,ps,a,b,rfl,_⟩,_⟩
  rfl
 ·rintro cdv A outer s H E O Ξ hr xf _ Φ ⟨_,⟨n,ps,a,b,rfl,rfl⟩,q⟩
  have hu:(A.deeper (lE "are_tied" (AA Ob) s.heap.objs.size f cdv)).units+102<cLine:=by have:=hr.un;omega
  refine AG (AN (ET.we (ET.cast (Bb (Wi hu) rfl (KG (OW (mm (a,b))) Hn (NA _)) (DL (FE Tx.nMin rfl (ev 1) (ev 2)) (Ga Tx.nMax rfl (ev 1) (ev 2))) (AZ (ev 0) AC)) ?_) q))
  show T.bl ((dTs (ps.map AE)).any fun y=>kh y (dT (AE (mm (a,b)))))=T.bl (bj ps a b)
  rw[JF]
  rfl
end
section
variable{P:Program}{w:World}{K:a8}{mg:Str→Option Value}{base:Heap}{CP CL:Addr}
end
end K06
namespace L2.TL
open PySem PySem.Spec PyProof.Rows
section
variable{Z:Zx}{ρ:List (Option T)}{O:AJ}{a:Expr}{t:T}{us:List T}{K:a8}{p1 pos:Pos}
theorem Oh{j:Nat}(hr:Cr t=false)(ha:ET Z ρ O a t):EB Z ρ O (.Compare a [.IsNot] [.Constant .none j p1] pos) (!CU t):=Bc Nl (Ai _) (fun Φ p H v w Q ok r1 r2 q=>by
 refine⟨r2.non_inv,?_⟩
 have e:decide (v=V.non)=CU t:=by
  cases r1<;>first|rfl|cases hr
 rw[e]
 exact q _ H _ O p (.refl ok) (.bl _)) ha DG
end
def Ag(ns:List Int):T:=.tup (ns.map T.int)
theorem IA:∀{ns ms:List Int},mE (dTs (ns.map T.int)) (dTs (ms.map T.int))=decide (ns=ms)
 | [],[]=>rfl
 | [],_::_=>rfl
 |_::_,[]=>rfl
 |n::ns,m::ms=>by
  show((n==m)&&mE (dTs (ns.map T.int)) (dTs (ms.map T.int)))=_
  rw[IA,jW]
  simp
theorem Gj:∀{ns:List Int},rdBs (ns.map T.int)=true
 | []=>rfl
 |n::ns=>by
  show(CO (.int n)&&rdBs (ns.map T.int))=true
  rw[Gj,CO];rfl
theorem EI.cast{Z:Zx}{ρ:List (Option T)}{O:AJ}{tg iter:Expr}{ts us:List T}(h:EI Z ρ O tg iter ts)(e:ts=us):EI Z ρ O tg iter us:=e▸h
theorem IB:∀{ns:List Int},kS (dTs (ns.map T.int))≤1
 | []=>by simp[dTs,kS]
 |n::ns=>by
  have:=IB (ns:=ns)
  simp only[iN,dTs,kS,dT,jz.depth]
  omega
end L2.TL
namespace K06
open PySem L2 L2.TL PySem.Spec PyProof.Rows Gr
section
variable{P:Program}{w:World}{K:a8}{mg:Str→Option Value}{base:Heap}
def Ao(fs:List (Option Nat)):List Int:=((iA fs.length).filter fun j=>!CU (Aq (fs.getD j none))).map fun(j:Nat)=>0+(j:Int)
def Lw(acc:List (List Int))(x:List Int):List (List Int):=if x∈acc then acc else acc++[x]
def BA(FL:List (List (Option Nat))):List (List Int):=FL.foldl (fun acc fs=>Lw acc (Ao fs)) []
end
end K06
namespace L2.TL
open PySem PySem.Spec PyProof.Rows
section
variable{Z:Zx}{ρ:List (Option T)}{O:AJ}{a:Expr}{t:T}{us:List T}{K:a8}{p1 pos:Pos}
end
end L2.TL
namespace K06
open PySem L2 L2.TL PySem.Spec PyProof.Rows Gr
def FO(fs:List (Option Nat)):List Int:=(fs.filter pI).map fun x=> ((x.getD 0:Nat):Int)
theorem IC:∀{fs:List (Option Nat)},(fs.filter pI).map Aq=(FO fs).map T.int
 | []=>rfl
 |none::fs=>IC (fs:=fs)
 |some d::fs=>by
  show T.int (d:Int)::(fs.filter pI).map Aq=T.int (d:Int)::(FO fs).map T.int
  rw[IC]
theorem Vi{fs:List (Option Nat)}{z:Int}:z∈FO fs↔∃(i d:Nat),fs[i]?=some (some d)∧z=d:=by
 unfold FO
 rw[ig]
 constructor
 ·rintro⟨x,hx,rfl⟩
  obtain⟨h1,h2⟩:=iX.mp hx
  cases x with
  |none=>cases h2
  |some d=>
   obtain⟨i,hi⟩:=jm h1
   exact⟨i,d,hi,rfl⟩
 ·rintro⟨i,d,h,rfl⟩
  exact⟨some d,iX.mpr ⟨hZ h,rfl⟩,rfl⟩
theorem Ss{x:Option Nat}{k:Nat}:kh (dT (Aq x)) (dT (.int (k:Int)))=decide (x=some k):=by
 cases x with
 |none=>rfl
 |some d=>
  show((d:Int)==(k:Int))=_
  rw[jW]
  simp
  omega
theorem Yw{x:Option Nat}:CO (Aq x)=true:=by cases x<;>rw[Aq,CO]
theorem QD{x:Option Nat}:(dT (Aq x)).depth≤100:=by cases x<;> (show 0≤100;decide)
section
variable{P:Program}{w:World}{K:a8}{mg:Str→Option Value}{base:Heap}{CP CL:Addr}
end
end K06
namespace StT
open PySem PySem.SetTable PyProof.Rows
section
variable{prog:Program}{w:World}{A:iC}{E:Value→a9→Prop}{s:a9}
variable{a:Addr}{xs:List (Int×Tok)}{o:Obj}{es:Array (Int×Value)}{ep:Nat}{t:jN}
end
section
variable{prog:Program}{w:World}{A:iC}{E:Value→a9→Prop}{s:a9}
variable{a:Addr}{xs:List (Int×Tok)}{o:Obj}{es:Array (Int×Value)}{ep:Nat}{t:jN}
end
section
variable{prog:Program}{w:World}{A:iC}{E:Value→a9→Prop}{s:a9}
end
open PySem.Calls PySem.W
section
variable{prog:Program}{w:World}{A:iC}{E:Value→a9→Prop}{s:a9}
end
end StT
namespace L2
open PySem PySem.Spec PySem.Calls PyProof.Rows
section
variable{X:Cx}
end
end L2
namespace L2.TL
open PySem PySem.Spec PySem.Calls PyProof.Rows
section
variable{Z:Zx}{ρ:List (Option T)}{O:AJ}{e:Expr}{Φ:Bf}{pos p p1 pos1:Pos}
end
end L2.TL
namespace K06
open PySem L2 L2.TL PySem.Spec PyProof.Rows Gr
def AR(ps:List (Int×Int))(x:Int):List Int:=(ps.filter fun p=>decide (x∈[p.1,p.2])).map fun p=>p.1+p.2-x
theorem EL{ps:List (Int×Int)}{x v:Int}:v∈AR ps x↔Adj ps x v:=by
 unfold AR
 rw[ig]
 constructor
 ·rintro⟨p,hp,rfl⟩
  obtain⟨h1,h2⟩:=iX.mp hp
  have h2:x=p.1∨x=p.2:=by simpa using h2
  rcases h2 with h|h
  ·refine .inl ?_
   have e:(x,p.1+p.2-x)=p:=kb h (by show p.1+p.2-x=p.2;omega)
   rw[e];exact h1
  ·refine .inr ?_
   have e:(p.1+p.2-x,x)=p:=kb (by show p.1+p.2-x=p.1;omega) h
   rw[e];exact h1
 ·rintro(h|h)
  ·exact⟨_,iX.mpr ⟨h,by simp⟩,by show x+v-x=v;omega⟩
  ·exact⟨_,iX.mpr ⟨h,by simp⟩,by show v+x-x=v;omega⟩
section
variable{P:Program}{w:World}{K:a8}{mg:Str→Option Value}{base:Heap}
variable{f:Addr}{cdv:Value}{A:iC}{outer:List Env}{s:a9}{H:Hp}{E:XK}{O:AJ}{Ξ:Value→AJ→Prop}{n:Int}{ps:List (Int×Int)}{S bs:List Int}{l:Addr}
end
end K06
namespace L2.TL
open PySem PySem.Spec PyProof.Rows
section
variable{Z:Zx}{ρ:List (Option T)}{O:AJ}{e:Expr}{Φ:Bf}{pos p:Pos}{ts:List T}
theorem QE(m:Z.X.mg "list" =none)(h:ET Z ρ O e (.lst ts))(q:∀a,O a=none→Φ (.raw (.ref a)) (Ad O a ts))(hg:Gl Z.X "list":=by rfl)(he:e8 [e] Z.X.env=(false,eval e Z.X.env)::e8 [] Z.X.env:=by rfl):WE Z ρ O (.Call (.Name "list" p) [e] [] pos) Φ:=
 Ds Ec m LV (AI h AB he _ (fun H vs Q ok r k=>by
  obtain⟨v,rfl,r1⟩:=r.one_inv
  obtain⟨a,xs,rfl,h1,_,r1⟩:=r1.lst_inv
  exact⟨a,xs,rfl,.inl (.inl (.inl h1)),fun p hp=>k _ _ _ _ (q p (ok.none_of hp)) (.newO ok hp r1) (.raw _)⟩)) hg (by decide) (by decide) he
end
end L2.TL
namespace K06
local macro_rules | `(tactic| omega) => `(tactic| first | lia | omega)
open PySem L2 L2.TL PySem.Spec PyProof.Rows GrR
def Lx:List Int→Option Int
 | []=>none
 |x::xs=>some (match Lx xs with|none=>x|some m=>min x m)
theorem Gk:∀(ns:List Int),Fs ns (Lx ns)
 | []=>rfl
 |x::xs=>by
  have h:=Gk xs
  show Fs (x::xs) (some (match Lx xs with|none=>x|some m=>min x m))
  cases e:Lx xs with
  |none=>
   rw[e] at h
   rw[show xs=[] from h]
   exact⟨by simp,fun n hn=>by rw[e9.mp hn];exact kT _⟩
  |some m=>
   rw[e] at h
   refine⟨?_,fun n hn=>?_⟩
   ·rcases mX x m with hx|hx
    ·show min x m∈_
     rw[ot hx];simp
    ·show min x m∈_
     rw[nT hx];exact iy _ h.1
   ·rcases ic.mp hn with rfl|hn
    ·exact Int.min_le_left ..
    ·exact lC (Int.min_le_right ..) (h.2 n hn)
def ID(rows:List (List Int))(a b:Int):List (List Int):=rows.set a.toNat ((rows.getD a.toNat []).filter fun v=>decide (v≠b))
def IE(rows:List (List Int))(a b:Int):Option Nat:=(IT (Rw (ID rows a b)) [a] b).map (· +1)
theorem NR{rows:List (List Int)}{a b u v:Int}(a0:0≤a)(a1:a<rows.length):Rw (ID rows a b) u v↔Rw rows u v∧¬(u=a∧v=b):=by
 unfold Rw ID
 have hlt:a.toNat<rows.length:=by omega
 by_cases hu:u=a
 ·subst hu
  rw[iD,jb hlt]
  simp only[pP,iX,decide_eq_true_eq]
  constructor
  ·rintro⟨h0,h1,h2⟩
   exact⟨⟨h0,h1⟩,fun z=>h2 z.2⟩
  ·rintro⟨⟨h0,h1⟩,h2⟩
   exact⟨h0,h1,fun z=>h2 ⟨trivial,z⟩⟩
 ·constructor
  ·rintro⟨h0,h1⟩
   rw[iD,i6 (by omega),←iD] at h1
   exact⟨⟨h0,h1⟩,fun z=>hu z.1⟩
  ·rintro⟨⟨h0,h1⟩,_⟩
   refine⟨h0,?_⟩
   rw[iD,i6 (by omega),←iD]
   exact h1
theorem Yx{n:Int}{rows:List (List Int)}{a b:Int}(rn:RowsN n rows)(a0:0≤a)(a1:a<n):RowsN n (ID rows a b):=
 ⟨by unfold ID;rw[lL];exact rn.len,rn.n1,fun u v h=>rn.hw u v ((NR a0 (by have:=rn.len;omega)).mp h).1⟩
def An(n:Int)(ps:List (Int×Int)):List (List Int):=(iA n.toNat).map fun i=>Af ps i
theorem EM{n:Int}{ps:List (Int×Int)}:Dj n ps=Bg (An n ps):=by
 unfold Dj An
 show _=T.lst (((iA n.toNat).map fun i=>Af ps i).map fun r=>T.lst (r.map T.int))
 rw[i7]
 rfl
theorem IF{n:Int}{ps:List (Int×Int)}{i:Nat}(h:(i:Int)<n):(An n ps).getD i []=Af ps i:=by
 unfold An
 rw[iD,e7,kQ (by omega)]
 rfl
theorem FP{n:Int}{ps:List (Int×Int)}(hw:Gr.GH n ps){u v:Int}:Rw (An n ps) u v↔Gr.Adj ps u v:=by
 constructor
 ·rintro⟨h0,h⟩
  obtain⟨i,rfl⟩:=iE h0
  rw[iS] at h
  by_cases hi:(i:Int)<n
  ·rw[IF hi] at h
   exact(EK hw).mp h
  ·unfold An at h
   rw[iD,e7,jh (by rw[jQ];omega)] at h
   cases h
 ·intro a
  have hb:=a.symm.inb hw
  obtain⟨i,rfl⟩:=iE hb.1
  refine⟨by omega,?_⟩
  rw[iS,IF hb.2.1]
  exact(EK hw).mpr a
theorem FQ{n:Int}{ps:List (Int×Int)}(wn:WebN n ps):RowsN n (An n ps):=
 ⟨by have:=wn.n0;unfold An;simp;omega,wn.n1,fun u v h=>by have:=((FP wn.hw).mp h).inb wn.hw;exact⟨this.1,this.2.1⟩⟩
section
variable{P:Program}{w:World}{K:a8}{mg:Str→Option Value}{base:Heap}{CP CL:Addr}
def Wp:CB:=GF fun ts r=>∃xs:List (Option Nat),ts=[.lst (xs.map Aq)]∧xs.length≤300∧r=IW (Lx (FO xs))
theorem bo:FnScope ["numbers"] ["numbers"] (AA KP):=by ac_rfl
theorem bp:(Ah ["number"] []).Nodup:=by decide+kernel
theorem Su{f:Addr}{fd:iI}(F:Fun K "least_told" "least_told" KP f fd)(Tx:Txt mg):FnOk P w K mg base (CXe P w) 1 f fd ["numbers"] (Ci K Wp):=by
 refine AY F bo ?_ ?_
 ·rintro ts O Φ Ξ ⟨r,⟨xs,rfl,_⟩,_⟩
  rfl
 ·rintro cdv A outer s H E O Ξ hr xf _ Φ ⟨_,⟨xs,rfl,hl,rfl⟩,q⟩
  have sb:=AX
  refine AG (AN (ET.we (VT (Gk _) Tx.nMin rfl (ET.cast (Hm ["number"] [] xs Aq Aq pI rfl (BU (AA KP) ["numbers"] (by decide+kernel)) (BG (ev 0)) (by omega) fun x hx=> ⟨[some (Aq x)],fun X' Oe He is O'=>?_⟩) (by rw[IC]))) q))
  obtain⟨cl,s',H',fp,rfl⟩:=is
  refine⟨AL 0 bp (by decide),EB.cast (Oh Hy (ev 0)) ?_,fun _=>ev 0⟩
  cases x<;>rfl
def Wq:CB:=GF fun ts r=>∃(n:Int) (rows:List (List Int)) (a b:Int),ts=[Bg rows,.int a,.int b]∧RowsN n rows∧(∀r∈rows,r.length≤300)∧(0≤a∧a<n)∧(0≤b∧b<n)∧r=Aq (IE rows a b)
def bq:List Str:=["nears","a","b","cut","far"]
theorem Sv:FnScope bq ["nears","a","b"] (AA VV):=by ac_rfl
theorem br:(Ah ["near"] [(("b" :Str),2)]).Nodup:=by decide+kernel
theorem Yy{f:Addr}{fd:iI}(F:Fun K "ring_by_tie" "ring_by_tie" VV f fd)(Tx:Txt mg)(G:FnT P w K mg base "fars_from" 1 ["nears","starts"] Gi):FnOk P w K mg base (CXe P w) 2 f fd ["nears","a","b"] (Ci K Wq):=by
 refine AY F Sv ?_ ?_
 ·rintro ts O Φ Ξ ⟨r,⟨n,rows,a,b,rfl,_⟩,_⟩
  rfl
 ·rintro cdv A outer s H E O Ξ hr xf _ Φ ⟨_,⟨n,rows,a,b,rfl,rn,hlr,ha,hb,rfl⟩,q⟩
  have sb:=AX
  have hl:=rn.len
  have n1:=rn.n1
  obtain⟨i,rfl⟩:=iE ha.1
  obtain⟨j,rfl⟩:=iE hb.1
  have hi:i<rows.length:=by omega
  have hri:(rows.getD i []).length≤300:=hlr _ (by rw[iD,b6 hi];exact jg hi)
  refine AD (AW 3 (QE Tx.nList (ev 0) fun l hlO=>?_) Sv.nd)
  refine AD (Hi (ET.we (t:=.lst (((rows.getD i []).filter fun v=>decide (v≠(j:Int))).map T.int)) (Hm ["near"] [("b",2)] (rows.getD i []) T.int T.int (fun v=>decide (v≠(j:Int))) rfl (BU (AA VV) bq (by decide+kernel)) (BG (DI (ev 0) (ev 1) (Ka hi))) (by omega) fun x hx=> ⟨[some (.int x),some (.int (j:Int))],fun X' Oe He is O'=>?_⟩) (ET.we (ev 3) ⟨l,rfl,ET.we (ev 1) ⟨_,_,i,rfl,AF,by rw[c9];exact KZ hi,?_⟩⟩)))
  ·obtain⟨cl,s',H',fp,rfl⟩:=is
   refine⟨AL 0 br (by decide),EB.cast (Ed (ev 0) (ev 1)) ?_,fun _=>ev 0⟩
   by_cases h:x=(j:Int)<;>simp[h]
  ·rw[Av]
   have eset:(rows.map fun r=>T.lst (r.map T.int)).set i (.lst (((rows.getD i []).filter fun v=>decide (v≠(j:Int))).map T.int))=(ID rows (i:Int) (j:Int)).map fun r=>T.lst (r.map T.int):=by
    unfold ID
    rw[p9,iS]
   rw[eset]
   refine Cq (p:=l) (n:=3) AF hlO rfl ?_
   rw[Am hlO]
   refine AD (AW 4 (Rb Et (fun _ _=>rfl) (Aj G hr xf (EA.wa (AH (ev 3) (AH (Bu (ts:=[(i:Int)].map T.int) (AH (ev 1) AB) (by show 1≤sizeLine;decide)) AB)) ⟨n,ID rows i j,[(i:Int)],rfl,Yx rn ha.1 ha.2,fun z hz=>?_,fun fs al=>?_⟩))) Sv.nd)
   ·rw[e9.mp hz];exact ha
   ·have hlf:=al.len
    have hg:=al.get hb.1 hb.2
    rw[iS] at hg
    refine ET.we (ev 2) (Mu (t:=Aq (IT (Rw (ID rows i j)) [(i:Int)] j)) (BE (by rw[e7,hg];rfl)) _ ?_)
    unfold IE at q
    generalize IT (Rw (ID rows i j)) [(i:Int)] j=x at q
    cases x with
    |none=>exact AG (AN (ET.we (Rp (x:=true) (ta:=.non) (tb:=.non) (Ei (t:=.non) rfl (ev 4)) (fun _=>DG) (fun h=>by cases h)) q))
    |some d=>exact AG (AN (ET.we (Rp (x:=false) (ta:=.non) (tb:=.int ((d:Int)+1)) (Ei (t:=.int (d:Int)) rfl (ev 4)) (fun h=>by cases h) (fun _=>Cd (ev 4) AC)) q))
theorem Sw{n:Int}{ps:List (Int×Int)}(wn:WebN n ps):∀r∈An n ps,r.length≤300:=fun r hr=>by
 unfold An at hr
 obtain⟨i,_,rfl⟩:=ig.mp hr
 have:=CM (qs:=ps) (i:=i)
 have:=wn.hl
 omega
end
end K06
namespace L2.TL
open PySem PySem.Spec PyProof.Rows
section
variable{Z:Zx}{ρ:List (Option T)}{O:AJ}{a:Expr}{t:T}{p1 pos:Pos}
theorem Sx{j:Nat}(hr:Cr t=false)(ha:ET Z ρ O a t):ET Z ρ O (.Compare a [.Is] [.Constant .none j p1] pos) (.bl (CU t)):=Bb Qc (Ai _) (fun Φ p H v w Q ok r1 r2 q=>by
 refine⟨r2.non_inv,?_⟩
 have e:decide (v=V.non)=CU t:=by
  cases r1<;>first|rfl|cases hr
 rw[e]
 exact q _ H _ O p (.refl ok) (.bl _)) ha DG
end
end L2.TL
namespace K06
open PySem L2 L2.TL PySem.Spec PyProof.Rows GrR
def GJ(ps:List (Int×Int))(t:Int×Int):List (Int×Int):=ps.filter fun q=>decide (q≠t)
def FR(ps:List (Int×Int))(t:Int×Int):Option Nat:=(IT (Gr.Adj (GJ ps t)) [t.1] t.2).map (· +1)
theorem FS{n:Int}{ps:List (Int×Int)}(hw:Gr.GH n ps){a b u v:Int}:Gr.Adj (GJ ps (mm (a,b))) u v↔Gr.Adj ps u v∧¬(u=a∧v=b)∧¬(u=b∧v=a):=by
 have key:∀x y:Int,(x,y)∈GJ ps (mm (a,b))↔(x,y)∈ps∧¬(x=a∧y=b)∧¬(x=b∧y=a):=fun x y=>by
  unfold GJ
  rw[iX,decide_eq_true_eq]
  constructor
  ·rintro⟨h,hne⟩
   have hxy:=(hw _ h).2.1
   simp only at hxy
   refine⟨h,fun⟨e1,e2⟩=>hne ?_,fun⟨e1,e2⟩=>hne ?_⟩
   ·subst e1 e2;exact kb (by show x=min x y;omega) (by show y=max x y;omega)
   ·subst e1 e2;exact kb (by show x=min y x;omega) (by show y=max y x;omega)
  ·rintro⟨h,h1,h2⟩
   refine⟨h,fun e=>?_⟩
   have e1:x=min a b:=congrArg kI e
   have e2:y=max a b:=congrArg Prod.snd e
   rcases mX a b with hab|hab
   ·exact h1 ⟨by omega,by omega⟩
   ·exact h2 ⟨by omega,by omega⟩
 unfold Gr.Adj
 rw[key,key]
 constructor
 ·rintro(⟨h,h1,h2⟩| ⟨h,h1,h2⟩)
  ·exact⟨.inl h,h1,h2⟩
  ·exact⟨.inr h,fun z=>h2 ⟨z.2,z.1⟩,fun z=>h1 ⟨z.2,z.1⟩⟩
 ·rintro⟨h|h,h1,h2⟩
  ·exact .inl ⟨h,h1,h2⟩
  ·exact .inr ⟨h,fun z=>h2 ⟨z.2,z.1⟩,fun z=>h1 ⟨z.2,z.1⟩⟩
theorem Sy{n:Int}{ps:List (Int×Int)}(wn:WebN n ps){a b:Int}(ad:Gr.Adj ps a b):IE (An n ps) a b=FR ps (mm (a,b)):=by
 have ha:=ad.symm.inb wn.hw
 have hl:=(FQ wn).len
 have e1:IT (Rw (ID (An n ps) a b)) [a] b=IT (Gr.Adj (GJ ps (mm (a,b)))) [a] b:=JI fun d=>VN
  (fun u v h=> (NR ha.1 (by omega)).mpr ⟨(FP wn.hw).mpr ((FS wn.hw).mp h).1,((FS wn.hw).mp h).2.1⟩)
  (fun u v h=>by
   obtain⟨h1,h2⟩:=(NR ha.1 (by omega)).mp h
   by_cases hu:u=b∧v=a
   ·exact .inr hu.1
   ·exact .inl ((FS wn.hw).mpr ⟨(FP wn.hw).mp h1,h2,hu⟩))
 unfold IE FR
 rw[e1]
 congr 1
 rcases mX a b with hab|hab
 ·have:mm (a,b)=(a,b):=kb (by show min a b=a;omega) (by show max a b=b;omega)
  rw[this]
 ·have:mm (a,b)=(b,a):=kb (by show min a b=b;omega) (by show max a b=a;omega)
  rw[this]
  exact JI fun d=>OY fun u v h=>Gr.Adj.symm h
theorem Sz{n:Int}{ps:List (Int×Int)}(hw:Gr.GH n ps){p:Int×Int}(h:p∈ps):mm p=p∧mm (p.2,p.1)=p:=by
 have:=(hw _ h).2.1
 exact⟨kb (by show min p.1 p.2=p.1;omega) (by show max p.1 p.2=p.2;omega),kb (by show min p.2 p.1=p.1;omega) (by show max p.2 p.1=p.2;omega)⟩
section
variable{P:Program}{w:World}{K:a8}{mg:Str→Option Value}{base:Heap}{CP CL:Addr}
end
variable{n:Int}{ps:List (Int×Int)}{s:Nat}
theorem Dk:∀u v,Gr.Adj ps u v→Gr.Adj ps v u:=fun _ _ h=>h.symm
theorem Be:∀u v,v∈AR ps u↔Gr.Adj ps u v:=fun _ _=>EL
theorem BR(hw:Gr.GH n ps){i:Nat}:Af ps i=AR ps (i:Int):=by
 unfold Af AR
 induction ps with
 |nil=>rfl
 |cons p ps ih=>
  have ih:=ih fun q hq=>hw q (iy _ hq)
  have hp:=hw p (by simp)
  by_cases h1:p.1=(i:Int)
  ·rw[jU,if_pos h1,mU,if_pos (by simp[h1]),iN,←ih,show p.1+p.2- (i:Int)=p.2 by omega]
  ·by_cases h2:p.2=(i:Int)
   ·rw[jU,if_neg h1,if_pos h2,mU,if_pos (by simp[h2]),iN,←ih,show p.1+p.2- (i:Int)=p.1 by omega]
   ·rw[jU,if_neg h1,if_neg h2,mU,if_neg (by simp only[ic,i9,or_false,decide_eq_true_eq];exact fun z=>z.elim (fun z=>h1 z.symm) (fun z=>h2 z.symm))]
    exact ih
theorem Vj(hw:Gr.GH n ps){u:Int}(h:u<0):AR ps u=[]:=by
 cases e:AR ps u with
 |nil=>rfl
 |cons v l=>
  have:Gr.Adj ps u v:=EL.mp (by rw[e];simp)
  have:=(this.symm.inb hw).1
  omega
theorem EN(hw:Gr.GH n ps)(hp:ps.Pairwise Eg):∀u,(AR ps u).Pairwise (· < ·):=fun u=>by
 by_cases h:u<0
 ·rw[Vj hw h];exact lT
 ·obtain⟨i,rfl⟩:=iE (show 0≤u by omega)
  rw[←BR hw]
  exact FN hw hp
theorem Bx(hw:Gr.GH n ps):∀u v,Gr.Adj ps u v→0≤v∧v<n:=fun u v h=> ⟨(h.inb hw).1,(h.inb hw).2.1⟩
theorem Oi(hw:Gr.GH n ps)(hp:ps.Pairwise Eg):∀u,(AR ps u).Nodup:=fun u=>iZ.imp (fun h=>by omega) (EN hw hp u)
def GK(ps:List (Int×Int)):Option Int:=Lx (FO (ps.map fun p=>FR ps p))
theorem Ly(hw:Gr.GH n ps){p:Int×Int}(hp:p∈ps):Gr.Adj (GJ ps p)=Wj (Gr.Adj ps) p.1 p.2:=by
 funext u v
 have:=FS hw (a:=p.1) (b:=p.2) (u:=u) (v:=v)
 rw[(Sz hw hp).1] at this
 exact propext this
theorem Lz{z:Int}:z∈FO (ps.map fun p=>FR ps p)↔∃p∈ps,∃d:Nat,IT (Gr.Adj (GJ ps p)) [p.1] p.2=some d∧z=d+1:=by
 rw[Vi]
 constructor
 ·rintro⟨i,d,h,rfl⟩
  rw[e7] at h
  cases e:ps[i]? with
  |none=>rw[e] at h;cases h
  |some p=>
   rw[e] at h
   have h:FR ps p=some d:=by simpa using h
   unfold FR at h
   cases e2:IT (Gr.Adj (GJ ps p)) [p.1] p.2 with
   |none=>rw[e2] at h;cases h
   |some d'=>
    rw[e2] at h
    have:d'+1=d:=by simpa using h
    exact⟨p,hZ e,d',e2,by omega⟩
 ·rintro⟨p,hp,d,h,rfl⟩
  obtain⟨i,hi,rfl⟩:=l9 hp
  refine⟨i,d+1,?_,by omega⟩
  rw[e7,b6 hi]
  unfold FR
  simp[h]
theorem Oj(hw:Gr.GH n ps){r:List Int}(h:Ring (Gr.Adj ps) r):∃m,GK ps=some m∧m≤r.length:=by
 obtain⟨a,b,hab,w⟩:=Yj h
 have key:∃z,z∈FO (ps.map fun p=>FR ps p)∧z≤r.length:=by
  have hl:=h.len
  have fin:∀p∈ps,W (Wj (Gr.Adj ps) p.1 p.2) [p.1] (r.length-1) p.2→∃z,z∈FO (ps.map fun p=>FR ps p)∧z≤r.length:=fun p hp w=>by
   obtain⟨d,hd,hD⟩:=w.least
   rw[←Ly hw hp] at hD
   exact⟨d+1,Lz.mpr ⟨p,hp,d,Cs hD,rfl⟩,by omega⟩
  have sy:∀u v,Wj (Gr.Adj ps) a b u v→Wj (Gr.Adj ps) a b v u:=fun u v c=> ⟨c.1.symm,fun e=>c.2.2 ⟨e.2,e.1⟩,fun e=>c.2.1 ⟨e.2,e.1⟩⟩
  have sw:∀u v,Wj (Gr.Adj ps) a b u v→Wj (Gr.Adj ps) b a u v:=fun u v c=> ⟨c.1,c.2.2,c.2.1⟩
  rcases hab with hm|hm
  ·exact fin (a,b) hm (w.rev sy)
  ·exact fin (b,a) hm (w.mono sw)
 obtain⟨z,hz,hle⟩:=key
 have hm:=Gk (FO (ps.map fun p=>FR ps p))
 unfold GK
 cases e:Lx (FO (ps.map fun p=>FR ps p)) with
 |none=>rw[e] at hm;have hm:FO (ps.map fun p=>FR ps p)=[]:=hm;rw[hm] at hz;cases hz
 |some m=>
  rw[e] at hm
  exact⟨m,rfl,lC (hm.2 z hz) hle⟩
theorem TB(hw:Gr.GH n ps){m:Int}(h:GK ps=some m):∃r,Ring (Gr.Adj ps) r∧(r.length:Int)=m:=by
 have hm:=Gk (FO (ps.map fun p=>FR ps p))
 unfold GK at h
 rw[h] at hm
 obtain⟨p,hp,d,hd,rfl⟩:=Lz.mp hm.1
 rw[Ly hw hp] at hd
 obtain⟨r,h1,h2⟩:=VQ Dk (fun u hu=> (hu.inb hw).2.2 rfl) (show Gr.Adj ps p.1 p.2 from .inl hp) (Dy.mp hd)
 exact⟨r,h1,by rw[h2];rfl⟩
theorem MA(hw:Gr.GH n ps){r:List Int}(h:Ring (Gr.Adj ps) r):(r.length:Int)≤n∧3≤r.length:=by
 have:=Gr.Ek (n:=n) h.nd (BQ (Bx hw) h)
 have:=h.len
 omega
theorem EO(hw:Gr.GH n ps){m:Int}(h:GK ps=some m):∃k:Nat,m=k∧3≤k∧(k:Int)≤n∧(∀M,Ring (Gr.Adj ps) M→k≤M.length)∧∃r,Ring (Gr.Adj ps) r∧r.length=k:=by
 obtain⟨r,h1,h2⟩:=TB hw h
 have hl:=MA hw h1
 refine⟨r.length,h2.symm,hl.2,hl.1,fun M hM=>?_,r,h1,rfl⟩
 obtain⟨m',e,hle⟩:=Oj hw hM
 rw[h] at e
 cases e
 omega
theorem Vk(hw:Gr.GH n ps)(hp:ps.Pairwise Eg)(hn:n≤20){c:Nat→Int→Bool}{p:Int}(h:0≤p∧p<n){k:Nat}(least:∀M,Ring (Gr.Adj ps) M→s≤M.length)(hk:k<s):(KJ (AR ps) c p k).length≤8000:=
 VR Dk Be (EN hw hp) (Bx hw) hn h least hk
end K06
namespace L2
open PySem PySem.Spec PySem.Calls PyProof.Rows
section
variable{X:Cx}
def TC(ns:List Int):Int:=rV (fun i=>ns.getD i 0) ns.length
theorem JN{ns:List Int}(h:∀x∈ns,0≤x∧x≤1000000):∀k,0≤rV (fun i=>ns.getD i 0) k∧rV (fun i=>ns.getD i 0) k≤1000000*(k:Int)
 |0=> ⟨kT _,kT _⟩
 |k+1=>by
  have ih:=JN h k
  have e:0≤ns.getD k 0∧ns.getD k 0≤1000000:=by
   by_cases hk:k<ns.length
   ·have:=h ns[k] (jg hk)
    simpa[kc,hk] using this
   ·simp[kc,jh (by omega:ns.length≤k)]
  show 0≤rV (fun i=>ns.getD i 0) k+ns.getD k 0∧rV (fun i=>ns.getD i 0) k+ns.getD k 0≤_
  omega
theorem QF(hc:X.calm=true):BB X (.builtin "sum") (fun vs H Q=>∃(a:Addr) (ns:List Int),vs=[.ref a]∧Wa X.K H a (ns.map V.int)∧(∀x∈ns,0≤x∧x≤1000000)∧ns.length≤1000∧Q (.int (TC ns)) H):=by
 intro pins s σ H vs us Q I r h
 obtain⟨a,ns,rfl,hq,hb,hz,q⟩:=h
 obtain⟨u,rfl,ru⟩:=Cj r
 cases ru
 obtain⟨its,rv,lt,wk⟩:=I.walk hq
 have hl:its.length=ns.length:=by have:=rv.length;rw[c9] at this;exact this.symm
 refine call_sum_walk (wk X.A.in1 _ _ (I.ok.hd hc) fun o St W st=> ⟨_,_,_,_,_,_,fun i=>ns.getD i 0,rfl,W,st,fun b hb=>?_,fun i v hv=>CH rv i v hv,fun j hj=>?_,fun h' tk t' hk=>?_⟩)
 ·show b< (s.heap.push o).objs.size
  rw[jA]
  simp only[ic,i9,or_false] at hb
  rcases hb with rfl|rfl
  ·exact k4 _
  ·exact jO lt
 ·have b1:=JN hb (j+1)
  have b0:0≤ns.getD j 0∧ns.getD j 0≤1000000:=by
   have hjl:j<ns.length:=by omega
   have:=hb ns[j] (jg hjl)
   simpa[kc,hjl] using this
  have hj':((j+1:Nat):Int)≤1000:=by omega
  unfold InLong
  dsimp only
  constructor
  ·omega
  ·omega
 ·rw[hl]
  exact⟨.int _,H,I.kept (t':=tk) (Eb hk),⟨t',rfl⟩,q⟩
end
end L2
namespace L2.TL
open PySem PySem.Spec PySem.Calls PyProof.Rows
section
variable{Z:Zx}{ρ:List (Option T)}{O:AJ}{e:Expr}{p pos:Pos}{ns:List Int}
theorem fF:i5 "sum" =some (.builtin "sum"):=by decide+kernel
theorem Yz(hb:∀x∈ns,0≤x∧x≤1000000)(hz:ns.length≤1000)(m:Z.X.mg "sum" =none)(hc:Z.X.calm=true)(h:ET Z ρ O e (.lst (ns.map T.int)))(hg:Gl Z.X "sum":=by rfl)(he:e8 [e] Z.X.env=(false,eval e Z.X.env)::e8 [] Z.X.env:=by rfl):ET Z ρ O (.Call (.Name "sum" p) [e] [] pos) (.int (TC ns)):=
 Ay (QF hc) m fF (AI h AB he) (fun Φ q H vs Q ok r k=>by
  obtain⟨v,rfl,r1⟩:=r.one_inv
  obtain⟨a,xs,rfl,h1,o1,r1⟩:=r1.lst_inv
  cases Reps.ints r1
  exact⟨a,ns,rfl,.inl (.inl (.inl h1)),hb,hz,k _ H _ O q (.refl ok) (.int _)⟩) hg (by decide) (by decide) he
end
end L2.TL
namespace K06
open PySem L2 L2.TL PySem.Spec PyProof.Rows GrR
theorem bu{n:Int}{ps:List (Int×Int)}(wn:WebN n ps):Lx (FO (ps.map fun p=>IE (An n ps) p.1 p.2))=GK ps:=by
 unfold GK
 congr 2
 refine l8 fun p hp=>?_
 rw[Sy wn (show Gr.Adj ps p.1 p.2 from .inl hp)]
 exact congrArg (FR ps) (Sz wn.hw hp).1
theorem bw:(Ah ["a","b"] [(("nears" :Str),1)]).Nodup:=by decide+kernel
section
variable{P:Program}{w:World}{K:a8}{mg:Str→Option Value}{base:Heap}
def FT:CB:=GF fun ts r=>∃n ps,ts=[Ar n ps]∧WebN n ps∧r=IW (GK ps)
theorem Ol:FnScope ["web","nears"] ["web"] (AA KQ):=by ac_rfl
theorem TF{f:Addr}{fd:iI}(F:Fun K "shortest" "shortest" KQ f fd)(G:FnT P w K mg base "nears_of" 1 ["web"] CW)(Gr:FnT P w K mg base "ring_by_tie" 2 ["nears","a","b"] Wq)(Gl:FnT P w K mg base "least_told" 1 ["numbers"] Wp):FnOk P w K mg base (CXe P w) 3 f fd ["web"] (Ci K FT):=by
 refine AY F Ol ?_ ?_
 ·rintro ts O Φ Ξ ⟨r,⟨n,ps,rfl,_⟩,_⟩
  rfl
 ·rintro cdv A outer s H E O Ξ hr xf _ Φ ⟨_,⟨n,ps,rfl,wn,rfl⟩,q⟩
  have sb:=AX
  have hl:=wn.hl
  refine AD (AW 1 (ET.we (AS G (hr.mono (by decide)) xf (AH (ev 0) AB) ⟨n,ps,rfl,wn.n0,wn.n1,wn.hw,wn.hl,rfl⟩) ?_) Ol.nd)
  rw[EM,←bu wn] at*
  refine AG (AN (ET.we (AS Gl (hr.mono (by decide)) xf (AH (BJ ["a","b"] [("nears",1)] ps AE (fun p=>Aq (IE (An n ps) p.1 p.2)) rfl (BU (AA KQ) ["web","nears"] (by decide+kernel)) (Bl (AZ (ev 0) AC)) (by omega) fun p hp=> ⟨[some (.int p.1),some (.int p.2),some (Bg (An n ps))],fun X' Oe He is O'=>?_⟩) AB) ⟨ps.map fun p=>IE (An n ps) p.1 p.2,by rw[i7];rfl,by rw[c9];omega,rfl⟩) q))
  obtain⟨cl,s',H',fp,rfl⟩:=is
  have hb:=wn.hw p hp
  exact⟨BZ 0 1 rfl bw (by decide) (by decide),AS Gr hr BO (AH (ev 2) (AH (ev 0) (AH (ev 1) AB))) ⟨n,An n ps,p.1,p.2,rfl,FQ wn,Sw wn,by omega,by omega,rfl⟩⟩
def cF(fs:List (Option Nat))(k:Nat)(v:Int):Bool:=decide (fs.getD v.toNat none=some k)
def Kc(c:Int→Bool)(r xs:List Int):List (List Int):=(xs.filter fun v=>c v&&!decide (v∈r)).map fun v=>r++[v]
theorem Fw{c:Int→Bool}{r xs:List Int}{v:Int}:Kc c r (xs++[v])=Kc c r xs++(if(c v&&!decide (v∈r))=true then[r++[v]] else[]):=by
 unfold Kc
 rw[List.filter_append,iU]
 congr 1
 by_cases h:(c v&&!decide (v∈r))=true
 ·rw[if_pos h,mU,if_pos h];rfl
 ·rw[if_neg h,mU,if_neg h];rfl
theorem TH{c:Int→Bool}{r xs:List Int}{i:Nat}:(Kc c r (xs.take i)).length≤(Kc c r xs).length:=by
 unfold Kc
 rw[c9,c9]
 exact((lS i xs).filter _).length_le
theorem MB{nb:Int→List Int}{c:Int→Bool}{rs:List (List Int)}{r:List Int}:IU nb c (rs++[r])=IU nb c rs++Kc c r (nb (lst r)):=by
 unfold IU
 rw[ma]
 simp only[ph,List.flatMap_nil,jV]
 rfl
theorem Vl{nb:Int→List Int}{c:Int→Bool}{rs:List (List Int)}{j:Nat}{r:List Int}(h:rs[j]?=some r)(i:Nat):(IU nb c (rs.take j)).length+(Kc c r ((nb (lst r)).take i)).length≤(IU nb c rs).length:=by
 have e:rs=rs.take j++[r]++rs.drop (j+1):=by
  obtain⟨hj,rfl⟩:=ie.mp h
  rw[jR,List.singleton_append,lB,jq]
 have h1:(IU nb c rs).length=(IU nb c (rs.take j++[r])).length+(IU nb c (rs.drop (j+1))).length:=by
  conv=>lhs;rw[e]
  unfold IU
  rw[ma,iB]
 rw[h1,MB,iB]
 have:=TH (c:=c) (r:=r) (xs:=nb (lst r)) (i:=i)
 omega
def Wr:CB:=GF fun ts t=>∃(n:Int) (ps:List (Int×Int)) (fs:List (Option Nat)) (rs:List (List Int)) (k:Nat),ts=[Bg (An n ps),.lst (fs.map Aq),.lst (rs.map Ag),.int (k:Int)]∧WebN n ps∧(fs.length:Int)=n∧(∀r∈rs,r≠[]∧r.length≤900∧∀z∈r,0≤z∧z<n)∧(IU (AR ps) (cF fs k) rs).length≤8000000∧t=.lst ((IU (AR ps) (cF fs k) rs).map Ag)
def fG:List Str:=["nears","fars","rows","far","longer","row","near"]
theorem Om:FnScope fG ["nears","fars","rows","far"] (AA VW):=by ac_rfl
theorem Dl:(9000000:Nat)<sizeLine:=by decide
theorem On{r:List Int}(h:r≠[]):atI (r.map T.int) (-1)=some (.int (lst r)):=by
 obtain⟨M,e⟩:=j4.mp (Dg h)
 generalize lst r=v at*
 subst e
 rw[iU]
 exact Qj _ _
theorem Oo{r:List Int}(h:r≠[]):lst r∈r:=lg (Dg h)
theorem ZA{f:Addr}{fd:iI}(F:Fun K "rows_longer" "rows_longer" VW f fd):FnOk P w K mg base (CXe P w) 1 f fd ["nears","fars","rows","far"] (Ci K Wr):=by
 refine AY F Om ?_ ?_
 ·rintro ts O Φ Ξ ⟨r,⟨n,ps,fs,rs,k,rfl,_⟩,_⟩
  rfl
 ·rintro cdv A outer s H E O Ξ hr xf _ Φ ⟨_,⟨n,ps,fs,rs,k,rfl,wn,hf,hrs,hz,rfl⟩,q⟩
  have sb:=Dl
  have hu:(A.deeper (lE "rows_longer" (AA VW) s.heap.objs.size f cdv)).units+102<cLine:=by have:=hr.un;omega
  refine AD (AW 4 (Dq (Ap ⟨jl _,fun l hl=>?_⟩)) Om.nd)
  refine AD (BI Ak.own rfl (EI.wi (BG (ev 2)) ⟨fun j ρ' O'=>∃v5 v6:Option T,ρ'=[some (Bg (An n ps)),some (.lst (fs.map Aq)),some (.lst (rs.map Ag)),some (.int (k:Int)),some (.raw (.ref l)),v5,v6]∧O'=Ad O l ((IU (AR ps) (cF fs k) (rs.take j)).map Ag),⟨none,none,rfl,rfl⟩,?_,?_⟩))
  ·rintro j t _ _ e ⟨v5,v6,rfl,rfl⟩
   rw[e7] at e
   cases er:rs[j]? with
   |none=>rw[er] at e;cases e
   |some r=>
    rw[er] at e
    cases e
    obtain⟨h1,h2,h3⟩:=hrs r (hZ er)
    have hll:=h3 _ (Oo h1)
    obtain⟨u,hu'⟩:=iE hll.1
    have hrow:(An n ps).getD u []=AR ps (lst r):=by
     rw[IF (by omega),BR wn.hw,←hu']
    have hlen:u< (An n ps).length:=by have:=(FQ wn).len;omega
    refine⟨[some (Bg (An n ps)),some (.lst (fs.map Aq)),some (.lst (rs.map Ag)),some (.int (k:Int)),some (.raw (.ref l)),some (Ag r),v6],AL 5 Om.nd (by show 5<7;decide),?_⟩
    refine AG (BI Ak.own rfl (EI.wi (BG (ts:=(AR ps (lst r)).map T.int) (ET.cast (DI (ev 0) (ET.cast (AZ (ts:=r.map T.int) (ev 5) (Rj AC) (On h1)) (by rw[hu'])) (Ka hlen)) (by rw[hrow]))) ⟨fun i ρ' O'=>∃v6:Option T,ρ'=[some (Bg (An n ps)),some (.lst (fs.map Aq)),some (.lst (rs.map Ag)),some (.int (k:Int)),some (.raw (.ref l)),some (Ag r),v6]∧O'=Ad O l ((IU (AR ps) (cF fs k) (rs.take j)++Kc (cF fs k) r ((AR ps (lst r)).take i)).map Ag),⟨v6,rfl,by rw[oT];show _=Ad O l ((_++[]).map _);rw[jV]⟩,?_,?_⟩))
    ·rintro i t _ _ e ⟨v6,rfl,rfl⟩
     rw[e7] at e
     cases ei:(AR ps (lst r))[i]? with
     |none=>rw[ei] at e;cases e
     |some v=>
      rw[ei] at e
      cases e
      have hv:=Bx wn.hw _ _ (EL.mp (hZ ei))
      obtain⟨y,rfl⟩:=iE hv.1
      have hy:y<fs.length:=by omega
      refine⟨[some (Bg (An n ps)),some (.lst (fs.map Aq)),some (.lst (rs.map Ag)),some (.int (k:Int)),some (.raw (.ref l)),some (Ag r),some (.int y)],AL 6 Om.nd (by show 6<7;decide),?_⟩
      have hfa:atI (fs.map Aq) (y:Int)=some (Aq (fs.getD y none)):=BE (by rw[e7,b6 hy];simp[kc,hy])
      have step:(AR ps (lst r)).take (i+1)=(AR ps (lst r)).take i++[(y:Int)]:=by rw[jt,ei];rfl
      refine AG (Ae (k:=cF fs k (y:Int)&&!decide ((y:Int)∈r)) (EW.eb (Fl (EB.cast (Bc (KE (o9 hu)) (Ai _) (Pq (u:=.int (k:Int)) Yw (by rw[CO]) QD) (DI (ev 1) (ev 6) hfa) (ev 3)) Ss) fun _=>Dr (EB.cast (Bc (SJ hu) rfl (KG (t:=.int (y:Int)) (us:=r.map T.int) (by rw[CO]) Lm (by show 0≤100;decide)) (ev 6) (ev 5)) (by rw[EE])))) (fun h=>?_) (fun h=>Ab ?_))
      ·have hb:=Vl (nb:=AR ps) (c:=cF fs k) er (i+1)
       rw[step,Fw,if_pos h,iB] at hb
       refine AG (BY (Bj (ET.we (ev 4) ⟨l,rfl,⟨_,AF⟩,ET.we (KA (ts:=r.map T.int) (us:=[.int (y:Int)]) (ev 5) (DH (AH (ev 6) AB)) (by simp only[c9,iw,kH];omega)) ⟨_,AF,by rw[c9,iB];simp only[iw,kH] at hb;omega,⟨_,rfl,?_⟩⟩⟩)))
       rw[Av,step,Fw,if_pos h]
       congr 1
       simp only[iU,jR]
       congr 2
       simp[Ag]
      ·refine⟨_,rfl,?_⟩
       rw[step,Fw,if_neg (by rw[h];decide),jV]
    ·rintro _ _ ⟨v6,rfl,rfl⟩
     refine⟨_,_,rfl,?_⟩
     rw[c9,jj,←MB,jt,er]
     rfl
  ·rintro _ _ ⟨v5,v6,rfl,rfl⟩
   rw[c9,jj]
   refine Cq (p:=l) (n:=4) (ts:=(IU (AR ps) (cF fs k) rs).map Ag) AF hl rfl ?_
   rw[Am hl]
   exact AG (AN (ET.we (ev 4) q))
end
structure WebR(n:Int)(ps:List (Int×Int)):Prop where
 wn:WebN n ps
 hp:ps.Pairwise Eg
 n0:1≤n
 n1:n≤20
theorem QG{nb:Int→List Int}{c c':Int→Bool}{rs:List (List Int)}(h:∀u,∀v∈nb u,c v=c' v):IU nb c rs=IU nb c' rs:=by
 unfold IU
 congr 1
 funext r
 unfold Yg
 congr 1
 refine List.filter_congr fun v hv=>?_
 rw[h _ v hv]
theorem ZC{n:Int}{ps:List (Int×Int)}(hw:Gr.GH n ps):Rw (An n ps)=Gr.Adj ps:=funext fun u=>funext fun v=>propext (FP hw)
theorem ZD{n:Int}{ps:List (Int×Int)}(hw:Gr.GH n ps){c:Nat→Int→Bool}{p:Int}(hp:0≤p∧p<n){k:Nat}{r:List Int}(h:r∈KJ (AR ps) c p k):r≠[]∧r.length=k+1∧∀z∈r,0≤z∧z<n:=by
 have w1:=((ED Be).mp h).len
 exact⟨(fun z=>by rw[z] at w1;cases w1),w1,SR Be (Bx hw) hp h⟩
section
variable{P:Program}{w:World}{K:a8}{mg:Str→Option Value}{base:Heap}
def TJ:CB:=GF fun ts t=>∃(n:Int) (ps:List (Int×Int)) (p:Int) (s:Nat),ts=[Bg (An n ps),.int p,.int (s:Int)]∧WebN n ps∧(0≤p∧p<n)∧(1≤s∧s≤800)∧(∀k,k<s→(KJ (AR ps) (IV (Gr.Adj ps) s p) p k).length≤8000000)∧t=.lst ((Cf (Gr.Adj ps) (AR ps) s p).map Ag)
def fH:List Str:=["nears","start","size","fars","rows","steps"]
theorem MC:FnScope fH ["nears","start","size"] (AA Yl):=by ac_rfl
theorem ZE{f:Addr}{fd:iI}(F:Fun K "shortest_rings_from" "shortest_rings_from" Yl f fd)(Tx:Txt mg)(Gf:FnT P w K mg base "fars_from" 1 ["nears","starts"] Gi)(G:FnT P w K mg base "rows_longer" 1 ["nears","fars","rows","far"] Wr):FnOk P w K mg base (CXe P w) 2 f fd ["nears","start","size"] (Ci K TJ):=by
 refine AY F MC ?_ ?_
 ·rintro ts O Φ Ξ ⟨r,⟨n,ps,p,s,rfl,_⟩,_⟩
  rfl
 ·rintro cdv A outer s0 H E O Ξ hr xf _ Φ ⟨_,⟨n,ps,p,s,rfl,wn,hp,hs,hz,rfl⟩,q⟩
  have sb:=Dl
  refine AD (AW 3 (Aj Gf (hr.mono (by decide)) xf (EA.wa (AH (ev 0) (AH (Bu (AH (ev 1) AB) (by show 1≤sizeLine;decide)) AB)) ⟨n,An n ps,[p],rfl,FQ wn,fun z hz=>by rw[e9.mp hz];exact hp,fun fs al=>?_⟩)) MC.nd)
  rw[ZC wn.hw] at al
  have hl:=al.len
  have hcc:∀(i:Nat) (u:Int),∀v∈AR ps u,cF fs (min i (s-i)) v=IV (Gr.Adj ps) s p i v:=fun i u v hv=>by
   have hb:=Bx wn.hw _ _ (EL.mp hv)
   have:=al.get hb.1 hb.2
   unfold cF IV
   rw[iD,this];rfl
  refine AD (AW 4 (ET.we (t:=.lst ([[p]].map Ag)) (Bu (AH (DH (AH (ev 1) AB)) AB) (by show 1≤sizeLine;decide)) ?_) MC.nd)
  refine AD (BI Ak.own rfl (EI.wi (Fp Tx.nRange AC (ev 2) (by omega)) ⟨fun j ρ' O'=>∃v5:Option T,O'=O∧ρ'=[some (Bg (An n ps)),some (.int p),some (.int (s:Int)),some (.lst (fs.map Aq)),some (.lst ((KJ (AR ps) (IV (Gr.Adj ps) s p) p j).map Ag)),v5],⟨none,rfl,rfl⟩,?_,?_⟩))
  ·rintro j t _ _ e ⟨v5,rfl,rfl⟩
   obtain⟨hj,rfl⟩:=Az e
   have hj2:j+1<s:=by omega
   refine⟨[some (Bg (An n ps)),some (.int p),some (.int (s:Int)),some (.lst (fs.map Aq)),some (.lst ((KJ (AR ps) (IV (Gr.Adj ps) s p) p j).map Ag)),some (.int (1+(j:Int)))],AL 5 MC.nd (by show 5<6;decide),?_⟩
   have e1:IU (AR ps) (cF fs (min (j+1) (s- (j+1)))) (KJ (AR ps) (IV (Gr.Adj ps) s p) p j)=KJ (AR ps) (IV (Gr.Adj ps) s p) p (j+1):=QG (hcc (j+1))
   refine AG (AW 4 (ET.we (AS G (hr.mono (by decide)) xf (AH (ev 0) (AH (ev 3) (AH (ev 4) (AH (ET.cast (FE Tx.nMin rfl (ev 5) (Ce (ev 2) (ev 5))) (show T.int _=T.int (((min (j+1) (s- (j+1)):Nat)):Int) by congr 1;omega)) AB)))) ⟨n,ps,fs,_,min (j+1) (s- (j+1)),rfl,wn,hl,fun r hr=>?_,?_,rfl⟩) ?_) MC.nd)
   ·rw[e1]
    exact⟨_,rfl,rfl⟩
   ·obtain⟨h1,h2,h3⟩:=ZD wn.hw hp hr
    exact⟨h1,by omega,h3⟩
   ·rw[e1];exact hz _ hj2
  ·rintro _ _ ⟨v5,rfl,rfl⟩
   rw[BD]
   have e:((s:Int)-1).toNat=s-1:=by omega
   rw[e]
   exact AG (AN (ET.we (ev 4) q))
theorem JO{β:Type}{F:Nat→List β}{m:Nat}(h:∀i,i<m→F i=[]):(iA m).flatMap F=[]:=by
 rw[List.flatMap_eq_nil_iff]
 exact fun i hi=>h i (iM.mp hi)
theorem QH{β:Type}{F:Nat→List β}{j m:Nat}(h:∀i,i<j→F i=[])(hj:j<m)(hn:F j≠[]):((iA m).flatMap F).head?=(F j).head?:=by
 obtain⟨d,rfl⟩:∃d,m=j+(d+1):=⟨m-j-1,by omega⟩
 rw[List.range_add,ma,JO h,List.nil_append,List.range_succ_eq_map,iN,ph,nH]
 show((F (j+0)).head?.or _)=_
 rw[rO]
 cases e:F j with
 |nil=>exact absurd e hn
 |cons x l=>rfl
def bx:Option (List Int)→T
 |none=> .non
 |some r=>Ag r
def GU(n:Int)(ps:List (Int×Int))(m:Int):List (List Int):=GQ (Gr.Adj ps) (AR ps) m.toNat n.toNat
def NS(n:Int)(ps:List (Int×Int)):Option (List Int):=(GK ps).bind fun m=> (GU n ps m).head?
theorem Ke{n:Int}{ps:List (Int×Int)}(wr:WebR n ps){s:Nat}(least:∀M,Ring (Gr.Adj ps) M→s≤M.length){p:Int}(hp:0≤p∧p<n):∀k,k<s→(KJ (AR ps) (IV (Gr.Adj ps) s p) p k).length≤8000:=fun k hk=>Vk wr.wn.hw wr.hp wr.n1 hp least hk
def Oq:CB:=GF fun ts t=>∃n ps,ts=[Ar n ps]∧WebR n ps∧t=bx (NS n ps)
def ZF:List Str:=["web","size","nears","start","rings"]
theorem FU:FnScope ZF ["web"] (AA NM):=by ac_rfl
theorem MD{x:Option Int}:CU (IW x)=x.isNone:=by cases x<;>rfl
theorem ME{x:Option Int}:Cr (IW x)=false:=by cases x<;>rfl
theorem TK{f:Addr}{fd:iI}(F:Fun K "first_ring" "first_ring" NM f fd)(Tx:Txt mg)(Gs:FnT P w K mg base "shortest" 3 ["web"] FT)(Gn:FnT P w K mg base "nears_of" 1 ["web"] CW)(G:FnT P w K mg base "shortest_rings_from" 2 ["nears","start","size"] TJ):FnOk P w K mg base (CXe P w) 4 f fd ["web"] (Ci K Oq):=by
 refine AY F FU ?_ ?_
 ·rintro ts O Φ Ξ ⟨r,⟨n,ps,rfl,_⟩,_⟩
  rfl
 ·rintro cdv A outer s0 H E O Ξ hr xf _ Φ ⟨_,⟨n,ps,rfl,wr,rfl⟩,q⟩
  have sb:=Dl
  have wn:=wr.wn
  have n0:=wr.n0
  have n1:=wr.n1
  refine AD (AW 1 (ET.we (AS Gs (hr.mono (by decide)) xf (AH (ev 0) AB) ⟨n,ps,rfl,wn,rfl⟩) ?_) FU.nd)
  refine AD (Ae (EB.cast (Ei ME (ev 1)) MD) (fun h=>?_) (fun h=>Ab ?_))
  ·have e:GK ps=none:=Option.isNone_iff_eq_none.mp h
   refine AG (AN (ET.we DG ?_))
   unfold NS at q
   rw[e] at q
   exact q
  ·obtain⟨m,e⟩:∃m,GK ps=some m:=by
    cases e:GK ps with
    |none=>rw[e] at h;cases h
    |some m=>exact⟨m,rfl⟩
   obtain⟨s,rfl,h3,hsn,hle,_⟩:=EO wn.hw e
   unfold NS at q
   rw[e] at q ⊢
   have q:Φ (bx (GU n ps (s:Int)).head?) O:=q
   refine AD (AW 2 (ET.we (ET.cast (AS Gn (hr.mono (by decide)) xf (AH (ev 0) AB) ⟨n,ps,rfl,wn.n0,wn.n1,wn.hw,wn.hl,rfl⟩) EM) ?_) FU.nd)
   refine AD (BI Ak.own rfl (EI.wi (Al Tx.nRange (AZ (t:=.int n) (ev 0) AC) (by omega)) ⟨fun j ρ' O'=>∃v3 v4:Option T,O'=O∧ρ'=[some (Ar n ps),some (.int (s:Int)),some (Bg (An n ps)),v3,v4]∧∀i:Nat,i<j→Cf (Gr.Adj ps) (AR ps) s (i:Int)=[],⟨none,none,rfl,rfl,fun i hi=>absurd hi (my _)⟩,?_,?_⟩))
   ·rintro j t _ _ ej ⟨v3,v4,rfl,rfl,hno⟩
    obtain⟨hj,rfl⟩:=Az ej
    rw[mW]
    have hp:0≤(j:Int)∧(j:Int)<n:=by omega
    refine⟨[some (Ar n ps),some (.int (s:Int)),some (Bg (An n ps)),some (.int (j:Int)),v4],AL 3 FU.nd (by show 3<5;decide),?_⟩
    refine AD (AW 4 (ET.we (AS G (hr.mono (by decide)) xf (AH (ev 2) (AH (ev 3) (AH (ev 1) AB))) ⟨n,ps,j,s,rfl,wn,hp,by omega,fun k hk=>jv (Ke wr hle hp k hk) (by decide),rfl⟩) ?_) FU.nd)
    refine AG (Ae (k:=!((Cf (Gr.Adj ps) (AR ps) s (j:Int)).map Ag).isEmpty) (Hc (t:=.lst ((Cf (Gr.Adj ps) (AR ps) s (j:Int)).map Ag)) (ev 4) rfl) (fun h=>?_) (fun h=>Ab ⟨_,_,rfl,rfl,fun i hi=>?_⟩))
    ·have hne:Cf (Gr.Adj ps) (AR ps) s (j:Int)≠[]:=fun z=>by rw[z] at h;cases h
     have hd:(GU n ps (s:Int)).head?=(Cf (Gr.Adj ps) (AR ps) s (j:Int)).head?:=QH (F:=fun(i:Nat)=>Cf (Gr.Adj ps) (AR ps) s (i:Int)) hno (by omega) hne
     rw[hd] at q
     generalize Cf (Gr.Adj ps) (AR ps) s (j:Int)=X at*
     cases X with
     |nil=>exact absurd rfl hne
     |cons x l=>exact AG (AN (ET.we (DI (t:=Ag x) (ev 4) AC (BE (j:=0) rfl)) q))
    ·by_cases hij:i=j
     ·subst hij
      generalize Cf (Gr.Adj ps) (AR ps) s (i:Int)=X at*
      cases X with
      |nil=>rfl
      |cons x l=>cases h
     ·exact hno i (by omega)
   ·rintro _ _ ⟨v3,v4,rfl,rfl,hno⟩
    rw[BD] at hno
    have hd:GU n ps (s:Int)=[]:=JO (F:=fun(i:Nat)=>Cf (Gr.Adj ps) (AR ps) s (i:Int)) hno
    rw[hd] at q
    exact AG (AN (ET.we DG q))
theorem GL{ns:List Int}:∀k,rV (fun i=>ns.getD i 0) k=(ns.take k).sum
 |0=>rfl
 |k+1=>by
  show rV (fun i=>ns.getD i 0) k+ns.getD k 0=_
  rw[GL k,jt,List.sum_append]
  congr 1
  rw[iD]
  cases ns[k]? with
  |none=>rfl
  |some x=>simp
theorem TM{ns:List Int}:TC ns=ns.sum:=by unfold TC;rw[GL,jj]
theorem MF:∀{xs:List Nat},(xs.map fun(x:Nat)=> (x:Int)).sum=((xs.sum:Nat):Int)
 | []=>rfl
 |x::xs=>by rw[iN,List.sum_cons,List.sum_cons,MF];omega
def IY(n:Int)(ps:List (Int×Int)):Int:=match GK ps with
 |none=>0
 |some m=> ((GU n ps m).length:Int)/ (2*m)
def Kf:CB:=GF fun ts t=>∃n ps,ts=[Ar n ps]∧WebR n ps∧t=.int (IY n ps)
theorem Kg:FnScope ["web","size","nears"] ["web"] (AA KR):=by ac_rfl
theorem bz:(Ah ["start"] [(("nears" :Str),2),(("size" :Str),1)]).Nodup:=by decide+kernel
theorem TN{f:Addr}{fd:iI}(F:Fun K "shortest_many" "shortest_many" KR f fd)(Tx:Txt mg)(Gs:FnT P w K mg base "shortest" 3 ["web"] FT)(Gn:FnT P w K mg base "nears_of" 1 ["web"] CW)(G:FnT P w K mg base "shortest_rings_from" 2 ["nears","start","size"] TJ):FnOk P w K mg base (CXe P w) 4 f fd ["web"] (Ci K Kf):=by
 refine AY F Kg ?_ ?_
 ·rintro ts O Φ Ξ ⟨r,⟨n,ps,rfl,_⟩,_⟩
  rfl
 ·rintro cdv A outer s0 H E O Ξ hr xf _ Φ ⟨_,⟨n,ps,rfl,wr,rfl⟩,q⟩
  have sb:=Dl
  have wn:=wr.wn
  have n0:=wr.n0
  have n1:=wr.n1
  refine AD (AW 1 (ET.we (AS Gs (hr.mono (by decide)) xf (AH (ev 0) AB) ⟨n,ps,rfl,wn,rfl⟩) ?_) Kg.nd)
  refine AD (Ae (EB.cast (Ei ME (ev 1)) MD) (fun h=>?_) (fun h=>Ab ?_))
  ·have e:GK ps=none:=Option.isNone_iff_eq_none.mp h
   refine AG (AN (ET.we AC ?_))
   unfold IY at q
   rw[e] at q
   exact q
  ·obtain⟨m,e⟩:∃m,GK ps=some m:=by
    cases e:GK ps with
    |none=>rw[e] at h;cases h
    |some m=>exact⟨m,rfl⟩
   obtain⟨s,rfl,h3,hsn,hle,_⟩:=EO wn.hw e
   unfold IY at q
   rw[e] at q ⊢
   have q:Φ (.int (((GU n ps (s:Int)).length:Int)/ (2*(s:Int)))) O:=q
   have es:TC ((iA n.toNat).map fun(i:Nat)=> (((Cf (Gr.Adj ps) (AR ps) s (i:Int)).length:Nat):Int))=((GU n ps (s:Int)).length:Int):=by
    rw[TM]
    show _=(((iA n.toNat).flatMap fun(i:Nat)=>Cf (Gr.Adj ps) (AR ps) s (i:Int)).length:Int)
    rw[List.length_flatMap,←MF,i7]
    rfl
   refine AD (AW 2 (ET.we (ET.cast (AS Gn (hr.mono (by decide)) xf (AH (ev 0) AB) ⟨n,ps,rfl,wn.n0,wn.n1,wn.hw,wn.hl,rfl⟩) EM) ?_) Kg.nd)
   rw[←es] at q
   refine AG (AN (ET.we (GY (Yz (ns:=(iA n.toNat).map fun(i:Nat)=> (((Cf (Gr.Adj ps) (AR ps) s (i:Int)).length:Nat):Int)) ?_ (by rw[c9,jQ];omega) Tx.nSum rfl (ET.cast (BJ ["start"] [("nears",2),("size",1)] (iA n.toNat) (fun(i:Nat)=>T.int (0+(i:Int))) (fun(i:Nat)=>T.int (((Cf (Gr.Adj ps) (AR ps) s (i:Int)).length:Nat):Int)) rfl (BU (AA KR) ["web","size","nears"] (by decide+kernel)) (Al Tx.nRange (AZ (t:=.int n) (ev 0) AC) (by omega)) (by rw[jQ];omega) fun i hi=> ⟨[some (.int (0+(i:Int))),some (Bg (An n ps)),some (.int (s:Int))],fun X' Oe He is O'=>?_⟩) ?_)) (Mt AC (ev 1) (.inl ⟨by decide,by decide⟩)) ⟨by omega,by omega⟩) q))
   ·intro x hx
    obtain⟨i,hi,rfl⟩:=ig.mp hx
    have hi:=iM.mp hi
    have:(Cf (Gr.Adj ps) (AR ps) s (i:Int)).length≤8000:=Ke wr hle (p:=(i:Int)) (by omega) (s-1) (by omega)
    omega
   ·obtain⟨cl,s',H',fp,rfl⟩:=is
    have hi:=iM.mp hi
    rw[mW]
    have hp:0≤(i:Int)∧(i:Int)<n:=by omega
    refine⟨AL 0 bz (by decide),ET.cast (GZ Tx.nLen (AS G (hr.mono (by decide)) BO (AH (ev 1) (AH (ev 0) (AH (ev 2) AB))) ⟨n,ps,i,s,rfl,wn,hp,by omega,fun k hk=>jv (Ke wr hle hp k hk) (by decide),rfl⟩)) ?_⟩
    rw[c9]
   ·rw[i7];rfl
end
end K06
namespace StT
open PySem PySem.SetTable PyProof.Rows
section
variable{prog:Program}{w:World}{A:iC}{E:Value→a9→Prop}{s:a9}
theorem ZG:isSubtype (.type "tuple") (.type "set")=pure false:=by rw[nC];kernel_rfl
theorem ZH:isSubtype (.type "tuple") (.type "frozenset")=pure false:=by rw[nC];kernel_rfl
theorem Kh{l:Addr}{items:Array Value}{ns:List Int}{Q:Value→a9→Prop}
  (hh:A.handled=none) (hl:s.heap.IsTuple l items) (hi:lI items.toList ns) (hb:items.size+1<rT)
  (h:∀(h':Heap) (tk:Nat),h'.SetOf (intKind prog w) s.heap.objs.size (fun k'=> (rB (fun i=>ns.getD i 0) items.size).any (· ==k')) (rB (fun i=>ns.getD i 0) items.size).length→
   (∀b o,b<s.heap.objs.size→s.heap.get? b=some o→h'.get? b=some o)→Q (.ref s.heap.objs.size) {s with heap:=h',toks:=tk}):
  wpAny (model prog w) A (call (.type "set") [.ref l]) Q E s:=by
 refine HW (Q₁:=fun obj s₁=>obj=.ref s.heap.objs.size∧s₁={s with heap:=s.heap.push (BH w)}) nj (PySem.F.typeCall_set_1 _) (LM _ ⟨rfl,rfl⟩) ?_
 rintro obj s₁ ⟨rfl,rfl⟩
 have hS:(s.heap.push (BH w)).get? s.heap.objs.size=some (BH w):=iz _ rfl
 have hT:a9.TypeIs {s with heap:=s.heap.push (BH w)} (.ref s.heap.objs.size) "set":=⟨_,hS,rfl⟩
 refine⟨hT,lO nj.init.plain PySem.F.entry_set_init (check_set_init_1 hT ?_)⟩
 obtain⟨ol,hol,hcl,nl,hdl⟩:=hl
 obtain⟨ocls,odict,odata,oslots⟩:=ol
 simp only at hcl hdl
 subst hcl;subst hdl
 have hol':(s.heap.push (BH w)).get? l=some {cls:=.type "tuple",dict:=odict,data:=.seq items nl,slots:=oslots}:=e6 _ hol
 have hsls:=ZG
 have hslf:=ZH
 have hne:(mq "tuple" ==mq "dict")=false:=by decide
 have hl1:(s.heap.push (BH w)).IsTuple l items:=⟨_,hol',rfl,nl,rfl⟩
 unfold Builtin.«set.__init__» noKeywords Builtin.Frozenset.updateFrom
 generalize hPI:qt=PI
 wp_walk
 subst hPI
 refine mj hl1 ?_
 refine a7 (wpAny_runValue ?_)
 have hlS:l<s.heap.objs.size:=ip hol
 have hneI:l≠(s.heap.push (BH w)).objs.size:=by
  rw[jA];exact iL (jO hlS)
 have kp:∀b o,s.heap.get? b=some o→((s.heap.push (BH w)).push {cls:=.type "tuple_iterator",data:=.fields #[.ref l,.int 0 0]}).get? b=some o:=fun b o e=>e6 _ (e6 _ e)
 have hval:∀(i:Nat) (v:Value),items[i]?=some v→∃t,v=.int ((fun i=>ns.getD i 0) i) t:=fun i v hv=>hi.int_at i v (by rw[iR];exact hv)
 refine codeAny_set_update_loopS ((Walks.tuple (by simpa using hh) _ l hneI items).toS) s.heap.objs.size (by
   rw[jA];simp only[ic,i9,or_false,not_or]
   exact⟨iL (k4 _),mw hlS⟩) (fun i=>ns.getD i 0) hval hb (items.size-0) 0 _ (by omega) (jl _)
  ⟨⟨_,iz _ rfl,rfl,rfl⟩,⟨_,kp _ _ hol,rfl,nl,rfl⟩⟩ (SetOf_congr ((setObjOf_fresh (knd:=intKind prog w) _).setOf (e6 _ hS) (by unfold rT;omega)) (fun _=>rfl) rfl) ?_
 intro s' hm hS'
 obtain⟨h',g',d',tk',os'⟩:=s'
 cases(show g'=s.gens from hm.gens)
 cases(show d'=s.drawn from hm.drawn)
 cases(show os'=s.os from hm.os)
 show wpAny _ _ _ _ _ _
 refine b9 ?_
 show wpAny _ _ (ret kZ) _ _ _
 refine b9 ⟨rfl,h h' tk' hS' fun b o hb e=>hm.heap b o ?_ (kp b o e)⟩
 rw[jA]
 simp only[ic,i9,or_false,not_or]
 exact⟨iL hb,iL (jO hb)⟩
end
end StT
namespace L2
open PySem PySem.Spec PySem.Calls PyProof.Rows
variable{X:Cx}
theorem QI(hc:X.calm=true):BB X (.type "set") (fun xs H Q=>∃(a:Addr) (ns:List Int),xs=[.ref a]∧DT X.K H a (ns.map V.int)∧ns.length<1000∧∀(p:Addr) (S:Int→Bool),H p=none→Q (.ref p) (upd H p (.set S (Zr ns)))):=by
 intro pins s σ H xs us Q I r h
 obtain⟨a,ns,rfl,hS,hl,q⟩:=h
 obtain⟨u,rfl,ru⟩:=Vals.one r
 cases ru
 obtain⟨its,rv,p,_⟩:=I.tuple hS
 have hlen:its.length=ns.length:=by have:=rv.length;simpa using this.symm
 refine StT.Kh (ns:=ns) (I.ok.hd hc) p (by simpa using CC rv) (by simp only[iu,rT];omega) fun h' tk hs hk=>?_
 have hf:H s.heap.objs.size=none:=I.hok.fresh (hC _)
 have hs':h'.SetOf (intKind X.prog X.w) s.heap.objs.size (fun k'=> (rB (fun i=>ns.getD i 0) its.toArray.size).any (· ==k')) (Zr ns):=by
  have e:its.toArray.size=ns.length:=by rw[iu];exact hlen
  rw[e] at hs ⊢
  exact hs
 exact⟨.ref s.heap.objs.size,upd H s.heap.objs.size (.set _ (Zr ns)),I.laid (t':=tk) (fun b u e=>hk b u (ip e) e) (hC _) hs',rfl,q _ _ hf⟩
theorem QJ{ns:List Int}:Zr ns=ns.length↔ns.Nodup:=by
 have key:∀k,k≤ns.length→((rB (fun i=>ns.getD i 0) k).length=k↔(ns.take k).Nodup):=by
  intro k
  induction k with
  |zero=>intro _;simp[firstMet_zero]
  |succ k ih=>
   intro hk
   have ih:=ih (by omega)
   have hlt:k<ns.length:=by omega
   have hle:=firstMet_length_le (fun i=>ns.getD i 0) k
   have hg:ns.getD k 0=ns[k]:=by simp[kc,hlt]
   have ht:ns.take (k+1)=ns.take k++[ns[k]]:=by rw[jt,b6 hlt];rfl
   have hm:(iA k).map (fun i=>ns.getD i 0)=ns.take k:=by
    apply jy
    intro i
    rw[e7,lH]
    by_cases hi:i<k
    ·rw[if_pos hi,kQ hi,b6 (by omega)]
     simp[kc,show i<ns.length by omega]
    ·rw[if_neg hi,jh (by simp;omega)];rfl
   rw[firstMet_succ,step_length,firstMet_any,hm,hg,ht,jd]
   by_cases h:ns[k]∈ns.take k
   ·rw[if_pos (pS.mpr ⟨_,h,by simp⟩)]
    refine⟨fun e=>by omega,fun⟨_,_,c⟩=>absurd rfl (c _ h _ (by simp))⟩
   ·rw[if_neg (fun z=>by
     obtain⟨y,hy,e⟩:=pS.mp z
     exact h (by rw[←beq_iff_eq.mp e];exact hy))]
    refine⟨fun e=> ⟨ih.mp (by omega),by simp,fun x hx y hy e=>h (by rw[←e9.mp hy,←e];exact hx)⟩,fun c=>by have:=ih.mpr c.1;omega⟩
 have:=key ns.length (hC _)
 rwa[jj] at this
end L2
namespace L2.TL
open PySem PySem.Spec PyProof.Rows
section
variable{Z:Zx}{ρ:List (Option T)}{O:AJ}{e:Expr}{p p1 pos pos1:Pos}
theorem NT{ns:List Int}(m:Z.X.mg "len" =none)(m2:Z.X.mg "set" =none)(hc:Z.X.calm=true)(h:ET Z ρ O e (.tup (ns.map T.int)))(hl:ns.length<1000)(hg:Gl Z.X "len":=by rfl)(hg2:Gl Z.X "set":=by rfl)(he:e8 [e] Z.X.env=(false,eval e Z.X.env)::e8 [] Z.X.env:=by rfl)
  (he2:e8 [rZ (.Name "set" p1) [e] [] pos1] Z.X.env=(false,eval (.Call (.Name "set" p1) [e] [] pos1) Z.X.env)::e8 [] Z.X.env:=by rfl):ET Z ρ O (.Call (.Name "len" p) [.Call (.Name "set" p1) [e] [] pos1] [] pos) (.int (Zr ns)):=fun Φ q=>by
 refine PE.weak (En Le hg m Rx (Dm (Bh (QI hc) hg2 m2 bI (IR (ρ:=ρ)) (by decide) (by decide) he) FZ he2) (by decide) (by decide) he2) fun σ H Q k=>?_
 refine⟨O,_,AI h AB he (fun ts O'=>ts=[.tup (ns.map T.int)]∧O'=O) ⟨rfl,rfl⟩,k.1,?_⟩
 rintro vs H1 _ _ ⟨rfl,rfl⟩ f r
 obtain⟨v,rfl,r1⟩:=r.one_inv
 obtain⟨a,xs,rfl,h1,r1⟩:=r1.tup_inv
 cases r1.ints
 refine⟨a,ns,rfl,.inl (.inl h1),hl,fun p S hp=> ⟨p,S,Zr ns,rfl,AQ,?_⟩⟩
 exact k.2 _ _ _ _ q (f.trans (.new f.ok hp)) (.int _)
end
end L2.TL
namespace K06
open PySem L2 L2.TL PySem.Spec PyProof.Rows GrR
def OB(r:List Int):List (Int×Int):=r.zip (r.drop 1++r.take 1)
def dQ(r:List Int)(i:Nat):Nat:=if i+1=r.length then 0 else i+1
theorem Vm{f:Int×Int→Bool}{r:List Int}:(OB r).all f=true↔∀i,i<r.length→f (r.getD i 0,r.getD (dQ r i) 0)=true:=by
 have hl:(r.drop 1++r.take 1).length=r.length:=by simp only[iB,jx,iH];omega
 have hz:(OB r).length=r.length:=by unfold OB;rw[List.length_zip,hl,Nat.min_self]
 have at_:∀i (h:i< (OB r).length),(OB r)[i]=(r.getD i 0,r.getD (dQ r i) 0):=fun i h=>by
  have hi:i<r.length:=by omega
  have h':i< (r.zip (r.drop 1++r.take 1)).length:=h
  show(r.zip (r.drop 1++r.take 1))[i]'h'=_
  rw[List.getElem_zip]
  refine kb (by simp[kc,hi]) ?_
  show(r.drop 1++r.take 1)[i]=_
  unfold dQ
  by_cases e:i+1=r.length
  ·rw[if_pos e,List.getElem_append_right (by rw[jx];omega)]
   simp[kc,show 0<r.length by omega,show i- (r.length-1)=0 by omega]
  ·rw[if_neg e,List.getElem_append_left (by rw[jx];omega),List.getElem_drop]
   simp[kc,show i+1<r.length by omega,Nat.add_comm]
 rw[jM]
 constructor
 ·intro h i hi
  have:=h _ (jg (show i< (OB r).length by omega))
  rwa[at_] at this
 ·intro h p hp
  obtain⟨i,hi,rfl⟩:=l9 hp
  rw[at_]
  exact h i (by omega)
section
variable{P:Program}{w:World}{K:a8}{mg:Str→Option Value}{base:Heap}
theorem Vn:FnScope ["web","thing"] ["web","thing"] (AA Hu):=by ac_rfl
theorem cA:(Ah ["place"] [(("web" :Str),0)]).Nodup:=by decide+kernel
theorem ZI:(Ah ["a","b"] [(("web" :Str),0)]).Nodup:=by decide+kernel
theorem Vo{r:List Int}:KB (r.map T.int) (((r.map T.int).drop 1)++(r.map T.int).take 1)=(OB r).map AE:=by
 unfold KB OB
 rw[←pJ,←qX,←iU,List.zipWith_map,List.zip,List.map_zipWith]
 rfl
theorem MG(ts:List T):GP ts none (some 1)=ts.take 1:=by
 unfold GP
 have h1:HT.BV ts.length ts.length (some 1)=min 1 ts.length:=rfl
 have h2:HT.BV ts.length 0 none=0:=rfl
 rw[h1,h2,qC,Nat.sub_zero]
 cases ts with
 |nil=>rfl
 |cons t ts=>simp
theorem Os(ts:List T):GP ts (some 1) none=ts.drop 1:=by
 unfold GP
 have:HT.BV ts.length 0 (some 1)=min 1 ts.length:=rfl
 rw[this]
 show(ts.drop (min 1 ts.length)).take (ts.length-min 1 ts.length)=_
 cases ts with
 |nil=>rfl
 |cons t ts=>simp
end
end K06
namespace L2.TL
local macro_rules | `(tactic| omega) => `(tactic| first | lia | omega)
open PySem PySem.Spec PyProof.Rows
end L2.TL
namespace K06
local macro_rules | `(tactic| omega) => `(tactic| first | lia | omega)
open PySem L2 L2.TL PySem.Spec PyProof.Rows Gr
section
variable{P:Program}{w:World}{K:a8}{mg:Str→Option Value}{base:Heap}{n:Int}{ps:List (Int×Int)}
theorem ER{x:Option Nat}:CU (Aq x)=x.isNone:=by cases x<;>rfl
theorem JP{fs:List (Option Nat)}{v:Nat}:((v:Int)∈Ao fs)↔∃d,fs[v]?=some (some d):=by
 unfold Ao
 rw[ig]
 constructor
 ·rintro⟨j,hj,e⟩
  have e:j=v:=by omega
  subst e
  rw[iX,ER] at hj
  obtain⟨h1,h2⟩:=hj
  have h1:=iM.mp h1
  rw[iD,b6 h1] at h2
  cases h:fs[j] with
  |none=>rw[h] at h2;cases h2
  |some d=>exact⟨d,by rw[b6 h1,h]⟩
 ·rintro⟨d,e⟩
  have h1:=(ie.mp e).1
  refine⟨v,?_,by omega⟩
  rw[iX,ER]
  refine⟨iM.mpr h1,?_⟩
  rw[iD,e]
  rfl
theorem DP{fs:List (Option Nat)}{p:Int}{v:Nat}(a:All n ps [p] fs)(hv:(v:Int)<n):((v:Int)∈Ao fs)↔Rc ps p v:=by
 rw[JP,←a.rc (by omega) hv]
 rfl
theorem MH{fs gs:List (Option Nat)}{p q:Int}(a:All n ps [p] fs)(b:All n ps [q] gs)(h:Rc ps p q):Ao fs=Ao gs:=by
 have l1:=a.len
 have l2:=b.len
 have l:fs.length=gs.length:=by omega
 unfold Ao
 rw[l]
 congr 1
 apply List.filter_congr
 intro j hj
 have hj:=iM.mp hj
 have hjn:(j:Int)<n:=by omega
 rw[ER,ER]
 have e1:=a.rc (v:=j) (by omega) hjn
 have e2:=b.rc (v:=j) (by omega) hjn
 rw[iS] at e1 e2
 have e3:Rc ps p j↔Rc ps q j:=⟨fun z=>h.symm.trans z,fun z=>h.trans z⟩
 have hf:∀{hs:List (Option Nat)},j<hs.length→((!(hs.getD j none).isNone)=true↔∃d,hs[j]?=some (some d)):=fun{hs} hl=>by
  rw[iD,b6 hl]
  cases h:hs[j] with
  |none=>simp
  |some d=>simp
 rw[jW,hf (by omega),hf hj,e1,e2,e3]
theorem TQ{acc:List (List Int)}{x y:List Int}:y∈Lw acc x↔y∈acc∨y=x:=by
 unfold Lw
 split
 ·rename_i h
  exact⟨.inl,fun z=>z.elim id fun z=>z▸h⟩
 ·simp
theorem Fy:∀{L:List (List (Option Nat))} {acc:List (List Int)} {y:List Int},y∈L.foldl (fun acc fs=>Lw acc (Ao fs)) acc↔y∈acc∨∃fs∈L,Ao fs=y
 | [],acc,y=>by simp
 |fs::L,acc,y=>by
  rw[qk,Fy,TQ]
  simp only[ic,exists_eq_or_imp]
  constructor
  ·rintro((h|h)|h)
   ·exact .inl h
   ·exact .inr (.inl h.symm)
   ·exact .inr (.inr h)
  ·rintro(h|h|h)
   ·exact .inl (.inl h)
   ·exact .inl (.inr h.symm)
   ·exact .inr h
theorem QK{FL:List (List (Option Nat))}{fs:List (Option Nat)}{j:Nat}(fl:FarL n ps FL)(ec:FL[j]?=some fs):((BA (FL.take j)).map fun x=>decide ((j:Int)∈x)).any id=decide (Ao fs∈BA (FL.take j)):=by
 have hj:=(ie.mp ec).1
 have hl:=fl.len
 have hjn:(j:Int)<n:=by omega
 have a:=fl.all j fs ec
 rw[jW,decide_eq_true_eq,List.any_map,pS]
 constructor
 ·rintro⟨x,hx,h⟩
  have h:(j:Int)∈x:=by simpa using h
  rcases Fy.mp hx with z| ⟨gs,hg,rfl⟩
  ·cases z
  ·obtain⟨i,hi,e⟩:=List.mem_iff_getElem.mp hg
   have hil:i<j:=by simp at hi;omega
   have e1:FL[i]?=some gs:=by
    rw[List.getElem_take] at e
    rw[b6 (by omega),e]
   have b:=fl.all i gs e1
   have r:=(DP b hjn).mp h
   rw[←MH b a r]
   exact hx
 ·intro h
  exact⟨_,h,by simpa using(DP a hjn).mpr .refl⟩
theorem TR{fs:List (Option Nat)}:GI (fs.map Aq)=(iA fs.length).map fun j=> .tup [.int (j:Int),Aq (fs.getD j none)]:=by
 unfold GI
 apply jy
 intro m
 rw[e7,e7,oa,e7]
 by_cases hm:m<fs.length
 ·rw[b6 hm,kQ hm]
  simp[kc,hm]
 ·rw[jh (by omega),jh (by simp;omega)]
  rfl
def FV:CB:=fun ts O Φ _=>∃n ps FL,ts=[Ar n ps]∧WebN n ps∧FarL n ps FL∧∀l,O l=none→Φ (.raw (.ref l)) (Ad O l ((BA FL).map Ag))
def fI:List Str:=["web","nears","pieces","place","fars"]
theorem TU:FnScope fI ["web"] (AA EF):=by ac_rfl
theorem ZJ:(Ah ["piece"] [(("place" :Str),3)]).Nodup:=by decide+kernel
theorem ZK:(Ah ["other","far"] []).Nodup:=by decide+kernel
theorem QL{f:Addr}{fd:iI}(F:Fun K "pieces_of" "pieces_of" EF f fd)(Tx:Txt mg)(G:FnT P w K mg base "nears_of" 1 ["web"] CW)(Gf:FnT P w K mg base "fars_from" 1 ["nears","starts"] NO):FnOk P w K mg base (CXe P w) 2 f fd ["web"] (Ci K FV):=by
 refine AY F TU ?_ ?_
 ·rintro ts O Φ Ξ ⟨n,ps,FL,rfl,_⟩
  rfl
 ·rintro cdv A outer s H E O Ξ hr xf _ Φ ⟨n,ps,FL,rfl,wn,fl,q⟩
  have sb:=AX
  have n0:=wn.n0
  have n1:=wn.n1
  have hFL:=fl.len
  have hu:(A.deeper (lE "pieces_of" (AA EF) s.heap.objs.size f cdv)).units+102<cLine:=by have:=hr.un;omega
  refine AD (AW 1 (ET.we (AS G hr xf (AH (ev 0) AB) ⟨n,ps,rfl,wn.n0,wn.n1,wn.hw,wn.hl,rfl⟩) ?_) TU.nd)
  refine AD (AW 2 (Dq (Ap ⟨jl _,fun l hl=>?_⟩)) TU.nd)
  refine AD (BI Ak.own rfl (EI.wi (Al Tx.nRange (AZ (ev 0) AC) ⟨by omega,by omega⟩) ⟨fun j ρ' O'=>∃(v3 v4:Option T),ρ'=[some (Ar n ps),some (Dj n ps),some (.raw (.ref l)),v3,v4]∧O'=Ad O l ((BA (FL.take j)).map Ag)∧(BA (FL.take j)).length≤j,⟨none,none,rfl,rfl,by simp[BA]⟩,?_,?_⟩))
  ·rintro j t _ _ e ⟨v3,v4,rfl,rfl,hlen⟩
   obtain⟨hj,rfl⟩:=Az e
   rw[mW]
   have hjl:j<FL.length:=by omega
   have ec:FL[j]?=some FL[j]:=b6 hjl
   generalize FL[j]=fs at ec
   have al0:=fl.all j fs ec
   have et:BA (FL.take (j+1))=Lw (BA (FL.take j)) (Ao fs):=by
    unfold BA
    rw[jt,ec]
    show rq _ _ (FL.take j++[fs])=_
    rw[pf]
    rfl
   refine⟨[some (Ar n ps),some (Dj n ps),some (.raw (.ref l)),some (.int (j:Int)),v4],AL 3 TU.nd (by show 3<5;decide),?_⟩
   refine AG (Ae (k:=!decide (Ao fs∈BA (FL.take j))) (EB.cast (BF (CS (YV (bs:=(BA (FL.take j)).map fun x=>decide ((j:Int)∈x)) Tx.nAny rfl (ET.cast (VJ ["piece"] [("place",3)] (BA (FL.take j)) Ag (fun x=> .bl (decide ((j:Int)∈x))) AF rfl (BU (AA EF) fI (by decide+kernel)) (ev 2) (by omega) fun x hx=> ⟨[some (Ag x),some (.int (j:Int))],fun X' Oe He is O'=>?_⟩) (by rw[i7];rfl))))) (by rw[QK fl ec])) (fun h=>?_) (fun h=>Ab ?_))
   ·obtain⟨cl,s',H',fp,rfl⟩:=is
    refine⟨AL 0 ZJ (by decide),ET.cast (Bb (Wi hu) rfl (KG (t:=.int (j:Int)) (us:=x.map T.int) (by rw[CO]) Gj (by show 0≤100;decide)) (ev 1) (ev 0)) ?_⟩
    rw[EE]
    rfl
   ·have hm:Ao fs∉BA (FL.take j):=by simpa using h
    have ea:Lw (BA (FL.take j)) (Ao fs)=BA (FL.take j)++[Ao fs]:=if_neg hm
    refine AD (AW 4 (Aj Gf hr xf (EA.wa (AH (ev 1) (AH (Bu (ts:=[(j:Int)].map T.int) (AH (ev 3) AB) (by show 1≤sizeLine;decide)) AB)) ⟨n,ps,[(j:Int)],rfl,wn,fun z hz=>?_,fun fs' al=>?_⟩)) TU.nd)
    ·rw[e9.mp hz];omega
    ·cases al.uniq al0
     have hlf:=al0.len
     refine AG (BY (Bj (ET.we (ev 2) ⟨l,rfl,⟨_,AF⟩,ET.we (t:=Ag (Ao fs)) (ET.cast (Df Tx.nTuple (Hm ["other","far"] [] (iA fs.length) (fun j=> .tup [.int (j:Int),Aq (fs.getD j none)]) (fun j=> .int (j:Int)) (fun j=>!CU (Aq (fs.getD j none))) rfl (BU (AA EF) fI (by decide+kernel)) (EI.cast (OX Tx.nEnum (ev 4)) TR) (by rw[jQ];omega) fun x hx=> ⟨[some (.int (x:Int)),some (Aq (fs.getD x none))],fun X' Oe He is O'=>?_⟩)) ?_) ⟨_,AF,by rw[c9];omega,?_⟩⟩)))
     ·obtain⟨cl,s',H',fp,rfl⟩:=is
      exact⟨BZ 0 1 rfl ZK (by decide) (by decide),Oh Hy (ev 1),fun _=>ev 0⟩
     ·unfold Ag Ao
      rw[i7]
      congr 1
      apply l8
      intro a _
      show T.int (a:Int)=T.int (0+(a:Int))
      rw[mW]
     ·refine⟨_,_,rfl,?_,by rw[et,ea];simp;omega⟩
      rw[et,ea,Av,iU]
      rfl
   ·have hm:Ao fs∈BA (FL.take j):=by simpa using h
    have ea:Lw (BA (FL.take j)) (Ao fs)=BA (FL.take j):=if_pos hm
    exact⟨_,_,rfl,by rw[et,ea],by rw[et,ea];omega⟩
  ·rintro _ _ ⟨v3,v4,rfl,rfl,hlen⟩
   have e:(GO 0 n.toNat).length=FL.length:=by simp[GO];omega
   rw[e,jj]
   exact AG (AN (ET.we (ev 2) (q l hl)))
end
end K06
namespace K06
open PySem L2 L2.TL PySem.Spec PyProof.Rows
abbrev FW:Stmt:=top 8
abbrev ZL:Stmt:=top 13
abbrev MI:Stmt:=top 14
abbrev Ot:Stmt:=top 15
section
variable{P:Program}{w:World}{K:a8}{mg:Str→Option Value}{base:Heap}
theorem ZM:FnScope ["many","thing"] ["many","thing"] (AA Ot):=by ac_rfl
theorem ZN:(Ah ["end"] [(("many" :Str),0)]).Nodup:=by decide+kernel
theorem TV:FnScope ["row"] ["row"] (AA FW):=by ac_rfl
theorem cB:(Ah ["one","other"] []).Nodup:=by decide+kernel
theorem fJ(ts:List T):GP ts (some 1) none=ts.drop 1:=by
 unfold GP
 have:HT.BV ts.length 0 (some 1)=min 1 ts.length:=rfl
 rw[this]
 show(ts.drop (min 1 ts.length)).take (ts.length-min 1 ts.length)=_
 cases ts with
 |nil=>rfl
 |cons t ts=>
  have:min 1 (t::ts).length=1:=by simp
  rw[this]
  simp
theorem NU(ps qs:List (Int×Int)):KB (ps.map AE) (qs.map AE)=(ps.zip qs).map fun z=> .tup [AE z.1,AE z.2]:=by
 unfold KB
 rw[List.zipWith_map,List.zip,List.map_zipWith]
theorem ZO(p q:Int×Int):HT.Bq [p.1,p.2] [q.1,q.2]=true↔Eg p q:=by
 show(if p.1=q.1 then(if p.2=q.2 then false else decide (p.2<q.2)) else decide (p.1<q.1))=true↔_
 unfold Eg
 split
 ·split
  ·simp;omega
  ·simp;omega
 ·simp;omega
theorem ZP:FnScope ["many","thing"] ["many","thing"] (AA MI):=by ac_rfl
theorem Vp:(Ah ["tie"] [(("many" :Str),0)]).Nodup:=by decide+kernel
theorem cC:(Ah ["a","b"] []).Nodup:=by decide+kernel
theorem cD:FnScope ["thing"] ["thing"] (AA ZL):=by ac_rfl
end
def rg(n:Int):List Int:=(iA n.toNat).map fun(i:Nat)=> (i:Int)
section
variable{P:Program}{w:World}{K:a8}{mg:Str→Option Value}{base:Heap}{CP:Addr}
theorem Vq:(Ah ["a","b"] [(("names" :Str),1)]).Nodup:=by decide+kernel
theorem cE:(Ah ["name"] [(("web" :Str),0)]).Nodup:=by decide+kernel
theorem TX:FnScope ["pairs"] ["pairs"] (AA FI):=by ac_rfl
theorem NV{f:Addr}{fd:iI}(F:Fun K "ties_of" "ties_of" FI f fd)(Tx:Txt mg):FnOk P w K mg base (CXe P w) 1 f fd ["pairs"] (Ci K Hz):=by
 refine AY F TX ?_ ?_
 ·rintro ts O Φ Ξ ⟨ps,rfl,_⟩
  rfl
 ·rintro cdv A outer s H E O Ξ hr xf _ Φ ⟨ps,rfl,hl,hp,q⟩
  have hu:(A.deeper (lE "ties_of" (AA FI) s.heap.objs.size f cdv)).units+8<cLine:=by have:=hr.un;omega
  have hz:ps.length≤sizeLine:=jv hl (by decide)
  refine AG (AN (CJ Tx.nTuple (DJ (ps:=ps.map mm) Tx.nSorted Tx.nSet rfl hu ?_ (by simpa using hl) ?_ fun qs h1 h2 h3=> ⟨_,rfl,q qs h1 h2 (by simpa using h3)⟩)))
  ·rw[i7]
   refine BJ ["a","b"] [] ps AE _ rfl (BU (AA FI) ["pairs"] (by decide+kernel)) (BG (ev 0)) hz fun x hx=> ⟨[some (.int x.1),some (.int x.2)],fun X' Oe He is O'=>?_⟩
   obtain⟨cl,s',H',fp,rfl⟩:=is
   exact⟨BZ 0 1 rfl Yu (by decide) (by decide),DH (AH (FE Tx.nMin rfl (ev 0) (ev 1)) (AH (Ga Tx.nMax rfl (ev 0) (ev 1)) AB))⟩
  ·intro z hz
   obtain⟨p,h1,rfl⟩:=ig.mp hz
   have:=hp p h1
   show 0≤max _ _∧max _ _<65536
   omega
theorem QM:FnScope ["web","names"] ["web","names"] (AA Cu):=by ac_rfl
theorem NW{n z:Int}(h:z∈rg n):0≤z∧z<n:=by
 obtain⟨i,hi,rfl⟩:=ig.mp h
 have:=iM.mp hi
 omega
theorem NX{n:Int}:(rg n).length=n.toNat:=by simp[rg]
theorem Vr{n:Int}:(rg n).Pairwise (·≤·):=by
 unfold rg
 rw[jc]
 exact jP.imp fun h=>by omega
end
section
variable{P:Program}{w:World}{K:a8}{mg:Str→Option Value}{base:Heap}{f:Addr}{cdv:Value}{A:iC}{outer:List Env}{s:a9}{H:Hp}{E:XK}{O0 O2:AJ}{Ξ:Value→AJ→Prop}{p:Addr}{most way n:Int}{es:List (Int×Int)}{v5:Option T}{Φ:Bf}{N:Jw}
theorem gc(hr:Room 2 (zS P w K mg base f cdv A outer s H E O0 Ξ).X.A)(xf:XFly (zS P w K mg base f cdv A outer s H E O0 Ξ).X (zS P w K mg base f cdv A outer s H E O0 Ξ).W)(Tx:Txt mg)(G:FnT P w K mg base "_law_draw" 2 ["_law_pen","_law_many"] BK)(po2:PO O0 p O2)(w0:0≤way)(n0:1≤n)(n1:n≤16)(he:∀q∈es,AU n q)(hz:es.length≤256)
  (q:∀(ps:List (Int×Int)) (O':AJ),(∀q∈ps,AU n q)→ps.length≤256→PO O0 p O'→Φ (.tup [.int n,.tup (ps.map AE)]) O') (w3:way<3):HS (zS P w K mg base f cdv A outer s H E O0 Ξ) (Em p most way n es v5) O2 (bZ (Fv 4)) {nx:=N,rt:=Φ}:=by
 have sb:=AX
 refine⟨?_⟩
 obtain⟨mm,em,mm0,mm1⟩:=bY w0 w3
 refine AG (AN (Bt (CA (ET.we (ev 3) (CA (CJ Tx.nTuple (JB (nc:=["_law_pair"]) (cap:=[("_law_pen",0),("_law_way",2)]) rfl (BU (AA Bv) DN (by decide+kernel)) (EI.wi (BG (ev 4)) ?_))))))))
 refine⟨fun i acc O'=>∃qs:List (Int×Int),acc=qs.map AE∧(∀z∈qs,AU n z)∧qs.length≤i∧i≤256∧PO O0 p O',⟨[],rfl,by simp,by simp,by omega,po2⟩,?_,?_⟩
 ·rintro i t acc O' c e ⟨qs,rfl,hq,hl,_,po⟩ hc
  rw[e7] at e
  cases ee:es[i]? with
  |none=>rw[ee] at e;cases e
  |some z=>
   rw[ee] at e
   cases e
   have hi:=(ie.mp ee).1
   refine⟨[some (AE z),some (.raw (.ref p)),some (.int way)],fun X' Oe He is=>?_⟩
   obtain⟨cl,s',H',fp,rfl⟩:=is
   refine⟨AL 0 bU (by decide),Jx (Jv Kq (Ai _) (CK G hr BO po hc (ev 1) (DI (Bu (AH AC (AH AC (AH AC AB))) (by show 3≤sizeLine;decide)) (ev 2) em) mm0 mm1 fun r O3 r0 r1 po3 hc3=>ET.we AC (Ju _ ⟨_,rfl,?_⟩)))⟩
   refine Xn (fun h=>?_) (fun h=>?_)
   ·rintro X' Oe He ⟨cl,s',H',fp,rfl⟩
    refine ET.we (ev 0) ⟨O3,rfl,hc3,by rw[c9];omega,qs++[z],by rw[iU];rfl,fun y hy=>?_,by simp;omega,by omega,po3⟩
    rcases iO.mp hy with hy|hy
    ·exact hq y hy
    ·rw[e9.mp hy];exact he z (hZ ee)
   ·exact⟨O3,rfl,hc3,qs,rfl,hq,by omega,by omega,po3⟩
 ·rintro acc O' ⟨qs,rfl,hq,hl,_,po⟩
  rw[c9] at hl
  exact⟨_,rfl,Ap ⟨by show 2≤sizeLine;decide,q qs O' hq (by omega) po⟩⟩
end
section
variable{P:Program}{w:World}{K:a8}{mg:Str→Option Value}{base:Heap}{f:Addr}{cdv:Value}{A:iC}{outer:List Env}{s:a9}{H:Hp}{E:XK}{O0 O2:AJ}{Ξ:Value→AJ→Prop}{p:Addr}{most way n:Int}{es:List (Int×Int)}{v5:Option T}{Φ:Bf}{N:Jw}
theorem gf(hr:Room 2 (zS P w K mg base f cdv A outer s H E O0 Ξ).X.A)(xf:XFly (zS P w K mg base f cdv A outer s H E O0 Ξ).X (zS P w K mg base f cdv A outer s H E O0 Ξ).W)(Tx:Txt mg)(G:FnT P w K mg base "_law_draw" 2 ["_law_pen","_law_many"] BK)(po2:PO O0 p O2)(w0:0≤way)(n0:1≤n)(n1:n≤16)(he:∀q∈es,AU n q)(hz:es.length≤256)
  (q:∀(ps:List (Int×Int)) (O':AJ),(∀q∈ps,AU n q)→ps.length≤256→PO O0 p O'→Φ (.tup [.int n,.tup (ps.map AE)]) O') (n2:2<n) (Gt:FnT P w K mg base "_law_turned" 2 ["_law_many","_law_steps"] Dh):HS (zS P w K mg base f cdv A outer s H E O0 Ξ) (Em p most way n es v5) O2 (bZ (Fv 5)) {nx:=N,rt:=Φ}:=by
 have sb:=AX
 refine⟨?_⟩
 refine AG (AN (Aj Gt hr xf (CA (ET.we (ev 3) (CA (JB (nc:=["_law_step"]) (cap:=[("_law_pen",0)]) rfl (BU (AA Bv) DN (by decide+kernel)) (EI.wi (Fp Tx.nRange AC (Cd (GY (ev 3) AC ⟨by decide,by decide⟩) AC) ⟨by decide,by decide,by omega,by omega⟩) ?_)))))))
 refine⟨fun i acc O'=>∃ss:List Int,acc=ss.map T.int∧(∀z∈ss,1≤z∧z<n)∧ss.length≤i∧i≤16∧PO O0 p O',⟨[],rfl,by simp,by simp,by omega,po2⟩,?_,?_⟩
 ·rintro i t acc O' c e ⟨qs,rfl,hq,hl,_,po⟩ hc
  obtain⟨hi,rfl⟩:=Az e
  refine⟨[some (.int (1+i)),some (.raw (.ref p))],fun X' Oe He is=>?_⟩
  obtain⟨cl,s',H',fp,rfl⟩:=is
  refine⟨AL 0 bV (by decide),Jx (Jv Kq (Ai _) (CK G hr BO po hc (ev 1) AC (by decide) (by decide) fun r O3 r0 r1 po3 hc3=>ET.we AC (Ju _ ⟨_,rfl,?_⟩)))⟩
  refine Xn (fun h=>?_) (fun h=>?_)
  ·rintro X' Oe He ⟨cl,s',H',fp,rfl⟩
   refine ET.we (ev 0) ⟨O3,rfl,hc3,by rw[c9];omega,qs++[1+(i:Int)],by rw[iU];rfl,fun y hy=>?_,by simp;omega,by omega,po3⟩
   rcases iO.mp hy with hy|hy
   ·exact hq y hy
   ·rw[e9.mp hy];omega
  ·exact⟨O3,rfl,hc3,qs,rfl,hq,by omega,by omega,po3⟩
 ·rintro acc O' ⟨ss,rfl,hq,hl,hl2,po⟩
  exact Ap ⟨n,ss,rfl,by omega,by omega,by omega,hq,fun qs _ h2 h3=>q qs O' h2 h3 po⟩
end
section
variable{P:Program}{w:World}{K:a8}{mg:Str→Option Value}{base:Heap}{f:Addr}{cdv:Value}{A:iC}{outer:List Env}{s:a9}{H:Hp}{E:XK}{O0 O2:AJ}{Ξ:Value→AJ→Prop}{p:Addr}{most way n:Int}{es:List (Int×Int)}{v5:Option T}{Φ:Bf}{N:Jw}
theorem gh(hr:Room 2 (zS P w K mg base f cdv A outer s H E O0 Ξ).X.A)(xf:XFly (zS P w K mg base f cdv A outer s H E O0 Ξ).X (zS P w K mg base f cdv A outer s H E O0 Ξ).W)(Tx:Txt mg)(G:FnT P w K mg base "_law_draw" 2 ["_law_pen","_law_many"] BK)(po2:PO O0 p O2)(w0:0≤way)(n0:1≤n)(n1:n≤16)(he:∀q∈es,AU n q)(hz:es.length≤256)
  (q:∀(ps:List (Int×Int)) (O':AJ),(∀q∈ps,AU n q)→ps.length≤256→PO O0 p O'→Φ (.tup [.int n,.tup (ps.map AE)]) O')  :HS (zS P w K mg base f cdv A outer s H E O0 Ξ) (Em p most way n es v5) O2 (bZ (Fv 6)) {nx:=N,rt:=Φ}:=by
 have sb:=AX
 refine⟨?_⟩
 refine AD (AW 6 (GD Gv (ET.we AC (KW G hr xf po2 (ev 0) (ev 3) (by omega) (by omega) fun side O3 u0 u1 po3=>JA _ ?_))) CV.nd)
 refine AG (AN (Bt (CA (ET.we (ev 3) (CA (ET.we (Df Tx.nTuple (Hm ["_law_one","_law_other"] [("_law_side",6)] es AE AE (fun z=>!(decide (z.1<1+side)==decide (z.2<1+side))) rfl (BU (AA Bv) DN (by decide+kernel)) (BG (ev 4)) (by omega) fun x hx=> ⟨[some (.int x.1),some (.int x.2),some (.int (1+side))],fun X' Oe He is O'=>?_⟩)) (Ap ⟨by show 2≤sizeLine;decide,?_⟩)))))))
 ·obtain⟨cl,s',H',fp,rfl⟩:=is
  exact⟨BZ 0 1 rfl bW (by decide) (by decide),Rn (Rh (ev 0) (ev 2)) (Rh (ev 1) (ev 2)),fun _=>DL (ev 0) (ev 1)⟩
 ·exact q _ O3 (fun z hz=>he z (iX.mp hz).1) (jv (nK _ _) hz) po3
end
section
variable{P:Program}{w:World}{K:a8}{mg:Str→Option Value}{base:Heap}{f:Addr}{cdv:Value}{A:iC}{outer:List Env}{s:a9}{H:Hp}{E:XK}{O0 O2:AJ}{Ξ:Value→AJ→Prop}{p:Addr}{most way n:Int}{es:List (Int×Int)}{v5:Option T}{Φ:Bf}{N:Jw}
theorem gj(hr:Room 2 (zS P w K mg base f cdv A outer s H E O0 Ξ).X.A)(xf:XFly (zS P w K mg base f cdv A outer s H E O0 Ξ).X (zS P w K mg base f cdv A outer s H E O0 Ξ).W)(Tx:Txt mg)(G:FnT P w K mg base "_law_draw" 2 ["_law_pen","_law_many"] BK)(po2:PO O0 p O2)(w0:0≤way)(n0:1≤n)(n1:n≤16)(he:∀q∈es,AU n q)(hz:es.length≤256)
  (q:∀(ps:List (Int×Int)) (O':AJ),(∀q∈ps,AU n q)→ps.length≤256→PO O0 p O'→Φ (.tup [.int n,.tup (ps.map AE)]) O') (q10:∀(ps:List (Int×Int)) (O':AJ),(∀q∈ps,AU 10 q)→ps.length≤256→PO O0 p O'→Φ (.tup [.int 10,.tup (ps.map AE)]) O'):HS (zS P w K mg base f cdv A outer s H E O0 Ξ) (Em p most way n es v5) O2 (bZ (Fv 7)) {nx:=N,rt:=Φ}:=by
 have sb:=AX
 refine⟨?_⟩
 refine AD ?_
 refine VA (ts:=List.map AE [(0,1),(1,2),(2,3),(3,4),(0,4),(5,7),(7,9),(6,9),(6,8),(5,8)]) 7 ?hE ?hl ?hk CV.nd ?ha ?hb ?hc
 case ha=>rfl
 case hb=>exact pH rfl
 case hc=>exact .inl rfl
 case hE=>exact CPs.hea (ps:=[(0,1),(1,2),(2,3),(3,4),(0,4),(5,7),(7,9),(6,9),(6,8),(5,8)]) (.cons (.cons (.cons (.cons (.cons (.cons (.cons (.cons (.cons (.cons .nil))))))))))
 case hl=>
  rw[c9]
  exact jv (show 10≤1000 by decide) (mT sb)
 refine AG ?_
 refine AN ?_
 refine Bt ?_
 refine CA (ET.we AC ?_)
 refine CA ?_
 refine ET.we (t:=.tup (List.map AE [(0,1),(1,2),(2,3),(3,4),(0,4),(5,7),(7,9),(6,9),(6,8),(5,8)]++(iA 5).map fun(j:Nat)=>AE (0+(j:Int),0+(j:Int)+5))) ?u3 ?u4
 case u3=>
  refine Df Tx.nTuple ?_
  refine Gc (ev 7) ?_ (by rw[c9,c9];exact jv (show 15≤1000 by decide) (mT sb))
  refine BJ ["_law_place"] [] (iA 5) (fun(j:Nat)=> .int (0+(j:Int))) (fun(j:Nat)=>AE (0+(j:Int),0+(j:Int)+5)) rfl (BU (AA Bv) DN (by decide+kernel)) ?_ (by show 5≤sizeLine;decide) ?_
  ·exact Al (k:=5) Tx.nRange AC ⟨by decide,by decide⟩
  ·intro x hx
   refine⟨[some (.int (0+x))],fun X' Oe He is O'=>?_⟩
   obtain⟨cl,s',H',fp,rfl⟩:=is
   exact⟨AL 0 Wn (by decide),DL (ev 0) (Cd (ev 0) AC)⟩
 refine Ap ⟨by show 2≤sizeLine;decide,?_⟩
 refine q10 [(0,1),(1,2),(2,3),(3,4),(0,4),(5,7),(7,9),(6,9),(6,8),(5,8),(0,5),(1,6),(2,7),(3,8),(4,9)] O2 ?_ (by decide) po2
 unfold AU
 decide
end
section
variable{P:Program}{w:World}{K:a8}{mg:Str→Option Value}{base:Heap}{f:Addr}{cdv:Value}{A:iC}{outer:List Env}{s:a9}{H:Hp}{E:XK}{O0 O2:AJ}{Ξ:Value→AJ→Prop}{p:Addr}{most way n:Int}{es:List (Int×Int)}{v5:Option T}{Φ:Bf}{N:Jw}
theorem gk(hr:Room 2 (zS P w K mg base f cdv A outer s H E O0 Ξ).X.A)(xf:XFly (zS P w K mg base f cdv A outer s H E O0 Ξ).X (zS P w K mg base f cdv A outer s H E O0 Ξ).W)(Tx:Txt mg)(G:FnT P w K mg base "_law_draw" 2 ["_law_pen","_law_many"] BK)(po2:PO O0 p O2)(w0:0≤way)(n0:1≤n)(n1:n≤16)(he:∀q∈es,AU n q)(hz:es.length≤256)
  (q:∀(ps:List (Int×Int)) (O':AJ),(∀q∈ps,AU n q)→ps.length≤256→PO O0 p O'→Φ (.tup [.int n,.tup (ps.map AE)]) O') (n2:2<n):HS (zS P w K mg base f cdv A outer s H E O0 Ξ) (Em p most way n es v5) O2 (bZ (Fv 8)) {nx:=N,rt:=Φ}:=by
 have sb:=AX
 refine⟨?_⟩
 refine AG (AN (Bt (CA (ET.we (ev 3) (CA (ET.we (Df Tx.nTuple (Gc (us:=[AE (0,n-1)]) (BJ ["_law_place"] [] (iA (n-1).toNat) (fun j=> .int (0+j)) (fun j=>AE (0+j,0+j+1)) rfl (BU (AA Bv) DN (by decide+kernel)) (Al Tx.nRange (Ce (ev 3) AC) ⟨by omega,by omega⟩) (by simp;omega) fun x hx=> ⟨[some (.int (0+x))],fun X' Oe He is O'=>?_⟩) (Bu (AH (DL AC (Ce (ev 3) AC)) AB) (by show 1≤sizeLine;decide)) (by simp;omega))) (Ap ⟨by show 2≤sizeLine;decide,?_⟩)))))))
 ·obtain⟨cl,s',H',fp,rfl⟩:=is
  exact⟨AL 0 Wn (by decide),DL (ev 0) (Cd (ev 0) AC)⟩
 ·have:=q ((iA (n-1).toNat).map (fun(j:Nat)=> (0+(j:Int),0+(j:Int)+1))++[(0,n-1)]) O2 (fun z hz=>by
   rcases iO.mp hz with hz|hz
   ·obtain⟨j,hj,rfl⟩:=ig.mp hz
    have:=iM.mp hj
    show 0≤0+(j:Int)∧0+(j:Int)<0+(j:Int)+1∧0+(j:Int)+1<n
    omega
   ·rw[e9.mp hz]
    show(0:Int)≤0∧0<n-1∧n-1<n
    omega) (by simp;omega) po2
  rw[iU,i7] at this
  exact this
end
section
variable{P:Program}{w:World}{K:a8}{mg:Str→Option Value}{base:Heap}{f:Addr}{cdv:Value}{A:iC}{outer:List Env}{s:a9}{H:Hp}{E:XK}{O0 O2:AJ}{Ξ:Value→AJ→Prop}{p:Addr}{most way n:Int}{es:List (Int×Int)}{v5:Option T}{Φ:Bf}{N:Jw}
theorem gq(hr:Room 2 (zS P w K mg base f cdv A outer s H E O0 Ξ).X.A)(xf:XFly (zS P w K mg base f cdv A outer s H E O0 Ξ).X (zS P w K mg base f cdv A outer s H E O0 Ξ).W)(Tx:Txt mg)(G:FnT P w K mg base "_law_draw" 2 ["_law_pen","_law_many"] BK)(po2:PO O0 p O2)(w0:0≤way)(n0:1≤n)(n1:n≤16)(he:∀q∈es,AU n q)(hz:es.length≤256)
  (q:∀(ps:List (Int×Int)) (O':AJ),(∀q∈ps,AU n q)→ps.length≤256→PO O0 p O'→Φ (.tup [.int n,.tup (ps.map AE)]) O')  :HS (zS P w K mg base f cdv A outer s H E O0 Ξ) (Em p most way n es v5) O2 ([Fv 9]) {nx:=N,rt:=Φ}:=by
 have sb:=AX
 refine⟨?_⟩
 refine AG (AN (Bt (CA (ET.we (ev 3) (CA (CJ Tx.nTuple (JB (nc:=["_law_place"]) (cap:=[("_law_pen",0)]) rfl (BU (AA Bv) DN (by decide+kernel)) (EI.wi (Fp Tx.nRange AC (ev 3) ⟨by decide,by decide,by omega,by omega⟩) ?_))))))))
 refine⟨fun i acc O'=>∃qs:List (Int×Int),acc=qs.map AE∧(∀z∈qs,AU n z)∧qs.length≤i∧i≤16∧PO O0 p O',⟨[],rfl,by simp,by simp,by omega,po2⟩,?_,?_⟩
 ·rintro i t acc O' c e ⟨qs,rfl,hq,hl,_,po⟩ hc
  obtain⟨hi,rfl⟩:=Az e
  refine⟨[some (.int (1+i)),some (.raw (.ref p))],fun X' Oe He is=>?_⟩
  obtain⟨cl,s',H',fp,rfl⟩:=is
  refine⟨AL 0 bX (by decide),Dt (Jc ?_)⟩
  rintro X' Oe He ⟨cl,s',H',fp,rfl⟩
  refine Bt (CA (CK G hr BO po hc (ev 1) (ev 0) (by omega) (by omega) fun r O3 r0 r1 po3 hc3=>EA.wa (AH (ev 0) AB) ⟨by show 2≤sizeLine;decide,O3,rfl,hc3,by rw[c9];omega,qs++[(r,1+(i:Int))],by rw[iU];rfl,fun y hy=>?_,by simp;omega,by omega,po3⟩))
  rcases iO.mp hy with hy|hy
  ·exact hq y hy
  ·rw[e9.mp hy]
   show 0≤r∧r<1+(i:Int)∧1+(i:Int)<n
   omega
 ·rintro acc O' ⟨qs,rfl,hq,hl,hl2,po⟩
  exact⟨_,rfl,Ap ⟨by show 2≤sizeLine;decide,q qs O' hq (by omega) po⟩⟩
end
section
variable{P:Program}{w:World}{K:a8}{mg:Str→Option Value}{base:Heap}{f:Addr}{cdv:Value}{A:iC}{outer:List Env}{s:a9}{H:Hp}{E:XK}{O0 O2:AJ}{Ξ:Value→AJ→Prop}{p:Addr}{most way n:Int}{es:List (Int×Int)}{v5:Option T}{Φ:Bf}{N:Jw}
theorem t9(hr:Room 2 (zS P w K mg base f cdv A outer s H E O0 Ξ).X.A)(xf:XFly (zS P w K mg base f cdv A outer s H E O0 Ξ).X (zS P w K mg base f cdv A outer s H E O0 Ξ).W)(Tx:Txt mg)(G:FnT P w K mg base "_law_draw" 2 ["_law_pen","_law_many"] BK)(po2:PO O0 p O2)(w0:0≤way)(n0:1≤n)(n1:n≤16)(he:∀q∈es,AU n q)(hz:es.length≤256)
  (q:∀(ps:List (Int×Int)) (O':AJ),(∀q∈ps,AU n q)→ps.length≤256→PO O0 p O'→Φ (.tup [.int n,.tup (ps.map AE)]) O'):HS (zS P w K mg base f cdv A outer s H E O0 Ξ) (Em p most way n es v5) O2 ([Fv 9]) {nx:=N,rt:=Φ}:=by
 exact gq hr xf Tx G po2 w0 n0 n1 he hz q
theorem t8(hr:Room 2 (zS P w K mg base f cdv A outer s H E O0 Ξ).X.A)(xf:XFly (zS P w K mg base f cdv A outer s H E O0 Ξ).X (zS P w K mg base f cdv A outer s H E O0 Ξ).W)(Tx:Txt mg)(G:FnT P w K mg base "_law_draw" 2 ["_law_pen","_law_many"] BK)(po2:PO O0 p O2)(w0:0≤way)(n0:1≤n)(n1:n≤16)(he:∀q∈es,AU n q)(hz:es.length≤256)
  (q:∀(ps:List (Int×Int)) (O':AJ),(∀q∈ps,AU n q)→ps.length≤256→PO O0 p O'→Φ (.tup [.int n,.tup (ps.map AE)]) O'):HS (zS P w K mg base f cdv A outer s H E O0 Ξ) (Em p most way n es v5) O2 ([Fv 8,Fv 9]) {nx:=N,rt:=Φ}:=by
 refine Lb (EW.eb (Fl (Dc (ev 2) AC) fun _=>Dr (OL (ev 3) AC))) (fun h=>?_) (fun h=>t9 hr xf Tx G po2 w0 n0 n1 he hz q)
 have h:(decide (way=6)&&decide (2<n))=true:=h
 have n2:2<n:=by simp at h;exact h.2
 exact gk hr xf Tx G po2 w0 n0 n1 he hz q n2
theorem t7(hr:Room 2 (zS P w K mg base f cdv A outer s H E O0 Ξ).X.A)(xf:XFly (zS P w K mg base f cdv A outer s H E O0 Ξ).X (zS P w K mg base f cdv A outer s H E O0 Ξ).W)(Tx:Txt mg)(G:FnT P w K mg base "_law_draw" 2 ["_law_pen","_law_many"] BK)(po2:PO O0 p O2)(w0:0≤way)(n0:1≤n)(n1:n≤16)(he:∀q∈es,AU n q)(hz:es.length≤256)
  (q:∀(ps:List (Int×Int)) (O':AJ),(∀q∈ps,AU n q)→ps.length≤256→PO O0 p O'→Φ (.tup [.int n,.tup (ps.map AE)]) O') (q10:9<most→∀(ps:List (Int×Int)) (O':AJ),(∀q∈ps,AU 10 q)→ps.length≤256→PO O0 p O'→Φ (.tup [.int 10,.tup (ps.map AE)]) O'):HS (zS P w K mg base f cdv A outer s H E O0 Ξ) (Em p most way n es v5) O2 ([Fv 7,Fv 8,Fv 9]) {nx:=N,rt:=Φ}:=by
 refine Lb (EW.eb (Fl (Dc (ev 2) AC) fun _=>Dr (OL (ev 1) AC))) (fun h=>?_) (fun h=>t8 hr xf Tx G po2 w0 n0 n1 he hz q)
 have h:(decide (way=5)&&decide (9<most))=true:=h
 have n2:9<most:=by simp at h;exact h.2
 exact gj hr xf Tx G po2 w0 n0 n1 he hz q (q10 n2)
theorem t6(hr:Room 2 (zS P w K mg base f cdv A outer s H E O0 Ξ).X.A)(xf:XFly (zS P w K mg base f cdv A outer s H E O0 Ξ).X (zS P w K mg base f cdv A outer s H E O0 Ξ).W)(Tx:Txt mg)(G:FnT P w K mg base "_law_draw" 2 ["_law_pen","_law_many"] BK)(po2:PO O0 p O2)(w0:0≤way)(n0:1≤n)(n1:n≤16)(he:∀q∈es,AU n q)(hz:es.length≤256)
  (q:∀(ps:List (Int×Int)) (O':AJ),(∀q∈ps,AU n q)→ps.length≤256→PO O0 p O'→Φ (.tup [.int n,.tup (ps.map AE)]) O') (q10:9<most→∀(ps:List (Int×Int)) (O':AJ),(∀q∈ps,AU 10 q)→ps.length≤256→PO O0 p O'→Φ (.tup [.int 10,.tup (ps.map AE)]) O'):HS (zS P w K mg base f cdv A outer s H E O0 Ξ) (Em p most way n es v5) O2 ([Fv 6,Fv 7,Fv 8,Fv 9]) {nx:=N,rt:=Φ}:=by
 exact Lb (Dc (ev 2) AC) (fun h=>gh hr xf Tx G po2 w0 n0 n1 he hz q) (fun h=>t7 hr xf Tx G po2 w0 n0 n1 he hz q q10)
theorem t5(hr:Room 2 (zS P w K mg base f cdv A outer s H E O0 Ξ).X.A)(xf:XFly (zS P w K mg base f cdv A outer s H E O0 Ξ).X (zS P w K mg base f cdv A outer s H E O0 Ξ).W)(Tx:Txt mg)(G:FnT P w K mg base "_law_draw" 2 ["_law_pen","_law_many"] BK)(po2:PO O0 p O2)(w0:0≤way)(n0:1≤n)(n1:n≤16)(he:∀q∈es,AU n q)(hz:es.length≤256)
  (q:∀(ps:List (Int×Int)) (O':AJ),(∀q∈ps,AU n q)→ps.length≤256→PO O0 p O'→Φ (.tup [.int n,.tup (ps.map AE)]) O') (q10:9<most→∀(ps:List (Int×Int)) (O':AJ),(∀q∈ps,AU 10 q)→ps.length≤256→PO O0 p O'→Φ (.tup [.int 10,.tup (ps.map AE)]) O') (Gt:FnT P w K mg base "_law_turned" 2 ["_law_many","_law_steps"] Dh):HS (zS P w K mg base f cdv A outer s H E O0 Ξ) (Em p most way n es v5) O2 ([Fv 5,Fv 6,Fv 7,Fv 8,Fv 9]) {nx:=N,rt:=Φ}:=by
 refine Lb (EW.eb (Fl (Dc (ev 2) AC) fun _=>Dr (OL (ev 3) AC))) (fun h=>?_) (fun h=>t6 hr xf Tx G po2 w0 n0 n1 he hz q q10)
 have h:(decide (way=3)&&decide (2<n))=true:=h
 have n2:2<n:=by simp at h;exact h.2
 exact gf hr xf Tx G po2 w0 n0 n1 he hz q n2 Gt
theorem t4(hr:Room 2 (zS P w K mg base f cdv A outer s H E O0 Ξ).X.A)(xf:XFly (zS P w K mg base f cdv A outer s H E O0 Ξ).X (zS P w K mg base f cdv A outer s H E O0 Ξ).W)(Tx:Txt mg)(G:FnT P w K mg base "_law_draw" 2 ["_law_pen","_law_many"] BK)(po2:PO O0 p O2)(w0:0≤way)(n0:1≤n)(n1:n≤16)(he:∀q∈es,AU n q)(hz:es.length≤256)
  (q:∀(ps:List (Int×Int)) (O':AJ),(∀q∈ps,AU n q)→ps.length≤256→PO O0 p O'→Φ (.tup [.int n,.tup (ps.map AE)]) O') (q10:9<most→∀(ps:List (Int×Int)) (O':AJ),(∀q∈ps,AU 10 q)→ps.length≤256→PO O0 p O'→Φ (.tup [.int 10,.tup (ps.map AE)]) O') (Gt:FnT P w K mg base "_law_turned" 2 ["_law_many","_law_steps"] Dh):HS (zS P w K mg base f cdv A outer s H E O0 Ξ) (Em p most way n es v5) O2 ([Fv 4,Fv 5,Fv 6,Fv 7,Fv 8,Fv 9]) {nx:=N,rt:=Φ}:=by
 exact Lb (Wb (ev 2) AC) (fun h=>gc hr xf Tx G po2 w0 n0 n1 he hz q (of_decide_eq_true h)) (fun h=>t5 hr xf Tx G po2 w0 n0 n1 he hz q q10 Gt)
end
section
variable{P:Program}{w:World}{K:a8}{mg:Str→Option Value}{base:Heap}
theorem TY{f:Addr}{fd:iI}(F:Fun K "_law_shape" "_law_shape" Bv f fd)(Tx:Txt mg)(G:FnT P w K mg base "_law_draw" 2 ["_law_pen","_law_many"] BK)(Gt:FnT P w K mg base "_law_turned" 2 ["_law_many","_law_steps"] Dh):FnOk P w K mg base (CXe P w) 3 f fd ["_law_pen","_law_most"] (Ci K Od):=by
 refine VB F CV ?_ ?_
 ·rintro ts O Φ Ξ ⟨p,xs,m,rfl,_⟩
  rfl
 ·rintro cdv A outer s H E O0 Ξ hr xf _ Φ ⟨p,xs,most,rfl,hp,px,t0,t1,q⟩
  have sb:=AX
  refine BP (AW 2 (KW G hr xf (PO.start hp px) (ev 0) AC (by decide) (by decide) fun way O1 w0 w1 po1=>?_) CV.nd)
  refine BP (AW 3 (GD Gv (ET.we AC (KW G hr xf po1 (ev 0) (ev 1) (by omega) (by omega) fun mm O2 u0 u1 po2=>JA _ ?_))) CV.nd)
  have n0:1≤1+mm:=by omega
  have n1:1+mm≤most:=by omega
  generalize 1+mm=n at n0 n1
  clear u0 u1 po1 mm
  have q':∀(ps:List (Int×Int)) (O':AJ),(∀q∈ps,AU n q)→ps.length≤256→PO O0 p O'→Φ (.tup [.int n,.tup (ps.map AE)]) O':=fun ps O' a b c=>q n ps O' n0 n1 a b c
  refine BP (AW 4 (ET.we (Bu AB (jl _)) ?_) CV.nd)
  refine BP (BI Ak.own rfl (EI.wi (Al Tx.nRange (ev 3) ⟨by omega,by omega⟩) ⟨fun i ρ' O'=>∃(es:List (Int×Int)) (v5:Option T),ρ'=Em p most way n es v5∧O'=O2∧(∀q∈es,AU n q)∧es.length≤16*i,⟨[],none,rfl,rfl,by simp,by simp⟩,?_,?_⟩))
  ·rintro i t _ _ e ⟨es,v5,rfl,rfl,he,hz⟩
   obtain⟨hi,rfl⟩:=Az e
   refine⟨Em p most way n es (some (.int (0+i))),AL 5 CV.nd (by show 5<8;decide),?_⟩
   refine AG (AW 4 (ET.we (Gc (ev 4) (BJ ["_law_one"] [("_law_other",5)] (iA (0+(i:Int)).toNat) (fun j=> .int (0+j)) (fun j=>AE (0+j,0+i)) rfl (BU (AA Bv) DN (by decide+kernel)) (Al Tx.nRange (ev 5) ⟨by omega,by omega⟩) (by simp;omega) fun x hx=> ⟨[some (.int (0+x)),some (.int (0+i))],fun X' Oe He is O'=>?_⟩) (by simp;omega)) ?_) CV.nd)
   ·obtain⟨cl,s',H',fp,rfl⟩:=is
    exact⟨AL 0 bT (by decide),DL (ev 0) (ev 1)⟩
   ·refine⟨es++(iA (0+(i:Int)).toNat).map fun(j:Nat)=> (0+(j:Int),0+(i:Int)),some (.int (0+(i:Int))),?_,rfl,fun z hz=>?_,by simp;omega⟩
    ·unfold Em
     rw[iU,i7];rfl
    ·rcases iO.mp hz with hz|hz
     ·exact he z hz
     ·obtain⟨j,hj,rfl⟩:=ig.mp hz
      have:=iM.mp hj
      show 0≤0+(j:Int)∧0+(j:Int)<0+(i:Int)∧0+(i:Int)<n
      omega
  ·rintro _ _ ⟨es,v5,rfl,rfl,he,hz⟩
   rw[BD] at hz
   have hz:es.length≤256:=by omega
   have n16:n≤16:=by omega
   exact t4 hr xf Tx G po2 w0 n0 n16 he hz q' (fun n2 ps O' a b c=>q 10 ps O' (by decide) (by omega) a b c) Gt
end
end K06
namespace GrR
local macro_rules | `(tactic| omega) => `(tactic| first | lia | omega)
variable{R R':Int→Int→Prop}{L M r:List Int}{a b p u v x y:Int}{i j k d s:Nat}{nb nb':Int→List Int}{n:Int}{σ τ:Int→Int}
theorem Vs(h:Ch R L)(e:L.getLast?=some x)(hr:R x a):Ch R (L++[a]):=by
 obtain⟨M,rfl⟩:=j4.mp e
 exact Dz.mpr ⟨h,hr⟩
theorem Vt(h:Ch R (L++M)):Ch R L:=by
 have:=EC (i:=L.length) h
 rwa[List.take_left] at this
theorem FX(h:Ring R (L++M)):Ring R (M++L):=by
 match L,M,h with
 | [],M,h=>rw[jV];exact h
 |L,[],h=>rw[jV] at h;exact h
 |a::L,b::M,h=>
  obtain⟨y,hy⟩:∃y,(b::M).getLast?=some y:=⟨_,oU⟩
  obtain⟨x,hx⟩:∃x,(a::L).getLast?=some x:=⟨_,oU⟩
  have c:=El.mp h.ch
  have hya:R y a:=h.cl a y rfl (by rw[mM,hy];rfl)
  have hxb:R x b:=by
   obtain⟨N,e⟩:=j4.mp hx
   have:=c.1
   rw[e] at this
   exact(Dz.mp this).2
  refine⟨by have:=h.len;simp only[iB,iw] at this ⊢;omega,?_,?_,fun u z hu hz=>?_⟩
  ·have:=jd.mp h.nd
   rw[jd]
   exact⟨this.2.1,this.1,fun x hx y hy e=>this.2.2 y hy x hx e.symm⟩
  ·exact El.mpr ⟨Vs c.2 hy hya,Vt h.ch⟩
  ·have hu:b=u:=by simpa using hu
   rw[mM,hx] at hz
   have hz:x=z:=by simpa using hz
   rw[←hu,←hz]
   exact hxb
theorem MJ(sy:∀u v,R u v→R v u)(h:Ring R L):Ring R L.reverse:=by
 refine⟨by rw[kP];exact h.len,nI.mpr (h.nd.imp Ne.symm),NF sy h.ch,fun a z ha hz=>?_⟩
 rw[List.head?_reverse] at ha
 rw[List.getLast?_reverse] at hz
 exact sy _ _ (h.cl z a hz ha)
theorem ZQ(h:Ch R L):∀{i:Nat} (hi:i+1<L.length),R L[i] L[i+1]:=by
 induction L with
 |nil=>intro i hi;simp at hi
 |cons a L ih=>
  intro i hi
  cases L with
  |nil=>simp at hi
  |cons b L=>
   cases i with
   |zero=>exact h.1
   |succ i=>exact ih h.2 (by simpa using hi)
theorem QN(sy:∀u v,R u v→R v u)(h:Ring R r)(least:∀M,Ring R M→r.length≤M.length)(hk:k<j)(hj:j<r.length):IsD R [r[j]] r[k] (min (j-k) (r.length-j+k)):=by
 have hkl:k<r.length:=by omega
 have e:r=r.take k++r.drop k:=(jq ..).symm
 have hd:r.drop k=r[k]::r.drop (k+1):=(lB ..).symm
 have hr:Ring R (r[k]::(r.drop (k+1)++r.take k)):=by
  have:=FX (L:=r.take k) (M:=r.drop k) (e▸h)
  rwa[hd] at this
 have hl:(r.drop (k+1)++r.take k).length=r.length-1:=by
  rw[iB,jx,iH]
  omega
 have:=Lj sy hr (fun M hM=>by rw[iw,hl];have:=least M hM;omega) (i:=j-k-1) (by rw[hl];omega)
 have hg:(r.drop (k+1)++r.take k)[j-k-1]'(by rw[hl];omega)=r[j]:=by
  rw[List.getElem_append_left (by rw[jx];omega),List.getElem_drop]
  congr 1
  omega
 rw[hg,hl,show j-k-1+1=j-k by omega,show r.length-1- (j-k-1)=r.length-j+k by omega] at this
 exact(OY sy).mp this
theorem TZ{α:Type}{l:List α}{a b:α}(h1:a∈l)(h2:b∈l)(ne:a≠b):2≤l.length:=by
 match l,h1,h2 with
 | [x],h1,h2=>exact absurd ((e9.mp h1).trans (e9.mp h2).symm) ne
 |_::_::_,_,_=>simp
theorem Vu(sy:∀u v,R u v→R v u)(hR:∀u v,v∈nb u↔R u v)(hs:3≤s)(least:∀M,Ring R M→s≤M.length)(h:Ring R r)(hl:r.length=s)(hp:p∈r):2≤(Cf R nb s p).length:=by
 obtain⟨A,B,rfl⟩:=List.append_of_mem hp
 have h1:=FX h
 rw[mV] at h1
 have l1:(p::(B++A)).length=s:=by rw[←hl];simp only[iw,iB];omega
 generalize B++A=C at h1 l1
 have h2:Ring R (p::C.reverse):=by
  have:=MJ sy h1
  rw[jI] at this
  exact FX this
 refine TZ ((Hr sy hR hs least).mpr ⟨h1,l1,rfl⟩) ((Hr sy hR hs least).mpr ⟨h2,by rw[iw,kP,←l1,iw],rfl⟩) fun e=>?_
 have e:C=C.reverse:=(List.cons.inj e).2
 have n1:=(iT.mp h1.nd).2
 have hc:2≤C.length:=by simp only[iw] at l1;omega
 have g1:C[0]'(by omega)=C[C.length-1]'(by omega):=by
  have:=List.getElem_of_eq e (show 0<C.length by omega)
  rw[List.getElem_reverse] at this
  simpa using this
 exact jn.mp (iF.mp n1) 0 (C.length-1) (by omega) (by omega) (by omega) g1
theorem Vv{f:Nat→Nat}{l:List Int}(nd:l.Nodup):∀{N:Nat},(∀z∈l,0≤z∧z<N)→(∀z∈l,2≤f z.toNat)→2*l.length≤((iA N).map f).sum:=by
 intro N
 induction N generalizing l with
 |zero=>
  intro h _
  cases l with
  |nil=>simp
  |cons z l=>have:=h z (by simp);omega
 |succ N ih=>
  intro h hf
  rw[qi,iU,List.sum_append]
  have key:=ih (l:=l.filter fun z=>decide (z≠(N:Int))) (nd.filter _) (fun z hz=>by
   have h1:=iX.mp hz
   have:=h z h1.1
   have:=of_decide_eq_true h1.2
   omega) fun z hz=>hf z (iX.mp hz).1
  by_cases c:(N:Int)∈l
  ·have:=VU nd c
   have h2:=hf _ c
   rw[iS] at h2
   show _≤_+(f N+0)
   omega
  ·rw[List.filter_eq_self.mpr (show∀z∈l,decide (z≠(N:Int))=true from fun z hz=>decide_eq_true fun e=>c (by rw[←e];exact hz))] at key
   show _≤_+(f N+0)
   omega
theorem Ta{m:Nat}:(GQ R nb s m).length=((iA m).map fun(i:Nat)=> (Cf R nb s (i:Int)).length).sum:=by
 unfold GQ
 rw[List.length_flatMap]
theorem Vw(sy:∀u v,R u v→R v u)(hR:∀u v,v∈nb u↔R u v)(hb:∀u v,R u v→0≤v∧v<n)(n0:0≤n)(hs:3≤s)(least:∀M,Ring R M→s≤M.length)(h:Ring R r)(hl:r.length=s):2*s≤(GQ R nb s n.toNat).length:=by
 rw[Ta,←hl]
 refine Vv h.nd (fun z hz=>?_) fun z hz=>?_
 ·have:=BQ hb h z hz
  omega
 ·have:=BQ hb h z hz
  rw[kR this.1]
  rw[hl]
  exact Vu sy hR hs least h hl hz
theorem Ou(hs:∀u,(nb u).Pairwise (· < ·))(hb:∀u v,v∈nb u→0≤v∧v<32){m:Nat}:(GQ R nb s m).Nodup:=iF.mpr ((Lk (R:=R) (s:=s) hs hb (m:=m)).imp fun{x y} h e=>by subst e;omega)
theorem NY(sy:∀u v,R u v→R v u)(sy':∀u v,R' u v→R' v u)(hR:∀u v,v∈nb u↔R u v)(hR':∀u v,v∈nb' u↔R' u v)(hb:∀u v,R u v→0≤v∧v<n)(hb':∀u v,R' u v→0≤v∧v<n)(hn:n≤32)(ps:∀u,(nb u).Pairwise (· < ·))(ps':∀u,(nb' u).Pairwise (· < ·))(hs:3≤s)(least:∀M,Ring R M→s≤M.length)(least':∀M,Ring R' M→s≤M.length)
  (hσ:∀u v,R u v→R' (σ u) (σ v)) (hτ:∀u v,R' u v→R (τ u) (τ v)) (st:∀u,0≤u→u<n→σ (τ u)=u) (ts:∀u,0≤u→u<n→τ (σ u)=u):(GQ R nb s n.toNat).length=(GQ R' nb' s n.toNat).length:=by
 have mem:=fun r=>Hs (r:=r) sy hR hb hs least
 have mem':=fun r=>Hs (r:=r) sy' hR' hb' hs least'
 rw[←c9 (f:=List.map σ)]
 have injS:∀{L:List Int},Ring R L→∀u∈L,∀v∈L,σ u=σ v→u=v:=fun{L} h u hu v hv e=>by
  have a:=BQ hb h u hu
  have b:=BQ hb h v hv
  rw[←ts u a.1 a.2,←ts v b.1 b.2,e]
 have injT:∀{L:List Int},Ring R' L→∀u∈L,∀v∈L,τ u=τ v→u=v:=fun{L} h u hu v hv e=>by
  have a:=BQ hb' h u hu
  have b:=BQ hb' h v hv
  rw[←st u a.1 a.2,←st v b.1 b.2,e]
 have back:∀{L:List Int},Ring R L→(L.map σ).map τ=L:=fun{L} h=>by
  rw[i7]
  have:L.map (τ∘σ)=L.map id:=l8 fun u hu=>by
   have a:=BQ hb h u hu
   exact ts u a.1 a.2
  rw[this,qA]
 have fore:∀{L:List Int},Ring R' L→(L.map τ).map σ=L:=fun{L} h=>by
  rw[i7]
  have:L.map (σ∘τ)=L.map id:=l8 fun u hu=>by
   have a:=BQ hb' h u hu
   exact st u a.1 a.2
  rw[this,qA]
 refine((mL ?_ (Ou ps' fun u v h=>by have:=hb' u v ((hR' u v).mp h);omega)).mpr fun r=>?_).length_eq
 ·rw[iF,jc]
  refine(iF.mp (Ou (R:=R) (s:=s) (m:=n.toNat) ps fun u v h=>by have:=hb u v ((hR u v).mp h);omega)).imp_of_mem fun{x y} hx hy ne e=>ne ?_
  rw[←back ((mem x).mp hx).1,←back ((mem y).mp hy).1,e]
 ·rw[ig,mem']
  constructor
  ·rintro⟨q,hq,rfl⟩
   have h:=(mem q).mp hq
   exact⟨Ht hσ (injS h.1) h.1,by rw[c9];exact h.2⟩
  ·rintro⟨h1,h2⟩
   exact⟨r.map τ,(mem _).mpr ⟨Ht hτ (injT h1) h1,by rw[c9];exact h2⟩,fore h1⟩
end GrR
namespace K06
local macro_rules | `(tactic| omega) => `(tactic| first | lia | omega)
open PySem L2 L2.TL PySem.Spec PyProof.Rows
variable{n:Int}{ps qs:List (Int×Int)}{ns:List Int}
theorem ZR(hw:Gr.GH n ps):∀u,¬Gr.Adj ps u u:=fun u h=> (h.inb hw).2.2 rfl
theorem NZ:∀{xs ys:List (Int×Int)},xs.Pairwise Eg→ys.Pairwise Eg→(∀v,v∈xs↔v∈ys)→xs=ys
 | [],[],_,_,_=>rfl
 | [],y::ys,_,_,h=>by have:=(h y).mpr (by simp);cases this
 |x::xs,[],_,_,h=>by have:=(h x).mp (by simp);cases this
 |x::xs,y::ys,h1,h2,h=>by
  have a:=mx.mp h1
  have b:=mx.mp h2
  have irr:∀{p q:Int×Int},Eg p q→Eg q p→False:=fun{p q} h1 h2=>by unfold Eg at h1 h2;omega
  have e:x=y:=by
   rcases ic.mp ((h x).mp (by simp)) with e|hx
   ·exact e
   ·rcases ic.mp ((h y).mpr (by simp)) with e|hy
    ·exact e.symm
    ·exact(irr (a.1 y hy) (b.1 x hx)).elim
  subst e
  rw[NZ a.2 b.2 fun v=>?_]
  constructor
  ·intro hv
   rcases ic.mp ((h v).mp (by simp[hv])) with e|hv'
   ·subst e;exact(irr (a.1 v hv) (a.1 v hv)).elim
   ·exact hv'
  ·intro hv
   rcases ic.mp ((h v).mpr (by simp[hv])) with e|hv'
   ·subst e;exact(irr (b.1 v hv) (b.1 v hv)).elim
   ·exact hv'
def Vx(m:Nat):List (Int×Int):=(iA m).flatMap fun(a:Nat)=> ((iA m).filter fun b=>decide (a<b)).map fun(b:Nat)=> ((a:Int),(b:Int))
theorem Vy{m:Nat}:(Vx m).Pairwise Eg:=by
 unfold Vx
 rw[nJ]
 constructor
 ·intro a _
  rw[jc]
  exact(og _ jP).imp fun{x y} h=> .inr ⟨rfl,by show(x:Int)<y;omega⟩
 ·refine jP.imp fun{a b} h x hx y hy=>?_
  obtain⟨u,_,rfl⟩:=ig.mp hx
  obtain⟨v,_,rfl⟩:=ig.mp hy
  exact .inl (by show(a:Int)<b;omega)
theorem Tc{m:Nat}{q:Int×Int}(h:AU (m:Int) q):q∈Vx m:=by
 unfold AU at h
 exact kJ.mpr ⟨q.1.toNat,iM.mpr (by omega),ig.mpr ⟨q.2.toNat,iX.mpr ⟨iM.mpr (by omega),decide_eq_true (by omega)⟩,kb (by show((q.1.toNat:Nat):Int)=q.1;omega) (by show((q.2.toNat:Nat):Int)=q.2;omega)⟩⟩
theorem cG{N:Nat}(n0:1≤N)(n1:N≤16)(h1:ps.Pairwise Eg)(h2:∀q∈ps,AU (N:Int) q):WebR (N:Int) ps:=by
 have hl:ps.length≤200:=by
  have e:=NZ h1 (og (fun q=>decide (q∈ps)) (Vy (m:=N))) fun q=>by
   rw[iX,decide_eq_true_eq]
   exact⟨fun h=> ⟨Tc (h2 q h),h⟩,fun h=>h.2⟩
  have key:∀m,m≤16→(Vx m).length≤200:=by decide+kernel
  rw[e]
  exact jv (nK ..) (key N n1)
 exact⟨⟨by omega,by omega,h2,hl⟩,h1,by omega,by omega⟩
theorem Td(n0:1≤n)(n1:n≤16)(h1:ps.Pairwise Eg)(h2:∀q∈ps,AU n q):WebR n ps:=by
 obtain⟨N,rfl⟩:=iE (show 0≤n by omega)
 exact cG (by omega) (by omega) h1 h2
theorem Ov{i:Nat}(h:i<ns.length):Cv ns (i:Int)=ns[i]:=by
 unfold Cv
 rw[iS,iD,b6 h]
 rfl
structure Nm(n:Int)(ps qs:List (Int×Int))(σ τ:Int→Int):Prop where
 wr:WebR n ps
 wq:WebR n qs
 hσ:∀u v,Gr.Adj ps u v→Gr.Adj qs (σ u) (σ v)
 hτ:∀u v,Gr.Adj qs u v→Gr.Adj ps (τ u) (τ v)
 st:∀u,0≤u→u<n→σ (τ u)=u∧0≤τ u∧τ u<n
 ts:∀u,0≤u→u<n→τ (σ u)=u∧0≤σ u∧σ u<n
theorem Te(wr:WebR n ps)(n1:n≤16)(pm:ns.Perm (rg n))(q1:qs.Pairwise Eg)(q2:∀q,q∈qs↔q∈ps.map (nm ns)):Nm n ps qs (Cv ns) (fun v=> ((ns.idxOf v:Nat):Int)):=by
 have n0:=wr.n0
 have hl:ns.length=n.toNat:=by rw[pm.length_eq,NX]
 have nd:ns.Nodup:=pm.nodup_iff.mpr (by
  rw[iF]
  unfold rg
  rw[jc]
  exact jP.imp fun h=>by omega)
 have hin:∀z∈ns,0≤z∧z<n:=fun z hz=>NW (pm.mem_iff.mp hz)
 have ts:∀u:Int,0≤u→u<n→((ns.idxOf (Cv ns u):Nat):Int)=u∧0≤Cv ns u∧Cv ns u<n:=fun u u0 u1=>by
  obtain⟨i,rfl⟩:=iE u0
  have hi:i<ns.length:=by omega
  rw[Ov hi]
  refine⟨?_,hin _ (jg hi)⟩
  rw[nd.idxOf_getElem i hi]
 have st:∀u:Int,0≤u→u<n→Cv ns ((ns.idxOf u:Nat):Int)=u∧0≤((ns.idxOf u:Nat):Int)∧((ns.idxOf u:Nat):Int)<n:=fun u u0 u1=>by
  have hm:u∈ns:=pm.mem_iff.mpr (by
   unfold rg
   exact ig.mpr ⟨u.toNat,iM.mpr (by omega),by omega⟩)
  have hi:=List.idxOf_lt_length_iff.mpr hm
  refine⟨?_,by omega,by omega⟩
  rw[Ov hi,List.getElem_idxOf]
 have hP:∀q∈qs,AU n q:=fun q hq=>by
  obtain⟨p,hp,rfl⟩:=ig.mp ((q2 q).mp hq)
  have h:=wr.wn.hw p hp
  have a:=ts p.1 (by omega) (by omega)
  have b:=ts p.2 (by omega) (by omega)
  have ne:Cv ns p.1≠Cv ns p.2:=fun e=>by
   have:=a.1.symm.trans ((congrArg (fun z=> ((ns.idxOf z:Nat):Int)) e).trans b.1)
   omega
  unfold nm AU
  simp only
  omega
 have wq:=Td n0 n1 q1 hP
 refine⟨wr,wq,(fun u v h=>?_),(fun u v h=>?_),st,ts⟩
 ·have key:∀u v,(u,v)∈ps→Gr.Adj qs (Cv ns u) (Cv ns v):=fun u v h=>by
   have:=(q2 _).mpr (ig.mpr ⟨_,h,rfl⟩)
   unfold nm at this
   simp only at this
   rcases mX (Cv ns u) (Cv ns v) with c|c
   ·rw[ot c,pT c] at this
    exact .inl this
   ·rw[nT c,ql c] at this
    exact .inr this
  rcases h with h|h
  ·exact key u v h
  ·exact(key v u h).symm
 ·have key:∀u v,(u,v)∈qs→Gr.Adj ps ((ns.idxOf u:Nat):Int) ((ns.idxOf v:Nat):Int):=fun u v h=>by
   obtain⟨p,hp,e⟩:=ig.mp ((q2 _).mp h)
   have hw:=wr.wn.hw p hp
   have a:=ts p.1 (by omega) (by omega)
   have b:=ts p.2 (by omega) (by omega)
   unfold nm at e
   have e1:=congrArg kI e
   have e2:=congrArg Prod.snd e
   simp only at e1 e2
   rcases mX (Cv ns p.1) (Cv ns p.2) with c|c
   ·rw[ot c] at e1
    rw[pT c] at e2
    rw[←e1,←e2,a.1,b.1]
    exact .inl hp
   ·rw[nT c] at e1
    rw[ql c] at e2
    rw[←e1,←e2,a.1,b.1]
    exact .inr hp
  rcases h with h|h
  ·exact key u v h
  ·exact(key v u h).symm
theorem Tf{qs:List (Int×Int)}(hw:Gr.GH n ps)(hw':Gr.GH n qs){σ:Int→Int}(h:∀u v,Gr.Adj ps u v→Gr.Adj qs (σ u) (σ v))(inj:∀u v,0≤u→u<n→0≤v→v<n→σ u=σ v→u=v){m:Int}(hm:GK ps=some m):∃m',GK qs=some m'∧m'≤m:=by
 obtain⟨r,rr,rl⟩:=TB hw hm
 have hi:=GrR.BQ (Bx hw) rr
 obtain⟨m',e,l⟩:=Oj hw' (GrR.Ht h (fun u hu v hv=>inj u v (hi u hu).1 (hi u hu).2 (hi v hv).1 (hi v hv).2) rr)
 rw[c9,rl] at l
 exact⟨m',e,l⟩
theorem Nm.back{σ τ:Int→Int}(m:Nm n ps qs σ τ):Nm n qs ps τ σ:=⟨m.wq,m.wr,m.hτ,m.hσ,m.ts,m.st⟩
theorem Nm.inj{σ τ:Int→Int}(m:Nm n ps qs σ τ):∀u v,0≤u→u<n→0≤v→v<n→σ u=σ v→u=v:=fun u v u0 u1 v0 v1 e=>by
 rw[←(m.ts u u0 u1).1,←(m.ts v v0 v1).1,e]
theorem Nm.sh{σ τ:Int→Int}(m:Nm n ps qs σ τ):GK qs=GK ps:=by
 cases e1:GK ps with
 |none=>
  cases e2:GK qs with
  |none=>rfl
  |some k=>
   obtain⟨m',h,_⟩:=Tf m.wq.wn.hw m.wr.wn.hw m.hτ m.back.inj e2
   rw[e1] at h
   cases h
 |some k=>
  obtain⟨m',h,l⟩:=Tf m.wr.wn.hw m.wq.wn.hw m.hσ m.inj e1
  obtain⟨m2,h2,l2⟩:=Tf m.wq.wn.hw m.wr.wn.hw m.hτ m.back.inj h
  rw[e1] at h2
  cases h2
  rw[h]
  exact congrArg some (by omega)
theorem Nm.near{σ τ:Int→Int}(m:Nm n ps qs σ τ){u:Int}(u0:0≤u)(u1:u<n):((AR ps u).map σ).Nodup∧∀v,v∈AR qs (σ u)↔v∈(AR ps u).map σ:=by
 refine⟨?_,fun v=>?_⟩
 ·have hi:∀v∈AR ps u,0≤v∧v<n:=fun v hv=>Bx m.wr.wn.hw _ v ((Be _ v).mp hv)
  rw[iF,jc]
  exact(iF.mp (Oi m.wr.wn.hw m.wr.hp u)).imp_of_mem fun{x y} hx hy ne e=>ne (m.inj x y (hi x hx).1 (hi x hx).2 (hi y hy).1 (hi y hy).2 e)
 ·rw[Be,ig]
  constructor
  ·intro a
   have b:=Bx m.wq.wn.hw _ _ a
   have:=m.hτ _ _ a
   rw[(m.ts u u0 u1).1] at this
   exact⟨_,(Be _ _).mpr this,(m.st v b.1 b.2).1⟩
  ·rintro⟨x,hx,rfl⟩
   exact m.hσ _ _ ((Be _ _).mp hx)
theorem Nm.deg{σ τ:Int→Int}(m:Nm n ps qs σ τ){u:Int}(u0:0≤u)(u1:u<n):(AR qs (σ u)).length=(AR ps u).length:=by
 rw[←c9 (f:=σ) (as:=AR ps u)]
 exact GrR.Ln (Oi m.wq.wn.hw m.wq.hp _) (m.near u0 u1).1 (m.near u0 u1).2
theorem Ow(wr:WebR n ps){d:Int}:IX (Ac n ps)=.int d↔∀u:Int,0≤u→u<n→((AR ps u).length:Int)=d:=by
 have n0:=wr.n0
 have ml:∀c,c∈Ac n ps↔∃u:Int,0≤u∧u<n∧c=((AR ps u).length:Int):=fun c=>by
  unfold Ac
  rw[ig]
  constructor
  ·rintro⟨i,hi,rfl⟩
   have:=iM.mp hi
   exact⟨i,by omega,by omega,by rw[BR wr.wn.hw]⟩
  ·rintro⟨u,u0,u1,rfl⟩
   obtain⟨i,rfl⟩:=iE u0
   exact⟨i,iM.mpr (by omega),by rw[BR wr.wn.hw]⟩
 have hh:(Ac n ps).headD 0∈Ac n ps:=by
  cases z:Ac n ps with
  |nil=>
   have:=congrArg List.length z
   unfold Ac at this
   rw[c9,jQ] at this
   have:n.toNat=0:=this
   omega
  |cons x xs=>simp
 unfold IX
 by_cases c:(Ac n ps).all (fun c=>decide (c=(Ac n ps).headD 0))=true
 ·rw[if_pos c]
  rw[jM] at c
  constructor
  ·intro e u u0 u1
   cases e
   exact of_decide_eq_true (c _ ((ml _).mpr ⟨u,u0,u1,rfl⟩))
  ·intro h
   obtain⟨u,u0,u1,e⟩:=(ml _).mp hh
   rw[e,h u u0 u1]
 ·rw[if_neg c]
  refine⟨(fun h=>by cases h),fun h=> (c ?_).elim⟩
  have all:∀c∈Ac n ps,c=d:=fun c hc=>by
   obtain⟨u,u0,u1,rfl⟩:=(ml c).mp hc
   exact h u u0 u1
  rw[jM]
  intro x hx
  rw[all x hx,all _ hh]
  simp
theorem ES(cs:List Int):(∃d,IX cs=.int d)∨IX cs=.non:=by
 unfold IX
 split
 ·exact .inl ⟨_,rfl⟩
 ·exact .inr rfl
theorem Nm.ev{σ τ:Int→Int}(m:Nm n ps qs σ τ):IX (Ac n qs)=IX (Ac n ps):=by
 have key:∀d,IX (Ac n qs)=.int d↔IX (Ac n ps)=.int d:=fun d=>by
  rw[Ow m.wq,Ow m.wr]
  constructor
  ·intro h u u0 u1
   have:=h (σ u) (m.ts u u0 u1).2.1 (m.ts u u0 u1).2.2
   rw[m.deg u0 u1] at this
   exact this
  ·intro h u u0 u1
   have:=h (τ u) (m.st u u0 u1).2.1 (m.st u u0 u1).2.2
   rw[←m.deg (m.st u u0 u1).2.1 (m.st u u0 u1).2.2,(m.st u u0 u1).1] at this
   exact this
 rcases ES (Ac n ps) with⟨d,e⟩|e
 ·rw[e]
  exact(key d).mpr e
 ·rw[e]
  rcases ES (Ac n qs) with⟨d,e2⟩|e2
  ·rw[(key d).mp e2] at e
   cases e
  ·exact e2
theorem Nm.many{σ τ:Int→Int}(m:Nm n ps qs σ τ)(hn:n≤32):IY n qs=IY n ps:=by
 unfold IY
 rw[m.sh]
 cases e:GK ps with
 |none=>rfl
 |some k=>
  obtain⟨s,rfl,s3,_,least,_⟩:=EO m.wr.wn.hw e
  obtain⟨s',e',_,_,least',_⟩:=EO m.wq.wn.hw (m.sh.trans e)
  have:s'=s:=by omega
  subst this
  have:=GrR.NY Dk Dk Be Be (Bx m.wr.wn.hw) (Bx m.wq.wn.hw) hn (EN m.wr.wn.hw m.wr.hp) (EN m.wq.wn.hw m.wq.hp) s3 least least' m.hσ m.hτ (fun u u0 u1=> (m.st u u0 u1).1) (fun u u0 u1=> (m.ts u u0 u1).1)
  show((GU n qs (s':Int)).length:Int)/_=((GU n ps (s':Int)).length:Int)/_
  unfold GU
  rw[iS,this]
end K06
namespace K06
local macro_rules | `(tactic| omega) => `(tactic| first | lia | omega)
open PySem L2 L2.TL PySem.Spec PyProof.Rows
variable{n:Int}{ps qs:List (Int×Int)}{σ τ:Int→Int}{r:List Int}{k:Nat}
theorem Vz(hw:Gr.GH n ps){i j:Int}(h:Gr.Adj ps i j):bj ps i j=true:=by
 unfold bj mm
 rw[decide_eq_true_eq]
 rcases h with h|h
 ·have:=hw _ h
  rw[show(min i j,max i j)=(i,j) from kb (by show min i j=i;simp only at this;omega) (by show max i j=j;simp only at this;omega)]
  exact h
 ·have:=hw _ h
  rw[show(min i j,max i j)=(j,i) from kb (by show min i j=j;simp only at this;omega) (by show max i j=i;simp only at this;omega)]
  exact h
theorem Tg(h:GK ps=none):NS n ps=none∧IY n ps=0:=by
 unfold NS IY
 rw[h]
 exact⟨rfl,rfl⟩
theorem Th(wr:WebR n ps)(h:GK ps=some (k:Int)):∃r,NS n ps=some r∧GrR.Ring (Gr.Adj ps) r∧r.length=k∧(∀M,GrR.Ring (Gr.Adj ps) M→r.length≤M.length)∧0<IY n ps:=by
 obtain⟨s,e,s3,_,least,q,hq,lq⟩:=EO wr.wn.hw h
 have:s=k:=by omega
 subst this
 have ge:=GrR.Vw Dk Be (Bx wr.wn.hw) (by have:=wr.n0;omega) s3 least hq lq
 have mem:=fun r=>GrR.Hs (r:=r) Dk Be (Bx wr.wn.hw) s3 least
 cases z:GrR.GQ (Gr.Adj ps) (AR ps) s n.toNat with
 |nil=>rw[z] at ge;simp at ge;omega
 |cons r L=>
  have hr:=(mem r).mp (by rw[z];simp)
  refine⟨r,?_,hr.1,hr.2,fun M hM=>by rw[hr.2];exact least M hM,?_⟩
  ·unfold NS GU
   rw[h]
   show(GrR.GQ (Gr.Adj ps) (AR ps) ((s:Int)).toNat n.toNat).head?=some r
   rw[iS,z]
   rfl
  ·unfold IY GU
   rw[h]
   show 0< ((GrR.GQ (Gr.Adj ps) (AR ps) ((s:Int)).toNat n.toNat).length:Int)/ (2*(s:Int))
   rw[iS]
   exact Int.lt_iff_add_one_le.mpr ((Int.le_ediv_iff_mul_le (by omega)).mpr (by omega))
def QO(n:Int)(ps:List (Int×Int))(i:Int):List (Option Nat):=(iA n.toNat).map fun(j:Nat)=>GrR.IT (Gr.Adj ps) [i] (j:Int)
theorem FY(n0:0≤n)(i:Int):Gr.All n ps [i] (QO n ps i):=by
 refine⟨by unfold QO;rw[c9,jQ];omega,fun v v0 v1 d=>?_⟩
 unfold QO
 rw[e7,kQ (by omega),GrR.ND,←GrR.Dy]
 show some (GrR.IT (Gr.Adj ps) [i] ((v.toNat:Nat):Int))=some (some d)↔_
 rw[kR v0]
 exact⟨i8.inj,congrArg some⟩
def cH(n:Int)(ps:List (Int×Int)):List (List (Option Nat)):=(iA n.toNat).map fun(i:Nat)=>QO n ps (i:Int)
theorem ZS(n0:0≤n):FarL n ps (cH n ps):=⟨by unfold cH;rw[c9,jQ];omega,fun i fs e=>by
 unfold cH at e
 rw[e7] at e
 cases z:(iA n.toNat)[i]? with
 |none=>rw[z] at e;cases e
 |some j=>
  rw[z] at e
  have:=(ie.mp z).2
  rw[List.getElem_range] at this
  subst this
  cases e
  exact FY n0 _⟩
def IJ(n:Int)(ps:List (Int×Int)):List (List Int):=BA (cH n ps)
def IZ(n:Int)(ps:List (Int×Int))(i:Int):List Int:=Ao (QO n ps i)
theorem Bo(n0:0≤n){i v:Int}:v∈IZ n ps i↔0≤v∧v<n∧Gr.Rc ps i v:=by
 have key:∀v:Nat,(v:Int)∈IZ n ps i↔(v:Int)<n∧Gr.Rc ps i v:=fun v=>by
  by_cases c:(v:Int)<n
  ·rw[show((v:Int)∈IZ n ps i)↔Gr.Rc ps i v from DP (FY n0 i) c]
   exact⟨fun h=> ⟨c,h⟩,fun h=>h.2⟩
  ·refine⟨fun h=>?_,fun h=>absurd h.1 c⟩
   obtain⟨d,e⟩:=JP.mp h
   have:=(ie.mp e).1
   have hl:=(FY (ps:=ps) n0 i).len
   omega
 by_cases c:0≤v
 ·obtain⟨j,rfl⟩:=iE c
  rw[key j]
  exact⟨fun h=> ⟨c,h⟩,fun h=>h.2⟩
 ·refine⟨fun h=>?_,fun h=>absurd h.1 c⟩
  unfold IZ Ao at h
  obtain⟨j,_,e⟩:=ig.mp h
  omega
theorem Bp{X:List Int}(n0:0≤n):X∈IJ n ps↔∃i:Int,0≤i∧i<n∧X=IZ n ps i:=by
 unfold IJ BA
 rw[Fy]
 constructor
 ·rintro(h| ⟨fs,hf,rfl⟩)
  ·cases h
  ·obtain⟨i,hi,rfl⟩:=ig.mp hf
   have:=iM.mp hi
   exact⟨i,by omega,by omega,rfl⟩
 ·rintro⟨i,i0,i1,rfl⟩
  refine .inr ⟨QO n ps i,ig.mpr ⟨i.toNat,iM.mpr (by omega),by rw[kR i0]⟩,rfl⟩
theorem MK:∀{L:List (List (Option Nat))} {acc:List (List Int)},acc.Nodup→(L.foldl (fun acc fs=>Lw acc (Ao fs)) acc).Nodup
 | [],_,h=>h
 |fs::L,acc,h=>by
  refine MK (L:=L) ?_
  show(if Ao fs∈acc then acc else acc++[Ao fs]).Nodup
  split
  ·exact h
  ·rename_i c
   rw[jd]
   exact⟨h,by simp,fun x hx y hy e=>c (by rw[←e9.mp hy,←e];exact hx)⟩
theorem Na:(IJ n ps).Nodup:=MK (by simp)
theorem Nb(n0:0≤n){i j:Int}(h:Gr.Rc ps i j):IZ n ps i=IZ n ps j:=MH (FY n0 i) (FY n0 j) h
theorem Ti{i:Int}:(IZ n ps i).Pairwise (· < ·):=by
 unfold IZ Ao
 rw[jc]
 exact(og _ jP).imp fun{a b} h=>by omega
theorem WB(n0:0≤n){i:Int}:(IZ n ps i).length≤n.toNat:=Gr.Ek (iF.mpr (Ti.imp fun h=>by omega)) fun z hz=>by
 have:=(Bo n0).mp hz
 exact⟨this.1,this.2.1⟩
theorem Tj(n0:0≤n):((IJ n ps).flatMap id).Nodup∧∀v,v∈(IJ n ps).flatMap id↔0≤v∧v<n:=by
 constructor
 ·have key:∀{L:List (List Int)},L.Nodup→(∀X∈L,X∈IJ n ps)→(L.flatMap id).Nodup:=by
   intro L
   induction L with
   |nil=>intro _ _;simp
   |cons X L ih=>
    intro nd h
    rw[iT] at nd
    rw[ph,jd]
    obtain⟨i,i0,i1,eX⟩:=(Bp n0).mp (h X (by simp))
    refine⟨by show X.Nodup;rw[eX];exact iF.mpr (Ti.imp fun h=>by omega),ih nd.2 fun Y hY=>h Y (by simp[hY]),fun v hv w hw e=>?_⟩
    subst e
    obtain⟨Y,hY,hv2⟩:=kJ.mp hw
    obtain⟨j,j0,j1,eY⟩:=(Bp n0).mp (h Y (by simp[hY]))
    have hv:v∈X:=hv
    have hv2:v∈Y:=hv2
    rw[eX] at hv
    rw[eY] at hv2
    have:X=Y:=by rw[eX,eY];exact Nb n0 (((Bo n0).mp hv).2.2.trans ((Bo n0).mp hv2).2.2.symm)
    subst this
    exact nd.1 hY
  exact key Na fun X h=>h
 ·intro v
  rw[kJ]
  constructor
  ·rintro⟨X,hX,hv⟩
   obtain⟨i,_,_,e⟩:=(Bp n0).mp hX
   have hv:v∈X:=hv
   rw[e] at hv
   have:=(Bo n0).mp hv
   exact⟨this.1,this.2.1⟩
  ·rintro⟨v0,v1⟩
   exact⟨IZ n ps v,(Bp n0).mpr ⟨v,v0,v1,rfl⟩,(Bo n0).mpr ⟨v0,v1,.refl⟩⟩
theorem Tn{u v:Int}(h:∀u v,Gr.Adj ps u v→Gr.Adj qs (σ u) (σ v))(r:Gr.Rc ps u v):Gr.Rc qs (σ u) (σ v):=by
 obtain⟨k,w⟩:=r
 induction w with
 |«at» hm=>rw[e9.mp hm];exact .refl
 |go _ a ih=>
  obtain⟨k,w⟩:=ih
  exact⟨k+1,.go w (h _ _ a)⟩
theorem Nm.pieces(m:Nm n ps qs σ τ):(IJ n qs).length=(IJ n ps).length:=by
 have n0:0≤n:=by have:=m.wr.n0;omega
 have hd:∀{i:Int},0≤i→i<n→Gr.Rc ps i ((IZ n ps i).headD 0):=fun{i} i0 i1=>by
  have hm:i∈IZ n ps i:=(Bo n0).mpr ⟨i0,i1,.refl⟩
  cases z:IZ n ps i with
  |nil=>rw[z] at hm;cases hm
  |cons x L=>
   have:x∈IZ n ps i:=by rw[z];simp
   exact((Bo n0).mp this).2.2
 have im:∀{i:Int},0≤i→i<n→IZ n qs (σ ((IZ n ps i).headD 0))=IZ n qs (σ i):=fun{i} i0 i1=> (Nb n0 (Tn m.hσ (hd i0 i1))).symm
 rw[←c9 (f:=fun X:List Int=>IZ n qs (σ (X.headD 0))) (as:=IJ n ps)]
 refine((mL Na ?_).mpr fun X=>?_).length_eq
 ·rw[iF,jc]
  refine(iF.mp (Na (n:=n) (ps:=ps))).imp_of_mem fun{X Y} hX hY ne e=>ne ?_
  obtain⟨i,i0,i1,rfl⟩:=(Bp n0).mp hX
  obtain⟨j,j0,j1,rfl⟩:=(Bp n0).mp hY
  rw[im i0 i1,im j0 j1] at e
  have a:=m.ts i i0 i1
  have b:=m.ts j j0 j1
  have hm:σ j∈IZ n qs (σ i):=by rw[e];exact(Bo n0).mpr ⟨b.2.1,b.2.2,.refl⟩
  have:=Tn m.hτ ((Bo n0).mp hm).2.2
  rw[a.1,b.1] at this
  exact Nb n0 this
 ·rw[Bp n0,ig]
  constructor
  ·rintro⟨i,i0,i1,rfl⟩
   have a:=m.st i i0 i1
   exact⟨IZ n ps (τ i),(Bp n0).mpr ⟨τ i,a.2.1,a.2.2,rfl⟩,by rw[im a.2.1 a.2.2,a.1]⟩
  ·rintro⟨Y,hY,rfl⟩
   obtain⟨i,i0,i1,rfl⟩:=(Bp n0).mp hY
   have a:=m.ts i i0 i1
   exact⟨σ i,a.2.1,a.2.2,im i0 i1⟩
end K06
namespace K06
open PySem L2 L2.TL PySem.Spec PyProof.Rows Gr
section
variable{P:Program}{w:World}{K:a8}{mg:Str→Option Value}{base:Heap}{CN:Addr}
theorem To{cs:List Int}:CO (IX cs)=true:=by
 unfold IX
 split
 ·rw[CO]
 ·rw[CO]
theorem JQ{cs:List Int}:(dT (IX cs)).depth≤100:=by
 unfold IX
 split
 ·simp[dT,jz.depth]
 ·simp[dT,jz.depth]
def ZT(cs:List Int)(i:Int):Bool:=kh (dT (IX cs)) (dT (.int i))
theorem Tp:FnScope ["web","number"] ["web","number"] (AA Gd):=by ac_rfl
end
end K06
namespace L2
open PySem PySem.Spec PyProof.Rows
section
variable{X:Cx}{e:Expr}{te:TE}{p2 p3 p4 pos:Pos}
theorem Tq(items:Array Value):qH items none none (some (-1))=items.toList.reverse.toArray:=by
 have e2:mH none none (some (-1)) items.size=((items.size:Int)-1,-1,-1):=by rfl
 unfold qH
 rw[e2]
 dsimp only
 congr 1
 have e1:sliceRange ((items.size:Int)-1) (-1) (-1)=(iA items.size).map fun(k:Nat)=> (((items.size:Int)-1)+(-1)*(k:Int)).toNat:=by
  unfold sliceRange
  have:(if(-1:Int)>0 then if((items.size:Int)-1)< -1 then((-1)- ((items.size:Int)-1)+(-1)-1)/ (-1) else 0 else if((items.size:Int)-1)> -1 then(((items.size:Int)-1)- (-1)- (-1)-1)/ -(-1) else 0).toNat=items.size:=by
   rw[if_neg (by decide),show-(-1:Int)=1 from rfl,rQ]
   split<;>omega
  dsimp only
  rw[this]
 rw[e1]
 have key:∀n,n≤items.size→((iA n).map fun(k:Nat)=> (((items.size:Int)-1)+(-1)*(k:Int)).toNat).filterMap (fun x=>items[x]?)=(items.toList.drop (items.size-n)).reverse:=by
  intro n
  induction n with
  |zero=>intro _;simp
  |succ n ih=>
   intro hn
   rw[qi,iU,nL,ih (by omega)]
   have hk:(((items.size:Int)-1)+(-1)*(n:Int)).toNat=items.size- (n+1):=by omega
   have hlt:items.size- (n+1)<items.size:=by omega
   have hd:items.toList.drop (items.size- (n+1))=items[items.size- (n+1)]::items.toList.drop (items.size-n):=by
    rw[ku (by simpa using hlt)]
    congr 2
    omega
   rw[hd,jI]
   congr 1
   rw[iN,jU,hk,Array.getElem?_eq_getElem hlt]
   rfl
 rw[key items.size (hC _)]
 simp
theorem ML:∀{xs:List V} {us:List Value},Vals xs us→Vals xs.reverse us.reverse
 |_,_,.nil=> .nil
 |_,_,.cons r rs=>by
  rw[jI,jI]
  exact Vals.append (ML rs) (.cons r .nil)
theorem WC(he:PE X e te):PE X (.Subscript e (.Slice none none (some (.UnaryOp .USub (.Constant (.int 1) 0 p3) p4)) p2) pos) (fun σ H Q=>te σ H fun x H1=>∃a xs,x=.ref a∧Cz X.K H1 a xs∧∀p,H1 p=none→Q (.ref p) (upd H1 p (.lst xs.reverse))):=by
 intro pins s σ H Q I h
 refine rj (Aw (he pins s σ H _ I h) fun v s1 ⟨x,H1,I1,r1,q1⟩=>?_)
 obtain⟨a,xs,rfl,hx,q⟩:=q1
 cases r1
 refine r8 ?_
 rw[pD]
 refine b9 ?_
 refine b9 ?_
 rw[qR]
 refine Aw (QY MQ JV pins s1 σ H1 (fun x H'=>x=.int (-1)∧H'=H1) I1 ⟨1,rfl,rfl,rfl⟩) fun st s2 ⟨x2,H2,I2,r2,ex,eH⟩=>?_
 subst ex eH
 obtain⟨tk,rfl⟩:=r2
 have I4:Inv X pins σ H2 {s2 with heap:=s2.heap.push {cls:=.type "slice",data:=.fields #[.none,.none,.int (-1) tk]}}:=I2.kept (t':=s2.toks) fun b ob q=>e6 _ q
 obtain⟨its,r,ht,hz⟩:=I4.list hx
 have hl:=r.length
 show wpAny (model X.prog X.w) X.A (pB e (.Slice none none (some (.UnaryOp .USub (.Constant (.int 1) 0 p3) p4)) p2) (.ref a) (.ref s2.heap.objs.size)) (EP X pins σ Q) X.xe {s2 with heap:=s2.heap.push {cls:=.type "slice",data:=.fields #[.none,.none,.int (-1) tk]}}
 refine tail_any (ops:=[.ref a,.ref s2.heap.objs.size]) ht.isList.typeIs oZ.lookup (wpAny_getItem_list_slice ht.isList (qD.new ..) .none .none (.int (-1) tk) (by simp) ?_ (by simpa[←hl] using hz)) (by with_unfolding_all rfl)
 have hf:=I4.hok.fresh (hC _)
 show EP X pins σ Q _ {s2 with heap:=(s2.heap.push {cls:=.type "slice",data:=.fields #[.none,.none,.int (-1) tk]}).push {cls:=.type "list",data:=.seq (qH its.toArray none none (some (-1)))}}
 rw[Tq]
 exact⟨.ref _,_,I4.laid (t':=s2.toks) (o:=.lst xs.reverse) (fun b ob q=>e6 _ q) (hC _) ⟨by rw[kP];exact hz,its.reverse,0,ML r,iz _ rfl⟩,rfl,q _ hf⟩
end
end L2
namespace L2.TL
open PySem PySem.Spec PyProof.Rows
section
variable{Z:Zx}{ρ:List (Option T)}{O:AJ}{e:Expr}{ts:List T}{p2 p3 p4 pos:Pos}
theorem WD(h:ET Z ρ O e (.lst ts)):ET Z ρ O (.Subscript e (.Slice none none (some (.UnaryOp .USub (.Constant (.int 1) 0 p3) p4)) p2) pos) (.lst ts.reverse):=fun Φ q=>by
 refine PE.weak (WC (BW (ρ:=ρ))) fun σ H Q k=>?_
 refine⟨O,_,h (fun t O'=>t=.lst ts∧O'=O) ⟨rfl,rfl⟩,k.1,?_⟩
 rintro v H1 _ _ ⟨rfl,rfl⟩ f r
 obtain⟨a,xs,rfl,h1,_,r1⟩:=r.lst_inv
 exact⟨a,xs,rfl,.inl (.inl h1),fun l hl=>k.2 _ _ _ _ q (f.trans (.new f.ok hl)) (.lst AQ (f.ok.none_of hl) (r1.rev.kp (BN f.ok hl) f.ok))⟩
end
end L2.TL
namespace K06
open PySem L2 L2.TL PySem.Spec PyProof.Rows
variable{n:Int}{ps:List (Int×Int)}
theorem IG{i a b:Int}(h0:a≤i)(h1:i≤b):dP (.int i) a b=true:=by
 show(decide (a≤i)&&decide (i≤b))=true
 rw[decide_eq_true h0,decide_eq_true h1]
 rfl
theorem IH{α:Type}{xs:List α}:((xs.map fun _=>true).all id)=true:=by
 rw[jM]
 intro x hx
 obtain⟨_,_,rfl⟩:=ig.mp hx
 rfl
theorem JR{α:Type}{xs:List α}:T.lst (xs.map fun _=>T.bl true)=T.lst ((xs.map fun _=>true).map T.bl):=by rw[i7];rfl
section
variable{P:Program}{w:World}{K:a8}{mg:Str→Option Value}{base:Heap}
def ZU:CB:=GF fun ts r=>∃(n:Int) (u:T) (i:Int),ts=[.tup [.int n,u],.int i]∧0≤i∧i<n∧r=.non
theorem cI{f:Addr}{fd:iI}(F:Fun K "need_place" "need_place" SW f fd)(G:FnT P w K mg base "is_place" 2 ["web","thing"] Gh):FnOk P w K mg base (CXe P w) 3 f fd ["web","thing"] (Ci K ZU):=by
 refine AY F Yr ?_ ?_
 ·rintro ts O Φ Ξ ⟨r,⟨n,u,i,rfl,_⟩,_⟩
  rfl
 ·rintro cdv A outer s H E O Ξ hr xf _ Φ ⟨_,⟨n,u,i,rfl,i0,i1,rfl⟩,q⟩
  exact AG (Ae (k:=false) (EB.cast (BF (k:=true) (EB.cast (CS (AS G hr xf (AH (ev 0) (AH (ev 1) AB)) ⟨n,u,_,rfl,rfl,rfl⟩)) (IG i0 (by omega)))) rfl) (fun h=>by cases h) fun _=>Ab q)
def WH:CB:=GF fun ts r=>∃(n:Int) (ps:List (Int×Int)) (i:Nat),ts=[Ar n ps,.int (i:Int)]∧WebN n ps∧(i:Int)<n∧r=.tup ((Af ps i).map T.int)
theorem cJ{f:Addr}{fd:iI}(F:Fun K "near_of" "near_of" SX f fd)(Tx:Txt mg)(Gn:FnT P w K mg base "need_place" 3 ["web","thing"] ZU)(G:FnT P w K mg base "nears_of" 1 ["web"] CW):FnOk P w K mg base (CXe P w) 4 f fd ["web","place"] (Ci K WH):=by
 refine AY F Ys ?_ ?_
 ·rintro ts O Φ Ξ ⟨r,⟨n,ps,i,rfl,_⟩,_⟩
  rfl
 ·rintro cdv A outer s H E O Ξ hr xf _ Φ ⟨_,⟨n,ps,i,rfl,wn,hi,rfl⟩,q⟩
  refine AD (BY (ET.we (AS Gn hr xf (AH (ev 0) (AH (ev 1) AB)) ⟨n,_,i,rfl,by omega,hi,rfl⟩) ?_))
  exact AG (AN (ET.we (Df Tx.nTuple (DI (AS G (hr.mono (by decide)) xf (AH (ev 0) AB) ⟨n,ps,rfl,wn.n0,wn.n1,wn.hw,wn.hl,rfl⟩) (ev 1) (Sl hi))) q))
def ZV:CB:=GF fun ts r=>∃(n:Int) (ps:List (Int×Int)) (i j:Int) (d:Nat),ts=[Ar n ps,.int i,.int j]∧WebN n ps∧(0≤i∧i<n)∧(0≤j∧j<n)∧Gr.IsD ps [i] j d∧r=.int (d:Int)
theorem cK{f:Addr}{fd:iI}(F:Fun K "far_of" "far_of" NL f fd)(Gn:FnT P w K mg base "need_place" 3 ["web","thing"] ZU)(G:FnT P w K mg base "nears_of" 1 ["web"] CW)(Gf:FnT P w K mg base "fars_from" 1 ["nears","starts"] NO):FnOk P w K mg base (CXe P w) 4 f fd ["web","one","other"] (Ci K ZV):=by
 refine AY F Vd ?_ ?_
 ·rintro ts O Φ Ξ ⟨r,⟨n,ps,i,j,d,rfl,_⟩,_⟩
  rfl
 ·rintro cdv A outer s H E O Ξ hr xf _ Φ ⟨_,⟨n,ps,i,j,d,rfl,wn,hi,hj,hd,rfl⟩,q⟩
  refine AD (BY (ET.we (AS Gn hr xf (AH (ev 0) (AH (ev 1) AB)) ⟨n,_,i,rfl,hi.1,hi.2,rfl⟩) ?_))
  refine AD (BY (ET.we (AS Gn hr xf (AH (ev 0) (AH (ev 2) AB)) ⟨n,_,j,rfl,hj.1,hj.2,rfl⟩) ?_))
  refine AG (AN (Rb Et (fun _ _=>rfl) (Aj Gf (hr.mono (by decide)) xf (EA.wa (AH (AS G (hr.mono (by decide)) xf (AH (ev 0) AB) ⟨n,ps,rfl,wn.n0,wn.n1,wn.hw,wn.hl,rfl⟩) (AH (Bu (ts:=[i].map T.int) (AH (ev 1) AB) (by show 1≤sizeLine;decide)) AB)) ⟨n,ps,[i],rfl,wn,fun z hz=>?_,fun fs al=>?_⟩))))
  ·rw[e9.mp hz];exact hi
  ·have:=(al.eq j hj.1 hj.2 d).mpr hd
   obtain⟨m,rfl⟩:=iE hj.1
   rw[iS] at this
   exact ET.we (ev 2) (Mu (t:=.int (d:Int)) (BE (by rw[e7,this];rfl)) _ q)
def cL:CB:=GF fun ts r=>∃i a b:Int,ts=[.int i,.int a,.int b]∧a≤i∧i≤b∧r=.non
theorem cM{f:Addr}{fd:iI}(F:Fun K "need_number" "need_number" KN f fd)(G:FnT P w K mg base "is_whole" 1 ["thing","least","most"] EG):FnOk P w K mg base (CXe P w) 2 f fd ["thing","least","most"] (Ci K cL):=by
 refine AY F bg ?_ ?_
 ·rintro ts O Φ Ξ ⟨r,⟨i,a,b,rfl,_⟩,_⟩
  rfl
 ·rintro cdv A outer s H E O Ξ hr xf _ Φ ⟨_,⟨i,a,b,rfl,i0,i1,rfl⟩,q⟩
  exact AG (Ae (k:=false) (EB.cast (BF (k:=true) (EB.cast (CS (AS G hr xf (AH (ev 0) (AH (ev 1) (AH (ev 2) AB))) ⟨_,a,b,rfl,rfl,rfl⟩)) (IG i0 i1))) rfl) (fun h=>by cases h) fun _=>Ab q)
def cN:CB:=GF fun ts r=>∃(n:Int) (ps:List (Int×Int)) (i:Int),ts=[Ar n ps,.int i]∧WebN n ps∧1≤n∧0≤i∧i≤15∧r=.bl (ZT (Ac n ps) i)
theorem cO{f:Addr}{fd:iI}(F:Fun K "is_even_by" "is_even_by" Gd f fd)(Tx:Txt mg)(Gn:FnT P w K mg base "need_number" 2 ["thing","least","most"] cL)(G:FnT P w K mg base "even_by" 2 ["web"] Kb):FnOk P w K mg base (CXe P w) 3 f fd ["web","number"] (Ci K cN):=by
 refine AY F Tp ?_ ?_
 ·rintro ts O Φ Ξ ⟨r,⟨n,ps,i,rfl,_⟩,_⟩
  rfl
 ·rintro cdv A outer s H E O Ξ hr xf _ Φ ⟨_,⟨n,ps,i,rfl,wn,n0,i0,i1,rfl⟩,q⟩
  have hu:(A.deeper (lE "is_even_by" (AA Gd) s.heap.objs.size f cdv)).units+101<cLine:=by have:=hr.un;omega
  refine AD (BY (ET.we (AS Gn hr xf (AH (ev 1) (AH AC (AH (Ce (GX Tx.iMost) AC) AB))) ⟨i,0,15,rfl,i0,i1,rfl⟩) ?_))
  exact AG (AN (ET.we (Bb (KE hu) (Ai _) (Pq To (by rw[CO]) JQ) (AS G hr xf (AH (ev 0) AB) ⟨n,ps,rfl,wn,n0,rfl⟩) (ev 1)) q))
def ZW:CB:=GF fun ts r=>∃(n:Int) (p:Int×Int),ts=[.int n,AE p]∧0≤p.1∧p.1<n∧0≤p.2∧p.2<n∧p.1≠p.2∧r=.bl true
theorem cP{f:Addr}{fd:iI}(F:Fun K "is_pair" "is_pair" Ot f fd)(Tx:Txt mg)(G:FnT P w K mg base "is_whole" 1 ["thing","least","most"] EG):FnOk P w K mg base (CXe P w) 2 f fd ["many","thing"] (Ci K ZW):=by
 refine AY F ZM ?_ ?_
 ·rintro ts O Φ Ξ ⟨r,⟨n,p,rfl,_⟩,_⟩
  rfl
 ·rintro cdv A outer s H E O Ξ hr xf _ Φ ⟨_,⟨n,p,rfl,a0,a1,b0,b1,ne,rfl⟩,q⟩
  refine AD (Ae (k:=false) (EW.eb (Cp (x:=false) (y:=false) (BF (Ef (t:=AE p) Tx.nIsi Tx.nTuple Ee FD (ev 1) rfl)) fun _=>CI (Ed (Du (ts:=[.int p.1,.int p.2]) Tx.nLen (ev 1)) AC))) (fun h=>by cases h) (fun _=>Ab ?_))
  refine AG (AN (ET.we (ET.cast (Fn (x:=true) (y:=true) (ET.cast (De (bs:=[p.1,p.2].map fun _=>true) Tx.nAll rfl (BJ ["end"] [("many",0)] [p.1,p.2] T.int (fun _=> .bl true) rfl (BU (AA Ot) ["many","thing"] (by decide+kernel)) (Bl (ev 1)) (by show 2≤sizeLine;decide) fun x hx=> ⟨[some (.int x),some (.int n)],fun X' Oe He is O'=>?_⟩)) rfl) fun _=>Fm (ET.cast (YH (i:=p.1) (j:=p.2) (AZ (ts:=[.int p.1,.int p.2]) (ev 1) AC) (AZ (ts:=[.int p.1,.int p.2]) (ev 1) AC)) (by rw[decide_eq_false ne];rfl))) rfl) q))
  obtain⟨cl,s',H',fp,rfl⟩:=is
  refine⟨AL 0 ZN (by decide),ET.cast (AS G hr BO (AH (ev 0) (AH AC (AH (Ce (ev 1) AC) AB))) ⟨_,0,n-1,rfl,rfl,rfl⟩) ?_⟩
  simp only[ic,i9,or_false] at hx
  rw[IG (by rcases hx with rfl|rfl<;>omega) (by rcases hx with rfl|rfl<;>omega)]
def cQ:CB:=GF fun ts r=>∃ps:List (Int×Int),ts=[.tup (ps.map AE)]∧ps.length≤1000∧ps.Pairwise Eg∧r=.bl true
theorem Tr:∀{ps:List (Int×Int)},ps.Pairwise Eg→∀z∈ps.zip (ps.drop 1),Eg z.1 z.2
 | [],_,z,hz=>by cases hz
 | [_],_,z,hz=>by cases hz
 |p::q::L,h,z,hz=>by
  have h':=mx.mp h
  rcases ic.mp (show z∈(p,q)::((q::L).zip L) from hz) with rfl|hz
  ·exact h'.1 q (by simp)
  ·exact Tr h'.2 z hz
theorem cR{f:Addr}{fd:iI}(F:Fun K "is_rising" "is_rising" FW f fd)(Tx:Txt mg):FnOk P w K mg base (CXe P w) 1 f fd ["row"] (Ci K cQ):=by
 refine AY F TV ?_ ?_
 ·rintro ts O Φ Ξ ⟨r,⟨t,rfl,_⟩,_⟩
  rfl
 ·rintro cdv A outer s H E O Ξ hr xf _ Φ ⟨_,⟨ps,rfl,hl,pw,rfl⟩,q⟩
  have sb:=AX
  have hu:(A.deeper (lE "is_rising" (AA FW) s.heap.objs.size f cdv)).units<cLine:=by have:=hr.un;omega
  refine AG (AN (ET.we (ET.cast (De Tx.nAll rfl (ET.cast (BJ ["one","other"] [] (ps.zip (ps.drop 1)) (fun z=> .tup [AE z.1,AE z.2]) (fun _=> .bl true) rfl (BU (AA FW) ["row"] (by decide+kernel)) ?_ (by simp;omega) fun x hx=> ⟨[some (AE x.1),some (AE x.2)],fun X' Oe He is O'=>?_⟩) JR)) (by rw[IH])) q))
  ·rw[←NU,pJ,←fJ]
   exact SD Tx.nZip (ev 0) (Mw (ev 0) AC)
  ·obtain⟨cl,s',H',fp,rfl⟩:=is
   exact⟨BZ 0 1 rfl cB (by decide) (by decide),ET.cast (YX (ns:=[x.1.1,x.1.2]) (ms:=[x.2.1,x.2.2]) hu (ev 0) (ev 1)) (by rw[(ZO x.1 x.2).mpr (Tr pw x hx)])⟩
def cS:CB:=GF fun ts r=>∃(n:Int) (ps:List (Int×Int)),ts=[.int n,.tup (ps.map AE)]∧ps.length≤1000∧(∀p∈ps,AU n p)∧ps.Pairwise Eg∧r=.bl true
theorem cT{f:Addr}{fd:iI}(F:Fun K "ties_good" "ties_good" MI f fd)(Tx:Txt mg)(G:FnT P w K mg base "is_pair" 2 ["many","thing"] ZW)(G2:FnT P w K mg base "is_rising" 2 ["row"] cQ):FnOk P w K mg base (CXe P w) 3 f fd ["many","thing"] (Ci K cS):=by
 refine AY F ZP ?_ ?_
 ·rintro ts O Φ Ξ ⟨r,⟨n,ps,rfl,_⟩,_⟩
  rfl
 ·rintro cdv A outer s H E O Ξ hr xf _ Φ ⟨_,⟨n,ps,rfl,hl,hP,pw,rfl⟩,q⟩
  have sb:=AX
  refine AD (Ae (k:=false) (EW.eb (EW.cast (Cp (x:=false) (y:=false) (BF (Ef (t:=.tup (ps.map AE)) Tx.nIsi Tx.nTuple Ee FD (ev 1) rfl)) fun _=>CI (EB.cast (BF (k:=true) (EB.cast (CS (De Tx.nAll rfl (ET.cast (BJ ["tie"] [("many",0)] ps AE (fun _=> .bl true) rfl (BU (AA MI) ["many","thing"] (by decide+kernel)) (Bl (ev 1)) (by omega) fun x hx=> ⟨[some (AE x),some (.int n)],fun X' Oe He is O'=>?_⟩) JR))) IH)) rfl)) rfl)) (fun h=>by cases h) (fun _=>Ab ?_))
  ·obtain⟨cl,s',H',fp,rfl⟩:=is
   have:=hP x hx
   unfold AU at this
   exact⟨AL 0 Vp (by decide),AS G hr BO (AH (ev 1) (AH (ev 0) AB)) ⟨n,x,rfl,by omega,by omega,by omega,by omega,by omega,rfl⟩⟩
  ·refine AG (AN (ET.we (ET.cast (Fn (x:=true) (y:=true) (ET.cast (De Tx.nAll rfl (ET.cast (BJ ["a","b"] [] ps AE (fun _=> .bl true) rfl (BU (AA MI) ["many","thing"] (by decide+kernel)) (Bl (ev 1)) (by omega) fun x hx=> ⟨[some (.int x.1),some (.int x.2)],fun X' Oe He is O'=>?_⟩) JR)) (by rw[IH])) fun _=>Fm (AS G2 hr xf (AH (ev 1) AB) ⟨ps,rfl,hl,pw,rfl⟩)) rfl) q))
   obtain⟨cl,s',H',fp,rfl⟩:=is
   exact⟨BZ 0 1 rfl cC (by decide) (by decide),ET.cast (Rh (ev 0) (ev 1)) (by rw[decide_eq_true (hP x hx).2.1])⟩
def cU:CB:=GF fun ts r=>∃(n:Int) (ps:List (Int×Int)),ts=[Ar n ps]∧WebR n ps∧n≤16∧r=.bl true
theorem cV{f:Addr}{fd:iI}(F:Fun K "web_good" "web_good" ZL f fd)(Tx:Txt mg)(G:FnT P w K mg base "is_whole" 3 ["thing","least","most"] EG)(G2:FnT P w K mg base "ties_good" 3 ["many","thing"] cS):FnOk P w K mg base (CXe P w) 4 f fd ["thing"] (Ci K cU):=by
 refine AY F cD ?_ ?_
 ·rintro ts O Φ Ξ ⟨r,⟨n,ps,rfl,_⟩,_⟩
  rfl
 ·rintro cdv A outer s H E O Ξ hr xf _ Φ ⟨_,⟨n,ps,rfl,wr,n1,rfl⟩,q⟩
  have hl:=wr.wn.hl
  refine AD (Ae (k:=false) (EW.eb (Cp (x:=false) (y:=false) (BF (Ef (t:=Ar n ps) Tx.nIsi Tx.nTuple Ee FD (ev 0) rfl)) fun _=>CI (Ed (Du (ts:=[.int n,.tup (ps.map AE)]) Tx.nLen (ev 0)) AC))) (fun h=>by cases h) (fun _=>Ab ?_))
  exact AG (AN (ET.we (ET.cast (Fn (x:=true) (y:=true) (ET.cast (AS G hr xf (AH (AZ (ev 0) AC) (AH AC (AH (GX Tx.iMost) AB))) ⟨_,1,16,rfl,rfl,rfl⟩) (by rw[IG wr.n0 n1])) fun _=>Fm (AS G2 hr xf (AH (AZ (ev 0) AC) (AH (AZ (ev 0) AC) AB)) ⟨n,ps,rfl,by omega,wr.wn.hw,wr.hp,rfl⟩)) rfl) q))
end
local macro_rules | `(tactic| omega) => `(tactic| first | lia | omega)
open PySem L2 L2.TL PySem.Spec PyProof.Rows
variable{n:Int}{ps:List (Int×Int)}
theorem ZX{r:List Int}(hw:Gr.GH n ps)(h:GrR.Ring (Gr.Adj ps) r):∀p∈OB r,bj ps p.1 p.2=true:=by
 refine jM.mp (Vm.mpr fun i hl=>Vz hw ?_)
 have g:∀{j:Nat} (hj:j<r.length),r.getD j 0=r[j]:=fun{j} hj=>by rw[iD,b6 hj];rfl
 unfold dQ
 by_cases c:i+1=r.length
 ·rw[if_pos c,g hl,g (show 0<r.length by omega)]
  refine h.cl _ _ ?_ ?_
  ·rw[nG,b6]
  ·rw[mY,b6 (by omega)]
   congr 2
   omega
 ·rw[if_neg c,g hl,g (show i+1<r.length by omega)]
  exact GrR.ZQ h.ch (by omega)
section
variable{P:Program}{w:World}{K:a8}{mg:Str→Option Value}{base:Heap}
def cW:CB:=GF fun ts t=>∃(n:Int) (ps:List (Int×Int)) (r:List Int),ts=[Ar n ps,Ag r]∧WebR n ps∧n≤16∧GrR.Ring (Gr.Adj ps) r∧t=.bl true
theorem cX{f:Addr}{fd:iI}(F:Fun K "ring_good" "ring_good" Hu f fd)(Tx:Txt mg)(Gp:FnT P w K mg base "is_place" 2 ["web","thing"] Gh)(Gt:FnT P w K mg base "are_tied" 1 ["web","a","b"] Sr):FnOk P w K mg base (CXe P w) 3 f fd ["web","thing"] (Ci K cW):=by
 refine AY F Vn ?_ ?_
 ·rintro ts O Φ Ξ ⟨r,⟨n,ps,u,rfl,_⟩,_⟩
  rfl
 ·rintro cdv A outer s H E O Ξ hr xf _ Φ ⟨_,⟨n,ps,r,rfl,wr,n1,h,rfl⟩,q⟩
  have sb:=Dl
  have hl:=(MA wr.wn.hw h).1
  have h3:=h.len
  have hin:=GrR.BQ (Bx wr.wn.hw) h
  refine AD (Ae (k:=false) (EW.eb (EW.cast (Cp (x:=false) (y:=false) (BF (Ef (t:=Ag r) Tx.nIsi Tx.nTuple Ee FD (ev 1) rfl)) fun _=>CI (EB.cast (Wb (Du Tx.nLen (ev 1)) (GX Tx.iLeast)) (decide_eq_false (by rw[c9];omega)))) rfl)) (fun h=>by cases h) (fun _=>Ab ?_))
  refine AD (Ae (k:=false) (EW.eb (EW.cast (Cp (x:=false) (y:=false) (EB.cast (BF (k:=true) (EB.cast (CS (De Tx.nAll rfl (ET.cast (BJ ["place"] [("web",0)] r T.int (fun _=> .bl true) rfl (BU (AA Hu) ["web","thing"] (by decide+kernel)) (Bl (ev 1)) (by omega) fun x hx=> ⟨[some (.int x),some (Ar n ps)],fun X' Oe He is O'=>?_⟩) JR))) IH)) rfl) fun _=>CI (EB.cast (Ed (NT (ns:=r) Tx.nLen Tx.nSet rfl (ev 1) (by omega)) (Du Tx.nLen (ev 1))) (by rw[c9,decide_eq_true (by rw[QJ.mpr h.nd])];rfl))) rfl)) (fun h=>by cases h) (fun _=>Ab ?_))
  ·obtain⟨cl,s',H',fp,rfl⟩:=is
   have:=hin x hx
   exact⟨AL 0 cA (by decide),ET.cast (AS Gp (hr.mono (by decide)) BO (AH (ev 1) (AH (ev 0) AB)) ⟨n,_,_,rfl,rfl,rfl⟩) (by rw[IG this.1 (by omega)])⟩
  ·have hcl:(OB r).length≤r.length:=by unfold OB;rw[List.length_zip];exact Nat.min_le_left ..
   refine AG (AN (ET.we (ET.cast (De Tx.nAll rfl (ET.cast (BJ ["a","b"] [("web",0)] (OB r) AE (fun _=> .bl true) rfl (BU (AA Hu) ["web","thing"] (by decide+kernel)) ?_ (by omega) fun x hx=> ⟨[some (.int x.1),some (.int x.2),some (Ar n ps)],fun X' Oe He is O'=>?_⟩) JR)) (by rw[IH])) q))
   ·rw[←Vo,←MG,←Os]
    exact SD Tx.nZip (ev 1) (KA (Mw (ev 1) AC) (Rz (ev 1) AC) (by rw[MG,Os,jx,iH,c9];omega))
   ·obtain⟨cl,s',H',fp,rfl⟩:=is
    exact⟨BZ 0 1 rfl ZI (by decide) (by decide),ET.cast (AS Gt (hr.mono (by decide)) BO (AH (ev 2) (AH (ev 0) (AH (ev 1) AB))) ⟨n,ps,x.1,x.2,rfl,rfl⟩) (by rw[ZX wr.wn.hw h x hx])⟩
def cY:CB:=fun ts O Φ _=>∃(n:Int) (ps:List (Int×Int)) (ns:List Int),ts=[Ar n ps,.tup (ns.map T.int)]∧WebR n ps∧n≤16∧ns.Perm (rg n)∧∀qs:List (Int×Int),qs.Pairwise Eg→(∀q,q∈qs↔q∈ps.map (nm ns))→Φ (Ar n qs) O
theorem cZ{f:Addr}{fd:iI}(F:Fun K "renamed" "renamed" Cu f fd)(Tx:Txt mg)(Gp:FnT P w K mg base "is_place" 2 ["web","thing"] Gh)(Gt:FnT P w K mg base "ties_of" 2 ["pairs"] Hz):FnOk P w K mg base (CXe P w) 3 f fd ["web","names"] (Ci K cY):=by
 refine AY F QM ?_ ?_
 ·rintro ts O Φ Ξ ⟨n,ps,ns,rfl,_⟩
  rfl
 ·rintro cdv A outer s H E O Ξ hr xf _ Φ ⟨n,ps,ns,rfl,wr,n1,pm0,q⟩
  have n0:=wr.n0
  have hP:=wr.wn.hw
  have hpl:=wr.wn.hl
  have sb:=AX
  have hlen:(ns.length:Int)=n:=by
   have:=pm0.length_eq
   rw[NX] at this
   omega
  have hz:∀z∈ns,0≤z∧z<n:=fun z hz=>NW (pm0.mem_iff.mp hz)
  have hu:(A.deeper (lE "renamed" (AA Cu) s.heap.objs.size f cdv)).units<cLine:=by have:=hr.un;omega
  refine AD (Ae (k:=false) (EW.eb (EW.cast (Cp (x:=false) (y:=false) (BF (Ef (t:=.tup (ns.map T.int)) Tx.nIsi Tx.nTuple Ee FD (ev 1) rfl)) fun _=>CI (EB.cast (BF (k:=true) (EB.cast (CS (De Tx.nAll rfl (ET.cast (BJ ["name"] [("web",0)] ns T.int (fun _=> .bl true) rfl (BU (AA Cu) ["web","names"] (by decide+kernel)) (Bl (ev 1)) (by omega) fun x hx=> ⟨[some (.int x),some (Ar n ps)],fun X' Oe He is O'=>?_⟩) JR))) IH)) rfl)) rfl)) (fun h=>by cases h) (fun _=>Ab ?_))
  ·obtain⟨cl,s',H',fp,rfl⟩:=is
   have:=hz x hx
   exact⟨AL 0 cE (by decide),ET.cast (AS Gp hr BO (AH (ev 1) (AH (ev 0) AB)) ⟨n,_,_,rfl,rfl,rfl⟩) (by rw[IG this.1 (by omega)])⟩
  refine AD (Rq (Jv (Yb hu) (Ai _) (Mz Tx.nSorted (ev 1) (by omega) fun ms pm pw=>ET.we (Lc Tx.nList Tx.nRange rfl (AZ (ev 0) AC) (by omega) (by omega)) (bL _ ⟨_,rfl,?_⟩))))
  have hm:ms=rg n:=(PySem.W.eq_sortI pm pw).trans (PySem.W.eq_sortI pm0.symm Vr).symm
  have e:(!decide (ms=rg n))=false:=by rw[decide_eq_true hm];rfl
  show if(!decide (ms=rg n))=true then _ else _
  rw[e,if_neg gx]
  refine Ab (AG (AN (Bt (CA (ET.we (AZ (ev 0) AC) (CA (Aj Gt hr xf (EA.wa (AH (BJ ["a","b"] [("names",1)] ps AE (fun p=>AE (Cv ns p.1,Cv ns p.2)) rfl (BU (AA Cu) ["web","names"] (by decide+kernel)) (Bl (AZ (ev 0) AC)) (by omega) fun x hx=> ⟨[some (.int x.1),some (.int x.2),some (.tup (ns.map T.int))],fun X' Oe He is O'=>?_⟩) AB) ⟨ps.map fun p=> (Cv ns p.1,Cv ns p.2),by rw[i7];rfl,by rw[c9];omega,(fun z hz'=>?_),fun qs q1 q2 _=>Ap ⟨by show 2≤sizeLine;decide,q qs q1 fun z=>by rw[q2 z,i7];rfl⟩⟩))))))))
  ·obtain⟨cl,s',H',fp,rfl⟩:=is
   have:=hP x hx
   exact⟨BZ 0 1 rfl Vq (by decide) (by decide),DH (AH (AZ (ev 2) (ev 0) (Cw (by omega) (by omega))) (AH (AZ (ev 2) (ev 1) (Cw (by omega) (by omega))) AB))⟩
  ·obtain⟨p,hp,rfl⟩:=ig.mp hz'
   have:=hP p hp
   have a1:=hz _ (EH (ns:=ns) (i:=p.1) (by omega) (by omega))
   have a2:=hz _ (EH (ns:=ns) (i:=p.2) (by omega) (by omega))
   show(0≤Cv ns p.1∧Cv ns p.1<65536)∧0≤Cv ns p.2∧Cv ns p.2<65536
   omega
end
end K06
namespace L2.TL
local macro_rules | `(tactic| omega) => `(tactic| first | lia | omega)
open PySem PySem.Spec PyProof.Rows
section
variable{X:Cx}{Z:Zx}{ρ:List (Option T)}{O:AJ}{a b:Expr}{t:T}{p1 pos:Pos}{i j:Int}{x y:Bool}
theorem ZY:CY X (jB .Is) (fun x y H Q=>∃a b,x=.bl a∧y=.bl b∧Q (.bl (a==b)) H):=by
 intro pins s σ H x y v u Q I rx ry h
 obtain⟨a,b,rfl,rfl,q⟩:=h
 cases rx
 cases ry
 exact is_bool (Aa I q (by cases a<;>cases b<;>rfl))
theorem ZZ(ha:ET Z ρ O a (.bl x))(hb:ET Z ρ O b (.bl y)):ET Z ρ O (.Compare a [.Is] [b] pos) (.bl (x==y)):=Bb ZY (Ai _) (fun Φ p H v w Q ok r1 r2 q=> ⟨x,y,r1.bl_inv,r2.bl_inv,q _ H _ O p (.refl ok) (.bl _)⟩) ha hb
theorem Ox(ha:ET Z ρ O a (.int i))(hb:ET Z ρ O b (.int j)):ET Z ρ O (.Compare a [.Eq] [b] pos) (.bl (decide (i=j))):=Bb Kq (Ai _) Ju ha hb
theorem Za(ha:ET Z ρ O a (.int i))(hb:ET Z ρ O b (.int j)):ET Z ρ O (.Compare a [.Gt] [b] pos) (.bl (decide (j<i))):=Bb WO (Ai _) Hb ha hb
end
end L2.TL
namespace K06
local macro_rules | `(tactic| omega) => `(tactic| first | lia | omega)
open PySem L2 L2.TL PySem.Spec PyProof.Rows
variable{n:Int}{ps:List (Int×Int)}
theorem Zb{i j k:Nat}(h1:i<j)(h2:j<k):((min (j-i) (k-j+i):Nat):Int)=min ((j:Int)-i) ((k:Int)-j+i):=by omega
section
variable{P:Program}{w:World}{K:a8}{mg:Str→Option Value}{base:Heap}
def cb:CB:=fun ts O Φ _=>∃(n:Int) (rs:List (Int×Int)),ts=[.int n,.lst (rs.map AE)]∧1≤n∧n≤16∧rs.length≤300∧(∀p∈rs,0≤p.1∧p.1<n∧0≤p.2∧p.2<n∧p.1≠p.2)∧∀qs:List (Int×Int),qs.Pairwise Eg→(∀q,q∈qs↔q∈rs.map mm)→Φ (Ar n qs) O
def gu:List Str:=["many","things","number","thing"]
theorem cc:FnScope gu ["many","things"] (AA KS):=by ac_rfl
theorem cf{f:Addr}{fd:iI}(F:Fun K "web_of" "web_of" KS f fd)(Tx:Txt mg)(Gw:FnT P w K mg base "is_whole" 1 ["thing","least","most"] EG)(Gp:FnT P w K mg base "is_pair" 2 ["many","thing"] ZW)(Gt:FnT P w K mg base "ties_of" 2 ["pairs"] Hz):FnOk P w K mg base (CXe P w) 3 f fd ["many","things"] (Ci K cb):=by
 refine AY F cc ?_ ?_
 ·rintro ts O Φ Ξ ⟨n,rs,rfl,_⟩
  rfl
 ·rintro cdv A outer s H E O Ξ hr xf _ Φ ⟨n,rs,rfl,n0,n1,hl,hP,q⟩
  refine AD (Ae (k:=false) (EB.cast (BF (k:=true) (EB.cast (CS (AS Gw (hr.mono (by decide)) xf (AH (ev 0) (AH AC (AH (GX Tx.iMost) AB))) ⟨_,_,_,rfl,rfl,rfl⟩)) (IG n0 n1))) rfl) (fun h=>by cases h) fun _=>Ab ?_)
  refine AD (BI Ak.own rfl (EI.wi (OX Tx.nEnum (ev 1)) ⟨fun i ρ' O'=>∃v2 v3,ρ'=[some (.int n),some (.lst (rs.map AE)),v2,v3]∧O=O',⟨none,none,rfl,rfl⟩,?_,?_⟩))
  ·rintro i t _ _ e ⟨v2,v3,rfl,rfl⟩
   unfold GI at e
   rw[e7,oa,e7] at e
   cases ec:rs[i]? with
   |none=>rw[ec] at e;cases e
   |some p=>
    rw[ec] at e
    cases e
    have hp:=hP p (hZ ec)
    refine⟨[some (.int n),some (.lst (rs.map AE)),some (.int ((0+i:Nat):Int)),some (AE p)],BZ 2 3 rfl cc.nd (by show 2<4;decide) (by show 3<4;decide),?_⟩
    exact AG (Ae (k:=false) (EB.cast (BF (k:=true) (CS (AS Gp hr xf (AH (ev 0) (AH (ev 3) AB)) ⟨n,p,rfl,hp.1,hp.2.1,hp.2.2.1,hp.2.2.2.1,hp.2.2.2.2,rfl⟩))) rfl) (fun h=>by cases h) fun _=>Ab ⟨_,_,rfl,rfl⟩)
  ·rintro _ _ ⟨v2,v3,rfl,rfl⟩
   refine AG (AN (Bt (CA (ET.we (ev 0) (CA (Aj Gt hr xf (EA.wa (AH (ev 1) AB) ⟨rs,rfl,by omega,(fun p hp=>?_),fun qs q1 q2 _=>Ap ⟨by show 2≤sizeLine;decide,q qs q1 q2⟩⟩)))))))
   have:=hP p hp
   omega
def Ws:CB:=GF fun ts r=>∃(n:Int) (ps:List (Int×Int)),ts=[Ar n ps]∧WebR n ps∧n≤16∧r=.bl true
def fK:List Str:=["_law_web","_law_ring","_law_size","_law_at","_law_k"]
theorem Oy:FnScope fK ["_law_web"] (AA Ym):=by ac_rfl
theorem Zc{f:Addr}{fd:iI}(F:Fun K "_law_ring_right" "_law_ring_right" Ym f fd)(Tx:Txt mg)(Gf:FnT P w K mg base "first_ring" 4 ["web"] Oq)(Gs:FnT P w K mg base "shortest" 3 ["web"] FT)(Gm:FnT P w K mg base "shortest_many" 4 ["web"] Kf)(Gg:FnT P w K mg base "ring_good" 3 ["web","thing"] cW)(Gr:FnT P w K mg base "far_of" 4 ["web","one","other"] ZV):FnOk P w K mg base (CXe P w) 5 f fd ["_law_web"] (Ci K Ws):=by
 refine AY F Oy ?_ ?_
 ·rintro ts O Φ Ξ ⟨r,⟨n,ps,rfl,_⟩,_⟩
  rfl
 ·rintro cdv A outer s H E O Ξ hr xf _ Φ ⟨_,⟨n,ps,rfl,wr,n1,rfl⟩,q⟩
  have sb:=AX
  have n0:=wr.n0
  have wn:=wr.wn
  refine AD (Yk 1 2 rfl Oy.nd (EA.wa (AH (AS Gf hr xf (AH (ev 0) AB) ⟨n,ps,rfl,wr,rfl⟩) (AH (AS Gs (hr.mono (by decide)) xf (AH (ev 0) AB) ⟨n,ps,rfl,wn,rfl⟩) AB)) ⟨_,_,rfl,?_⟩))
  cases hs:GK ps with
  |none=>
   obtain⟨hf,hm⟩:=Tg (n:=n) hs
   rw[hf]
   refine AD (Ae (k:=true) (Ei (t:=.non) rfl (ev 1)) (fun _=>AG (AN (ET.we (ET.cast (Fn (x:=true) (y:=true) (Sx (t:=.non) rfl (ev 2)) fun _=>Fm (ET.cast (Ox (AS Gm hr xf (AH (ev 0) AB) ⟨n,ps,rfl,wr,rfl⟩) AC) (by rw[hm];rfl))) rfl) q))) fun h=>by cases h)
  |some m=>
   obtain⟨k,rfl,k3,kn,_⟩:=EO wn.hw hs
   obtain⟨r,hf,hr1,hl,least,hm⟩:=Th wr hs
   rw[hf]
   have hin:=GrR.BQ (Bx wn.hw) hr1
   refine AD (Ae (k:=false) (Ei (t:=Ag r) rfl (ev 1)) (fun h=>by cases h) fun _=>Ab ?_)
   refine AD (Ae (k:=false) (EW.eb (EW.cast (Cp (x:=false) (y:=false) (EB.cast (BF (k:=true) (CS (AS Gg (hr.mono (by decide)) xf (AH (ev 0) (AH (ev 1) AB)) ⟨n,ps,r,rfl,wr,n1,hr1,rfl⟩))) rfl) fun _=>EW.cast (Cp (x:=false) (y:=false) (EB.cast (Ed (Du Tx.nLen (ev 1)) (ev 2)) (by rw[c9,hl,decide_eq_true rfl];rfl)) fun _=>CI (EB.cast (BF (k:=true) (CS (AS Gg (hr.mono (by decide)) xf (AH (ev 0) (AH (t:=Ag (r.drop 1++r.take 1)) (ET.cast (KA (Mw (ev 1) AC) (Rz (ev 1) AC) (by rw[Os,MG,jx,iH,c9];omega)) (by rw[Os,MG,←pJ,←qX,←iU];rfl)) AB)) ⟨n,ps,_,rfl,wr,n1,GrR.FX (by rw[jq];exact hr1),rfl⟩))) rfl)) rfl) rfl)) (fun h=>by cases h) fun _=>Ab ?_)
   refine AD (BI Ak.own rfl (EI.wi (Al Tx.nRange (ev 2) ⟨by omega,by omega⟩) ⟨fun j ρ' O'=>∃v3 v4,ρ'=[some (Ar n ps),some (Ag r),some (.int (k:Int)),v3,v4]∧O=O',⟨none,none,rfl,rfl⟩,?_,?_⟩))
   ·rintro j t _ _ e ⟨v3,v4,rfl,rfl⟩
    obtain⟨hj,rfl⟩:=Az e
    rw[mW]
    refine⟨[some (Ar n ps),some (Ag r),some (.int (k:Int)),some (.int (j:Int)),v4],AL 3 Oy.nd (by show 3<5;decide),?_⟩
    refine AG (BI Ak.own rfl (EI.wi (Al Tx.nRange (ev 3) ⟨by omega,by omega⟩) ⟨fun i ρ' O'=>∃v4,ρ'=[some (Ar n ps),some (Ag r),some (.int (k:Int)),some (.int (j:Int)),v4]∧O=O',⟨v4,rfl,rfl⟩,?_,?_⟩))
    ·rintro i t _ _ e ⟨v4,rfl,rfl⟩
     obtain⟨hi,rfl⟩:=Az e
     rw[mW]
     have hjl:j<r.length:=by omega
     have hil:i<r.length:=by omega
     have hat:∀{m:Nat} (h:m<r.length),atI (r.map T.int) (m:Int)=some (.int r[m]):=fun{m} h=>BE (by rw[e7,b6 h];rfl)
     have hd:=GrR.ND.mpr (GrR.QN Dk hr1 least (show i<j by omega) hjl)
     refine⟨[some (Ar n ps),some (Ag r),some (.int (k:Int)),some (.int (j:Int)),some (.int (i:Int))],AL 4 Oy.nd (by show 4<5;decide),?_⟩
     exact AG (Ae (k:=false) (EB.cast (Ed (i:=((min (j-i) (r.length-j+i):Nat):Int)) (AS Gr hr xf (AH (ev 0) (AH (AZ (ev 1) (ev 3) (hat hjl)) (AH (AZ (ev 1) (ev 4) (hat hil)) AB))) ⟨n,ps,_,_,_,rfl,wn,hin _ (jg hjl),hin _ (jg hil),hd,rfl⟩) (FE Tx.nMin rfl (Ce (ev 3) (ev 4)) (Cd (Ce (ev 2) (ev 3)) (ev 4)))) (by rw[decide_eq_true (by rw[hl];exact Zb (by omega) (by omega))];rfl)) (fun h=>by cases h) fun _=>Ab ⟨_,rfl,rfl⟩)
    ·rintro _ _ ⟨v4,rfl,rfl⟩
     exact⟨_,_,rfl,rfl⟩
   ·rintro _ _ ⟨v3,v4,rfl,rfl⟩
    exact AG (AN (ET.we (ET.cast (Fn (x:=true) (y:=true) (ET.cast (ZZ (AS Gg (hr.mono (by decide)) xf (AH (ev 0) (AH (t:=Ag r.reverse) (ET.cast (SA (ev 1)) (by rw[←pR];rfl)) AB)) ⟨n,ps,_,rfl,wr,n1,GrR.MJ Dk hr1,rfl⟩) Ra) rfl) fun _=>Fm (ET.cast (Za (AS Gm hr xf (AH (ev 0) AB) ⟨n,ps,rfl,wr,rfl⟩) AC) (by rw[decide_eq_true hm]))) rfl) q))
end
end K06
namespace L2.TL
local macro_rules | `(tactic| omega) => `(tactic| first | lia | omega)
open PySem PySem.Spec PyProof.Rows
section
variable{Z:Zx}{ρ:List (Option T)}{O:AJ}{e a b:Expr}{t:T}{p p1 pos:Pos}
theorem Ts{j:Nat}(hr:Cr t=false)(ha:ET Z ρ O a t):ET Z ρ O (.Compare a [.IsNot] [.Constant .none j p1] pos) (.bl (!CU t)):=Bb Nl (Ai _) (fun Φ p H v w Q ok r1 r2 q=>by
 refine⟨r2.non_inv,?_⟩
 have e:decide (v=V.non)=CU t:=by
  cases r1<;>first|rfl|cases hr
 rw[e]
 exact q _ H _ O p (.refl ok) (.bl _)) ha DG
end
end L2.TL
namespace K06
local macro_rules | `(tactic| omega) => `(tactic| first | lia | omega)
open PySem L2 L2.TL PySem.Spec PyProof.Rows
variable{n:Int}{ps:List (Int×Int)}
section
variable{Z:Zx}{ρ:List (Option T)}{O:AJ}{e a b:Expr}{p pos:Pos}{ns ms:List Int}
theorem MM(m:Z.X.mg "sorted" =none)(nd:ns.Nodup)(hl:ns.length<64)(h2:ms.Pairwise (· < ·))(h3:∀v,v∈ns↔v∈ms)(h:ET Z ρ O e (.lst (ns.map T.int)))(hg:Gl Z.X "sorted":=by rfl)(he:e8 [e] Z.X.env=(false,eval e Z.X.env)::e8 [] Z.X.env:=by rfl):ET Z ρ O (.Call (.Name "sorted" p) [e] [] pos) (.lst (ms.map T.int)):=fun Φ q=>
 NC m h hl (fun rs pm pw=>by
  have nd':rs.Nodup:=pm.nodup_iff.mpr nd
  have e:rs=ms:=Wo (by
   rw[iF] at nd'
   exact(pw.and nd').imp fun{a b} h=>by omega) h2 fun v=>by rw[pm.mem_iff];exact h3 v
  rw[e]
  exact q) hg he
theorem MN{ns:List Int}:kh (dT (.lst (ns.map T.int))) (dT (.lst (ns.map T.int)))=true:=by
 show mE (dTs (ns.map T.int)) (dTs (ns.map T.int))=true
 rw[IA,decide_eq_true rfl]
theorem Cy{ns:List Int}:CO (.lst (ns.map T.int))=true:=by rw[CO];exact Gj
theorem II{ns:List Int}:(dT (.lst (ns.map T.int))).depth≤100:=by show kS _+1≤100;have:=IB (ns:=ns);omega
theorem Oz(hu:Z.X.A.units+101<cLine)(ha:ET Z ρ O a (.lst (ns.map T.int)))(hb:ET Z ρ O b (.lst (ns.map T.int))):EB Z ρ O (.Compare a [.NotEq] [b] pos) false:=
 EB.cast (Bc (SI hu) (Ai _) (Pq Cy Cy II) ha hb) (by rw[MN];rfl)
theorem WJ(hu:Z.X.A.units+101<cLine)(ha:ET Z ρ O a (.lst (ns.map T.int)))(hb:ET Z ρ O b (.lst (ns.map T.int))):ET Z ρ O (.Compare a [.Eq] [b] pos) (.bl true):=
 ET.cast (Bb (KE hu) (Ai _) (Pq Cy Cy II) ha hb) (by rw[MN])
theorem Nc(G:FnT Z.X.prog Z.X.w Z.X.K Z.X.mg Z.X.base "pieces_of" 2 ["web"] FV)(hr:Room 2 Z.X.A)(xf:XFly Z.X Z.W)(wn:WebN n ps)(h:ET Z ρ O a (Ar n ps))(hn:Bz a=true:=by rfl)(hg:Gl Z.X "pieces_of":=by rfl):ET Z ρ O (.Call (.Name "pieces_of" p) [a] [] pos) (.lst ((IJ n ps).map Ag)):=fun Φ q=>
 SU (Aj G hr xf (EA.wa (AH h AB hn) ⟨n,ps,cH n ps,rfl,wn,ZS wn.n0,fun l hl=> ⟨l,_,rfl,hl,rfl,q⟩⟩) hg (by decide) (Dv hn) rfl)
end
theorem cg:(rg n).Pairwise (· < ·):=by
 unfold rg
 rw[jc]
 exact jP.imp fun h=>by omega
theorem Zd{v:Int}:v∈rg n↔0≤v∧v<n:=by
 refine⟨NW,fun h=>?_⟩
 unfold rg
 exact ig.mpr ⟨v.toNat,iM.mpr (by omega),by omega⟩
section
variable{P:Program}{w:World}{K:a8}{mg:Str→Option Value}{base:Heap}
def Wt:CB:=GF fun ts r=>∃(n:Int) (ps:List (Int×Int)),ts=[Ar n ps]∧WebR n ps∧n≤16∧r=.bl true
def Ze:List Str:=["_law_web","_law_every","_law_piece"]
theorem PB:FnScope Ze ["_law_web"] (AA Pz):=by ac_rfl
theorem cj:(Ah ["_law_place"] [(("_law_web" :Str),0),(("_law_piece" :Str),2)]).Nodup:=by decide+kernel
theorem ck:(Ah ["_law_near"] [(("_law_piece" :Str),2)]).Nodup:=by decide+kernel
theorem Zf{f:Addr}{fd:iI}(F:Fun K "_law_pieces_right" "_law_pieces_right" Pz f fd)(Tx:Txt mg)(Gp:FnT P w K mg base "pieces_of" 2 ["web"] FV)(Gfo:FnT P w K mg base "far_of" 4 ["web","one","other"] ZV)(Gn:FnT P w K mg base "near_of" 4 ["web","place"] WH):FnOk P w K mg base (CXe P w) 5 f fd ["_law_web"] (Ci K Wt):=by
 refine AY F PB ?_ ?_
 ·rintro ts O Φ Ξ ⟨r,⟨n,ps,rfl,_⟩,_⟩
  rfl
 ·rintro cdv A outer s H E O Ξ hr xf _ Φ ⟨_,⟨n,ps,rfl,wr,n1,rfl⟩,q⟩
  have sb:=AX
  have n0:=wr.n0
  have n00:0≤n:=by omega
  have wn:=wr.wn
  have hu:(A.deeper (lE "_law_pieces_right" (AA Pz) s.heap.objs.size f cdv)).units+102<cLine:=by have:=hr.un;omega
  have hu1:=o9 hu
  have hfl:=Tj (ps:=ps) n00
  have hlen:∀i,(((IJ n ps).take i).flatMap id).length≤16:=fun i=>by
   have nd:(((IJ n ps).take i).flatMap id).Nodup:=by
    have e:(IJ n ps).flatMap id=((IJ n ps).take i).flatMap id++((IJ n ps).drop i).flatMap id:=by rw[←ma,jq]
    have:=hfl.1
    rw[e] at this
    exact(jd.mp this).1
   have:=Gr.Ek (n:=n) nd fun z hz=> (hfl.2 z).mp (by
    obtain⟨X,hX,h⟩:=kJ.mp hz
    exact kJ.mpr ⟨X,n9 hX,h⟩)
   omega
  refine AD (AW 1 (ET.we (t:=.lst (([]:List Int).map T.int)) (Bu AB (jl _)) ?_) PB.nd)
  refine AD (BI Ak.own rfl (EI.wi (BG (Nc Gp (hr.mono (by decide)) xf wn (ev 0))) ⟨fun i ρ' O'=>∃v2,ρ'=[some (Ar n ps),some (.lst ((((IJ n ps).take i).flatMap id).map T.int)),v2]∧O=O',⟨none,rfl,rfl⟩,?_,?_⟩))
  ·rintro i t _ _ e ⟨v2,rfl,rfl⟩
   rw[e7] at e
   cases ec:(IJ n ps)[i]? with
   |none=>rw[ec] at e;cases e
   |some X=>
    rw[ec] at e
    cases e
    obtain⟨c,c0,c1,eX⟩:=(Bp n00).mp (hZ ec)
    have hX:∀v,v∈X↔0≤v∧v<n∧Gr.Rc ps c v:=fun v=>by rw[eX];exact Bo n00
    have hne:X≠[]:=fun z=>by
     have:=(hX c).mpr ⟨c0,c1,.refl⟩
     rw[z] at this
     cases this
    have hXl:X.length≤16:=by have:=WB (ps:=ps) (i:=c) n00;rw[←eX] at this;omega
    obtain⟨x,L,hxL⟩:∃x L,X=x::L:=by
     cases X with
     |nil=>exact absurd rfl hne
     |cons x L=>exact⟨x,L,rfl⟩
    have hx:=(hX x).mp (by rw[hxL];simp)
    have hz:=(hX (GrR.lst X)).mp (Oo hne)
    have htk:((IJ n ps).take (i+1)).flatMap id=((IJ n ps).take i).flatMap id++X:=by
     rw[jt,ec,ma]
     simp
    have h1:=hlen i
    refine⟨[some (Ar n ps),some (.lst ((((IJ n ps).take i).flatMap id).map T.int)),some (Ag X)],AL 2 PB.nd (by show 2<3;decide),?_⟩
    refine AD (AW 1 (ET.we (t:=.lst ((((IJ n ps).take (i+1)).flatMap id).map T.int)) (ET.cast (Gc (ev 1) (LW Tx.nList (ev 2)) (by rw[c9,c9];omega)) (by rw[htk,iU])) ?_) PB.nd)
    refine AD (Ae (k:=false) (EB.cast (BF (k:=true) (EB.cast (CS (De Tx.nAll rfl (ET.cast (BJ ["_law_place"] [("_law_web",0),("_law_piece",2)] X T.int (fun _=> .bl true) rfl (BU (AA Pz) Ze (by decide+kernel)) (Bl (ev 2)) (by omega) fun v hv=> ⟨[some (.int v),some (Ar n ps),some (Ag X)],fun X' Oe He is O'=>?_⟩) (show _=T.lst ((X.map fun _=>true).map T.bl) by rw[i7];rfl)))) IH)) rfl) (fun h=>by cases h) fun _=>Ab ?_)
    ·obtain⟨cl,s',H',fp,rfl⟩:=is
     have hv:=(hX v).mp hv
     obtain⟨k,hk⟩:=hx.2.2.symm.trans hv.2.2
     obtain⟨d,_,hd⟩:=hk.least
     refine⟨AL 0 cj (by decide),ET.cast (Ts (t:=.int (d:Int)) rfl (AS Gfo hr BO (AH (ev 1) (AH (AZ (t:=.int x) (ev 2) AC (BE (j:=0) (by rw[hxL];rfl))) (AH (ev 0) AB))) ⟨n,ps,x,v,d,rfl,wn,⟨hx.1,hx.2.1⟩,⟨hv.1,hv.2.1⟩,hd,rfl⟩)) rfl⟩
    ·obtain⟨z,ez⟩:=iE hz.1
     refine AG (Ae (k:=false) (Oz (ns:=[]) hu1 (ET.cast (Hm ["_law_near"] [("_law_piece",2)] (Af ps z) T.int T.int (fun v=>!decide (v∈X)) rfl (BU (AA Pz) Ze (by decide+kernel)) (Bl (AS Gn hr xf (AH (ev 0) (AH (t:=.int (z:Int)) (AZ (ev 2) (Rj AC) (by rw[On hne,ez])) AB)) ⟨n,ps,z,rfl,wn,by omega,rfl⟩)) ?_ fun v hv=> ⟨[some (.int v),some (Ag X)],fun X' Oe He is O'=>?_⟩) ?_) (Bu AB (jl _))) (fun h=>by cases h) fun _=>Ab ⟨_,rfl,rfl⟩)
     ·have:=CM (qs:=ps) (i:=z)
      have:=wn.hl
      omega
     ·obtain⟨cl,s',H',fp,rfl⟩:=is
      exact⟨AL 0 ck (by decide),EB.cast (Bc (SJ hu) rfl (KG (t:=.int v) (us:=X.map T.int) (by rw[CO]) Gj (by show 0≤100;decide)) (ev 0) (ev 1)) (by rw[EE]),fun _=>ev 0⟩
     ·rw[List.filter_eq_nil_iff.mpr fun v hv=>by
       have ad:Gr.Adj ps (z:Int) v:=(EK wn.hw).mp hv
       have hb:=ad.inb wn.hw
       rw[ez] at hz
       have:v∈X:=(hX v).mpr ⟨hb.1,hb.2.1,hz.2.2.trans ⟨1,.go (.at (by simp)) ad⟩⟩
       simp[this]]
  ·rintro _ _ ⟨v2,rfl,rfl⟩
   rw[c9,jj]
   have h1:=hlen (IJ n ps).length
   rw[jj] at h1
   exact AG (AN (ET.we (WJ (ns:=rg n) hu1 (MM Tx.nSorted hfl.1 (by omega) cg (fun v=> (hfl.2 v).trans Zd.symm) (ev 1)) (Lc Tx.nList Tx.nRange rfl (AZ (ev 0) AC) (by omega) (by omega))) q))
end
end K06
namespace K06
local macro_rules | `(tactic| omega) => `(tactic| first | lia | omega)
open PySem L2 L2.TL PySem.Spec PyProof.Rows
variable{n:Int}{ps qs:List (Int×Int)}
theorem Nd{Z:Zx}{ρ:List (Option T)}{O:AJ}{a b:Expr}{pos:Pos}{t:T}(hu:Z.X.A.units+101<cLine)(h1:CO t=true)(h2:(dT t).depth≤100)(h3:kh (dT t) (dT t)=true)(ha:ET Z ρ O a t)(hb:ET Z ρ O b t):EB Z ρ O (.Compare a [.NotEq] [b] pos) false:=
 EB.cast (Bc (SI hu) (Ai _) (Pq h1 h1 h2) ha hb) (by rw[h3];rfl)
theorem cq{x:Option Int}:CO (IW x)=true:=by cases x<;> (unfold IW;rw[CO])
theorem cu{x:Option Int}:(dT (IW x)).depth≤100:=by cases x<;> (show 0≤100;decide)
theorem Zg{x:Option Int}:kh (dT (IW x)) (dT (IW x))=true:=by
 cases x with
 |none=>rfl
 |some i=>show((i:Int)==i)=true;simp
theorem Zh{cs:List Int}:kh (dT (IX cs)) (dT (IX cs))=true:=by
 rcases ES cs with⟨d,e⟩|e
 ·rw[e]
  show((d:Int)==d)=true
  simp
 ·rw[e]
  rfl
section
variable{P:Program}{w:World}{K:a8}{mg:Str→Option Value}{base:Heap}
structure FnN(P:Program)(w:World)(K:a8)(mg:Str→Option Value)(base:Heap):Prop where
 tx:Txt mg
 gr:FnT P w K mg base "renamed" 3 ["web","names"] cY
 gs:FnT P w K mg base "shortest" 3 ["web"] FT
 gm:FnT P w K mg base "shortest_many" 4 ["web"] Kf
 ge:FnT P w K mg base "even_by" 2 ["web"] Kb
 gn:FnT P w K mg base "near_of" 4 ["web","place"] WH
 gp:FnT P w K mg base "pieces_of" 2 ["web"] FV
 gw:FnT P w K mg base "web_good" 4 ["thing"] cU
def Wu:CB:=GF fun ts r=>∃(n:Int) (ps:List (Int×Int)) (ns:List Int),ts=[Ar n ps,.tup (ns.map T.int)]∧WebR n ps∧n≤16∧ns.Perm (rg n)∧r=.bl true
def cw:List Str:=["_law_web","_law_names","_law_other","_law_place"]
theorem Tt:FnScope cw ["_law_web","_law_names"] (AA SY):=by ac_rfl
theorem dA:(Ah ["_law_near"] [(("_law_names" :Str),1)]).Nodup:=by decide+kernel
theorem Zi{f:Addr}{fd:iI}(F:Fun K "_law_named_right" "_law_named_right" SY f fd)(B:FnN P w K mg base):FnOk P w K mg base (CXe P w) 5 f fd ["_law_web","_law_names"] (Ci K Wu):=by
 refine AY F Tt ?_ ?_
 ·rintro ts O Φ Ξ ⟨r,⟨n,ps,ns,rfl,_⟩,_⟩
  rfl
 ·rintro cdv A outer s H E O Ξ hr xf _ Φ ⟨_,⟨n,ps,ns,rfl,wr,n1,pm,rfl⟩,q⟩
  have sb:=AX
  have n0:=wr.n0
  have wn:=wr.wn
  have hnl:ns.length=n.toNat:=by rw[pm.length_eq,NX]
  have hu:(A.deeper (lE "_law_named_right" (AA SY) s.heap.objs.size f cdv)).units+102<cLine:=by have:=hr.un;omega
  have hu1:=o9 hu
  refine AD (AW 2 (Aj B.gr (hr.mono (by decide)) xf (EA.wa (AH (ev 0) (AH (ev 1) AB)) ⟨n,ps,ns,rfl,wr,n1,pm,fun qs q1 q2=>?_⟩)) Tt.nd)
  have m:=Te wr n1 pm q1 q2
  have wq:=m.wq
  have hsh:=m.sh
  have hmn:=m.many (by omega)
  have hev:=m.ev
  refine AD (Ae (k:=false) (EW.eb (EW.cast (Cp (x:=false) (y:=false) (Nd hu1 cq cu Zg (ET.cast (AS B.gs (hr.mono (by decide)) xf (AH (ev 2) AB) ⟨n,qs,rfl,wq.wn,rfl⟩) (by rw[hsh])) (AS B.gs (hr.mono (by decide)) xf (AH (ev 0) AB) ⟨n,ps,rfl,wn,rfl⟩)) fun _=>EW.cast (Cp (x:=false) (y:=false) (EB.cast (Ed (AS B.gm hr xf (AH (ev 2) AB) ⟨n,qs,rfl,wq,rfl⟩) (AS B.gm hr xf (AH (ev 0) AB) ⟨n,ps,rfl,wr,rfl⟩)) (by rw[hmn,decide_eq_true rfl];rfl)) fun _=>CI (Nd hu1 To JQ Zh (ET.cast (AS B.ge (hr.mono (by decide)) xf (AH (ev 2) AB) ⟨n,qs,rfl,wq.wn,n0,rfl⟩) (by rw[hev])) (AS B.ge (hr.mono (by decide)) xf (AH (ev 0) AB) ⟨n,ps,rfl,wn,n0,rfl⟩))) rfl) rfl)) (fun h=>by cases h) fun _=>Ab ?_)
  refine AD (BI Ak.own rfl (EI.wi (Al B.tx.nRange (AZ (ev 0) AC) ⟨by omega,by omega⟩) ⟨fun j ρ' O'=>∃v3,ρ'=[some (Ar n ps),some (.tup (ns.map T.int)),some (Ar n qs),v3]∧O=O',⟨none,rfl,rfl⟩,?_,?_⟩))
  ·rintro j t _ _ e ⟨v3,rfl,rfl⟩
   obtain⟨hj,rfl⟩:=Az e
   rw[mW]
   have hj1:(j:Int)<n:=by omega
   have hs:=m.ts (j:Int) (by omega) hj1
   obtain⟨z,ez⟩:=iE hs.2.1
   have hnr:=m.near (u:=(j:Int)) (by omega) hj1
   have hnl2:=CM (qs:=ps) (i:=j)
   have hpl:=wn.hl
   have hdl:(Af ps j).length≤16:=by
    rw[BR wn.hw]
    have:=Gr.Ek (n:=n) (Oi wn.hw wr.hp (j:Int)) fun v hv=>Bx wn.hw _ v ((Be _ v).mp hv)
    omega
   refine⟨[some (Ar n ps),some (.tup (ns.map T.int)),some (Ar n qs),some (.int (j:Int))],AL 3 Tt.nd (by show 3<4;decide),?_⟩
   refine AG (Ae (k:=false) (Oz (ns:=Af qs z) hu1 (MM (ns:=(Af ps j).map (Cv ns)) B.tx.nSorted (by rw[BR wn.hw];exact hnr.1) (by rw[c9];omega) (FN wq.wn.hw wq.hp) (fun v=>?_) (ET.cast (BJ ["_law_near"] [("_law_names",1)] (Af ps j) T.int (fun v=> .int (Cv ns v)) rfl (BU (AA SY) cw (by decide+kernel)) (Bl (AS B.gn hr xf (AH (ev 0) (AH (ev 3) AB)) ⟨n,ps,j,rfl,wn,hj1,rfl⟩)) (by omega) fun v hv=> ⟨[some (.int v),some (.tup (ns.map T.int))],fun X' Oe He is O'=>?_⟩) (by rw[i7];rfl))) (LW B.tx.nList (AS B.gn hr xf (AH (ev 2) (AH (t:=.int (z:Int)) (ET.cast (AZ (ev 1) (ev 3) (Cw (by omega) (by omega))) (by rw[ez])) AB)) ⟨n,qs,z,rfl,wq.wn,by omega,rfl⟩))) (fun h=>by cases h) fun _=>Ab ⟨_,rfl,rfl⟩)
   ·rw[BR wn.hw,BR wq.wn.hw,←hnr.2 v,ez]
   ·obtain⟨cl,s',H',fp,rfl⟩:=is
    have hb:=((EK wn.hw).mp hv).inb wn.hw
    exact⟨AL 0 dA (by decide),AZ (ev 1) (ev 0) (Cw hb.1 (by omega))⟩
  ·rintro _ _ ⟨v3,rfl,rfl⟩
   exact AG (AN (ET.we (ET.cast (Fn (x:=true) (y:=true) (ET.cast (Ox (GZ B.tx.nLen (Nc B.gp (hr.mono (by decide)) xf wq.wn (ev 2))) (GZ B.tx.nLen (Nc B.gp (hr.mono (by decide)) xf wn (ev 0)))) (by rw[c9,c9,m.pieces,decide_eq_true rfl])) fun _=>Fm (AS B.gw hr xf (AH (ev 2) AB) ⟨n,qs,rfl,wq,n1,rfl⟩)) rfl) q))
end
end K06
namespace K06
open PySem L2 L2.TL PySem.Spec PyProof.Rows
def fh(i:Nat):Stmt:=(BL Lo).getD i (.Pass ⟨0,0,0,0⟩)
def fL:Stmt→Expr
 | .For _ e _ _ _=>e
 |_=> .Constant .none 0 ⟨0,0,0,0⟩
def fM:Stmt→List Stmt
 | .For _ _ b _ _=>b
 |_=> []
def Tu:List Str:=["_law_script","_law_cell","_law_pen","_law_web","_law_counts","_law_alike"]
theorem JS:FnScope Tu ["_law_script"] (AA Lo):=by ac_rfl
theorem dB:(Ah ["_law_tie"] []).Nodup:=by decide+kernel
theorem dC:(Ah ["_law_place"] [(("_law_web" :Str),3)]).Nodup:=by decide+kernel
def Wv(cs:List Int):Bool:=cs.all fun c=>decide (c=cs.headD 0)
theorem Zj{cs:List Int}{N:Nat}(hl:cs.length=N):decide (cs=iQ N (cs.headD 0))=Wv cs:=by
 unfold Wv
 rw[jW,decide_eq_true_eq,jM]
 constructor
 ·intro h x hx
  rw[h] at hx
  exact decide_eq_true (List.eq_of_mem_replicate hx)
 ·intro h
  exact List.eq_replicate_iff.mpr ⟨hl,fun x hx=>of_decide_eq_true (h x hx)⟩
theorem dD{cs:List Int}:ZT cs (cs.headD 0)=Wv cs∧CU (IX cs)=!Wv cs:=by
 unfold ZT IX
 by_cases c:Wv cs=true
 ·have c':cs.all (fun c=>decide (c=cs.headD 0))=true:=c
  rw[if_pos c',c]
  exact⟨by show((cs.headD 0:Int)==cs.headD 0)=true;simp,rfl⟩
 ·have c':¬cs.all (fun c=>decide (c=cs.headD 0))=true:=c
  rw[if_neg c',pz.mpr c]
  exact⟨rfl,rfl⟩
section
variable{P:Program}{w:World}{K:a8}{mg:Str→Option Value}{base:Heap}{f:Addr}{cdv:Value}{A:iC}{outer:List Env}{s:a9}{H:Hp}{E:XK}
abbrev zL(P:Program)(w:World)(K:a8)(mg:Str→Option Value)(base:Heap)(f:Addr)(cdv:Value)(A:iC)(outer:List Env)(s:a9)(H:Hp)(E:XK):Zx:=zB P w K mg base Tu "law" (AA Lo) f cdv A outer s H E Wg (fun _ _=>False)
structure Has(P:Program)(w:World)(K:a8)(mg:Str→Option Value)(base:Heap):Prop where
 tx:Txt mg
 gp:FnT P w K mg base "_law_pen_of" 1 ["_law_cell"] Wl
 gy:FnT P w K mg base "_law_web_by" 4 ["_law_pen","_law_most"] Of
 gn:FnT P w K mg base "_law_names_by" 3 ["_law_pen","_law_many"] EJ
 go:FnT P w K mg base "web_of" 3 ["many","things"] cb
 gr:FnT P w K mg base "near_of" 4 ["web","place"] WH
 gi:FnT P w K mg base "is_even_by" 3 ["web","number"] cN
 ge:FnT P w K mg base "even_by" 2 ["web"] Kb
 l1:FnT P w K mg base "_law_ring_right" 5 ["_law_web"] Ws
 l2:FnT P w K mg base "_law_pieces_right" 5 ["_law_web"] Wt
 l3:FnT P w K mg base "_law_named_right" 5 ["_law_web","_law_names"] Wu
def PC(K:a8):Sp:=fun vs H Q _=>∃(a:Addr) (ns:List Int),vs=[.ref a]∧Cz K H a (ns.map V.int)∧ns.length≤63∧∀H',Q (.bl true) H'
def fO:Bf:=fun t _=>t=.bl true
theorem Tv{ρ:List (Option T)}{a:Addr}{ns:List Int}{Φ:Bf}{fC:Addr}{fdC:iI}(hr:Room 5 (zL P w K mg base f cdv A outer s H E).X.A)(xf:XFly (zL P w K mg base f cdv A outer s H E).X (zL P w K mg base f cdv A outer s H E).W)(hS:Cz K H a (ns.map V.int))(hn:ns.length≤63)(hρ:ρ[0]?=some (some (.raw (.ref a))))
  (FC:FnOk P w K mg base (CXe P w) 1 fC fdC ["_law_script","_law_k"] (Hv K)) (mC:mg "_law_cell_at" =some (.ref fC)) (kC:lG K (.ref fC)=true) (bC:Binds K fdC ["_law_script","_law_k"] [])
  (k:∀ms:List Int,ms.length≤64→Φ (.lst (ms.map T.int)) Wg):HWE (zL P w K mg base f cdv A outer s H E) ρ Wg (fL (fh 0)) Φ:=by
 have sb:=AX
 refine⟨?_⟩
 refine GD Qm ?_
 refine Rf (CA (SE FC mC kC bC (hr.mono (by decide)) xf (AH (ev 0 hρ) (AH AC AB)) ?_))
 intro σ H1 vs Q as r acc
 obtain⟨v,u,rfl,r1,r2⟩:=r.two_inv
 cases r1.raw_inv
 cases r2.int_inv
 refine⟨a,ns,rfl,Wh as.fr.kp hS,fun c=>acc _ _ _ _ ?_ (.refl as.ok) (.int c)⟩
 refine Ap ⟨by show 1≤sizeLine;decide,?_⟩
 refine Yc rfl hS (ev 0 hρ) AC AC fun ms hm=>?_
 exact OT (ts:=[T.int c]) (us:=ms.map T.int) (by simp;omega) _ (k (c::ms) (by simp;omega))
theorem Tw{O:AJ}{v0 v2 v3 v4 v5:Option T}{c:Int}{Φ:Bf}{N Bk Ct:Jw}(B:Has P w K mg base)(hr:Room 5 (zL P w K mg base f cdv A outer s H E).X.A)(xf:XFly (zL P w K mg base f cdv A outer s H E).X (zL P w K mg base f cdv A outer s H E).W)
  (k:∀v2 v3 v4 v5 O',N [v0,some (.int c),v2,v3,v4,v5] O'):HS (zL P w K mg base f cdv A outer s H E) [v0,some (.int c),v2,v3,v4,v5] O (fM (fh 0)) {nx:=N,rt:=Φ,bk:=Bk,ct:=Ct}:=by
 have sb:=AX
 have hu:(zL P w K mg base f cdv A outer s H E).X.A.units+101<cLine:=by have:=hr.un;omega
 refine BP (AW 2 (Aj B.gp (hr.mono (by decide)) xf (EA.wa (AH (ev 1) AB) ⟨c,rfl,fun p xs hp px=>?_⟩)) JS.nd)
 refine BP (AW 3 (Aj B.gy (hr.mono (by decide)) xf (EA.wa (AH (ev 2) (AH AC AB)) ⟨p,xs,16,rfl,AF,px,by decide,by decide,fun n ps O1 n0 n1 hP pw hl po=>?_⟩)) JS.nd)
 have wr:=Td n0 n1 pw hP
 have wn:=wr.wn
 have hpl:=wn.hl
 refine BP (Ae (k:=false) (Nd hu Yd Pp (by rw[VD,decide_eq_true rfl,decide_eq_true rfl];rfl) (OM (t:=Ar n ps) B.go (hr.mono (by decide)) xf (AH (AZ (ev 3) AC) (AH (ET.cast (WD (BJ ["_law_tie"] [] ps AE (fun p=>AE (p.2,p.1)) rfl (BU (AA Lo) Tu (by decide+kernel)) (Bl (AZ (ev 3) AC)) (by omega) fun x hx=> ⟨[some (AE x)],fun X' Oe He is O'=>?_⟩)) (show _=T.lst ((ps.map fun p=> (p.2,p.1)).reverse.map AE) by rw[pR,i7];rfl)) AB)) fun Φ q=> ⟨n,(ps.map fun p=> (p.2,p.1)).reverse,rfl,n0,n1,by rw[kP,c9];omega,(fun x hx=>?_),fun qs q1 q2=>?_⟩) (ev 3)) (fun h=>by cases h) fun _=>Ab ?_)
 ·obtain⟨cl,s',H',fp,rfl⟩:=is
  exact⟨AL 0 dB (by decide),ET.cast (SA (ts:=[.int x.1,.int x.2]) (ev 0)) rfl⟩
 ·rw[nR] at hx
  obtain⟨y,hy,rfl⟩:=ig.mp hx
  have:=wn.hw y hy
  simp only
  omega
 ·have:qs=ps:=NZ q1 pw fun v=>by
   rw[q2,pR,nR,i7,ig]
   have e:∀y∈ps,(mm∘fun p:Int×Int=> (p.2,p.1)) y=y:=fun y hy=> (Sz wn.hw hy).2
   constructor
   ·rintro⟨y,hy,rfl⟩
    rw[e y hy]
    exact hy
   ·intro hv
    exact⟨v,hv,e v hv⟩
  rw[this]
  exact q
 have hcl:(Ac n ps).length=n.toNat:=by unfold Ac;rw[c9,jQ]
 refine BP (Hj (i:=4) (nc:=["_law_place"]) (cap:=[("_law_web",3)]) (by rfl) JS.nd rfl (BU (AA Lo) Tu (by decide+kernel)) (EI.wi (ts:=(iA n.toNat).map fun i=>T.int ((i:Nat):Int)) (EI.cast (Al B.tx.nRange (AZ (ev 3) AC) ⟨by omega,by omega⟩) (by unfold GO;simp)) (FF (iA n.toNat) (fun i=>T.int ((i:Nat):Int)) (fun i=>T.int (((Af ps i).map T.int).length:Int)) (by rw[jQ];omega) (fun x hx=> ⟨[some (.int (x:Int)),some (Ar n ps)],fun X' Oe He is O'=>?_⟩) ?_)))
 ·obtain⟨cl,s',H',fp,rfl⟩:=is
  have hx:=iM.mp hx
  exact⟨AL 0 dC (by decide),Du B.tx.nLen (AS B.gr (hr.mono (by decide)) BO (AH (ev 1) (AH (ev 0) AB)) ⟨n,ps,x,rfl,wn,by omega,rfl⟩)⟩
 rw[show(iA n.toNat).map (fun i=>T.int (((Af ps i).map T.int).length:Int))=(Ac n ps).map T.int from by
  unfold Ac
  rw[i7]
  apply l8
  intro i _
  show T.int _=T.int _
  rw[c9]]
 obtain⟨x,xs',hcs⟩:∃x xs',Ac n ps=x::xs':=by
  cases z:Ac n ps with
  |nil=>rw[z] at hcl;simp at hcl;omega
  |cons x xs'=>exact⟨x,xs',rfl⟩
 have hhd:(Ac n ps).headD 0=x:=by rw[hcs];rfl
 obtain⟨e1,e2⟩:=dD (cs:=Ac n ps)
 rw[hhd] at e1
 have hx0:0≤x∧x≤15:=by
  have hm:x∈Ac n ps:=by rw[hcs];simp
  unfold Ac at hm
  obtain⟨i,hi,rfl⟩:=ig.mp hm
  have hi:=iM.mp hi
  rw[BR wn.hw]
  have:=Gr.Ek (n:=n) (L:=(i:Int)::AR ps (i:Int)) (iT.mpr ⟨fun h=>ZR wn.hw _ ((Be _ _).mp h),Oi wn.hw wr.hp _⟩) fun z hz=>by
   rcases ic.mp hz with rfl|hz
   ·exact⟨by omega,by omega⟩
   ·exact Bx wn.hw _ z ((Be _ z).mp hz)
  rw[iw] at this
  omega
 refine BP (AW 5 (ET.we (t:=.bl (Wv (Ac n ps))) (ET.cast (Bb (KE hu) (Ai _) (Pq (t:=.lst ((Ac n ps).map T.int)) (u:=.lst ((iQ n.toNat x).map T.int)) Cy Cy II) (ev 4) (ET.cast (VL (t:=.int x) (ET.cast (Ye (ev 4) AC) (by rw[MG,hcs];rfl)) (AZ (ev 3) AC) ⟨by omega,by omega⟩) (by rw[List.map_replicate]))) (by
   show T.bl (mE (dTs ((Ac n ps).map T.int)) (dTs ((iQ n.toNat x).map T.int)))=_
   rw[IA,←hhd,Zj hcl])) ?_) JS.nd)
 refine BP (Ae (k:=false) (EW.eb (EW.cast (Cp (x:=false) (y:=false) (EB.cast (Rn (x:=Wv (Ac n ps)) (ET.cast (AS B.gi (hr.mono (by decide)) xf (AH (ev 3) (AH (t:=.int x) (DI (ev 4) AC (BE (j:=0) (by rw[hcs];rfl))) AB)) ⟨n,ps,x,rfl,wn,n0,hx0.1,hx0.2,rfl⟩) (by rw[e1])) (ev 5)) (by simp)) fun _=>CI (EB.cast (Bc Kq (Ai _) YF (Sx (by rcases ES (Ac n ps) with⟨d,e⟩|e<;> (rw[e];rfl)) (AS B.ge (hr.mono (by decide)) xf (AH (ev 3) AB) ⟨n,ps,rfl,wn,n0,rfl⟩)) (ev 5)) (by rw[e2];cases Wv (Ac n ps)<;>rfl))) rfl)) (fun h=>by cases h) fun _=>Ab ?_)
 refine BP (Ae (k:=false) (EW.eb (EW.cast (Cp (x:=false) (y:=false) (EB.cast (BF (k:=true) (CS (AS B.l1 hr xf (AH (ev 3) AB) ⟨n,ps,rfl,wr,n1,rfl⟩))) rfl) fun _=>CI (EB.cast (BF (k:=true) (CS (AS B.l2 hr xf (AH (ev 3) AB) ⟨n,ps,rfl,wr,n1,rfl⟩))) rfl)) rfl)) (fun h=>by cases h) fun _=>Ab ?_)
 obtain⟨ys,hy,py⟩:=po.at
 refine SG (Rq (Ro (LQ (Aj B.l3 hr xf (CA (ET.we (ev 3) (CA (Aj B.gn (hr.mono (by decide)) xf (EA.wa (AH (ev 2) (AH (AZ (ev 3) AC) AB)) ⟨p,ys,n,rfl,hy,py,by omega,by omega,fun ns xs' pm px'=>Ap ⟨.bl true,⟨n,ps,ns,rfl,wr,n1,pm,rfl⟩,true,rfl,?_⟩⟩)))))))))
 exact Qo (Ab (k _ _ _ _ _))
theorem Tz{a:Addr}{ns:List Int}{fC:Addr}{fdC:iI}(B:Has P w K mg base)(hr:Room 5 (zL P w K mg base f cdv A outer s H E).X.A)(xf:XFly (zL P w K mg base f cdv A outer s H E).X (zL P w K mg base f cdv A outer s H E).W)(hS:Cz K H a (ns.map V.int))(hn:ns.length≤63)
  (FC:FnOk P w K mg base (CXe P w) 1 fC fdC ["_law_script","_law_k"] (Hv K)) (mC:mg "_law_cell_at" =some (.ref fC)) (kC:lG K (.ref fC)=true) (bC:Binds K fdC ["_law_script","_law_k"] []):HS (zL P w K mg base f cdv A outer s H E) (Eh Tu [.raw (.ref a)]) Wg (BL Lo) {nx:=fun _ O'=>fO .non O',rt:=fO}:=by
 refine BP (VC Ak.own rfl (Tv hr xf hS hn rfl FC mC kC bC fun ms hm=> ⟨ms.map T.int,rfl,fun i ρ' O'=>∃v1 v2 v3 v4 v5,ρ'=[some (.raw (.ref a)),v1,v2,v3,v4,v5],⟨none,none,none,none,none,rfl⟩,?_,?_⟩) (by intro _;rfl))
 ·rintro i t _ O1 e ⟨v1,v2,v3,v4,v5,rfl⟩
  rw[e7] at e
  cases ec:ms[i]? with
  |none=>rw[ec] at e;cases e
  |some c=>
   rw[ec] at e
   cases e
   exact⟨[some (.raw (.ref a)),some (.int c),v2,v3,v4,v5],AL 1 JS.nd (by show 1<6;decide),Tw B hr xf fun _ _ _ _ _=> ⟨_,_,_,_,_,rfl⟩⟩
 ·rintro _ _ ⟨v1,v2,v3,v4,v5,rfl⟩
  exact SG (AN (ET.we Ra rfl))
theorem Zk{fd:iI}{fC:Addr}{fdC:iI}(F:Fun K "law" "law" Lo f fd)(B:Has P w K mg base)
  (FC:FnOk P w K mg base (CXe P w) 1 fC fdC ["_law_script","_law_k"] (Hv K)) (mC:mg "_law_cell_at" =some (.ref fC)) (kC:lG K (.ref fC)=true) (bC:Binds K fdC ["_law_script","_law_k"] []):
  FnOk P w K mg base (CXe P w) 6 f fd ["_law_script"] (PC K):=by
 refine bK F JS (fun vs H Q E h=>?_) (fun cdv A outer s H vs Q E hr h=>?_)
 ·obtain⟨a,ns,rfl,_⟩:=h
  rfl
 ·obtain⟨a,ns,rfl,hS,hn,k⟩:=h
  refine⟨[.raw (.ref a)],Wg,fO,fun _ _=>False,.cons (.raw _) .nil,SH,fun xf=>Tz B hr xf hS hn FC mC kC bC,fun v H' t O' p f r=>?_,fun cls O' H' z=>z.elim⟩
  have p:t=T.bl true:=p
  subst p
  cases r.bl_inv
  exact k H'
end
theorem Zl{P:Program}{w:World}{K:a8}{mg:Str→Option Value}{base:Heap}(G:FnT P w K mg base "fars_from" 1 ["nears","starts"] Gi):FnT P w K mg base "fars_from" 1 ["nears","starts"] NO:=by
 obtain⟨f,fd,h1,h2⟩:=G.ex
 refine⟨f,fd,h1.imp ?_,h2⟩
 rintro vs H Q E ⟨ts,O,Φ,Ξ,a,b,⟨n,ps,S,rfl,wn,hS,q⟩,d⟩
 refine⟨_,O,Φ,Ξ,a,b,⟨n,An n ps,S,by rw[EM],FQ wn,hS,fun fs al=>q fs ⟨al.len,fun v v0 v1 k=> (al.eq v v0 v1 k).trans ?_⟩⟩,d⟩
 have e:Rw (An n ps)=Gr.Adj ps:=funext fun u=>funext fun v=>propext (FP wn.hw)
 rw[e]
 exact GrR.ND.symm
theorem Zm{l:qg}{w:World}{K:a8}{h:Heap}{mg:Str→Option Value}{fa:Addr}{tMOST_PLACES tLEAST_RING:Tok}(X:K.In h)(G:h.Ns kg mg)(hfa:mg "law" =some (.ref fa))
  (H0:Fx K "is_whole" NJ) (H1:Fx K "need_number" KN) (H2:Fx K "is_rising" FW) (H3:Fx K "least_told" KP) (H4:Fx K "web_good" ZL) (H5:Fx K "ties_good" MI) (H6:Fx K "is_pair" Ot) (H7:Fx K "web_of" KS) (H8:Fx K "ties_of" FI) (H9:Fx K "is_place" NK) (H10:Fx K "need_place" SW) (H11:Fx K "are_tied" Ob) (H12:Fx K "nears_of" KO) (H13:Fx K "near_of" SX) (H14:Fx K "fars_from" JJ) (H15:Fx K "far_of" NL) (H16:Fx K "pieces_of" EF) (H17:Fx K "even_by" Oa) (H18:Fx K "is_even_by" Gd) (H19:Fx K "ring_good" Hu) (H20:Fx K "ring_by_tie" VV) (H21:Fx K "shortest" KQ) (H22:Fx K "shortest_rings_from" Yl) (H23:Fx K "rows_longer" VW) (H24:Fx K "first_ring" NM) (H25:Fx K "shortest_many" KR) (H26:Fx K "renamed" Cu) (H27:Fx K "_law_cell_at" Sa) (H28:Fx K "_law_next" Sb) (H29:Fx K "_law_pen_of" Yn) (H30:Fx K "_law_draw" Sd) (H31:Fx K "_law_named" Ft) (H32:Fx K "_law_names_by" FJ) (H33:Fx K "_law_turned" Ge) (H34:Fx K "_law_shape" Bv) (H35:Fx K "_law_web_by" DO) (H36:Fx K "_law_ring_right" Ym) (H37:Fx K "_law_pieces_right" Pz) (H38:Fx K "_law_named_right" SY) (H39:Fx K "law" Lo)
  (zint:Zn K "int") (zbool:Zn K "bool") (ztuple:Zn K "tuple") (zlist:Zn K "list") (zset:Zn K "set") (zrange:Zn K "range") (zisinstance:Zn K "isinstance") (zmax:Zn K "max") (zmin:Zn K "min") (zlen:Zn K "len") (zall:Zn K "all") (zsorted:Zn K "sorted") (zrepr:Zn K "repr") (zValueError:Zn K "ValueError") (zany:Zn K "any") (zenumerate:Zn K "enumerate") (zzip:Zn K "zip") (zsum:Zn K "sum") (vMOST_PLACES:mR K kg "MOST_PLACES" =some (some (.int 16 tMOST_PLACES))) (vLEAST_RING:mR K kg "LEAST_RING" =some (some (.int 3 tLEAST_RING)))
  :∃fd:iI,(∀(s:a9) (v:Value),rS s fd ⟨[v],[]⟩ [("_law_script",v)])∧∀base:Heap,K.In base→base.Ns kg mg→FnOk l.prog w K mg base (CXe l.prog w) 6 fa fd ["_law_script"] (PC K):=by
 obtain⟨f0,d0,h0⟩:=H0
 obtain⟨f1,d1,h1⟩:=H1
 obtain⟨f2,d2,h2⟩:=H2
 obtain⟨f3,d3,h3⟩:=H3
 obtain⟨f4,d4,h4⟩:=H4
 obtain⟨f5,d5,h5⟩:=H5
 obtain⟨f6,d6,h6⟩:=H6
 obtain⟨f7,d7,h7⟩:=H7
 obtain⟨f8,d8,h8⟩:=H8
 obtain⟨f9,d9,h9⟩:=H9
 obtain⟨f10,d10,h10⟩:=H10
 obtain⟨f11,d11,h11⟩:=H11
 obtain⟨f12,d12,h12⟩:=H12
 obtain⟨f13,d13,h13⟩:=H13
 obtain⟨f14,d14,h14⟩:=H14
 obtain⟨f15,d15,h15⟩:=H15
 obtain⟨f16,d16,h16⟩:=H16
 obtain⟨f17,d17,h17⟩:=H17
 obtain⟨f18,d18,h18⟩:=H18
 obtain⟨f19,d19,h19⟩:=H19
 obtain⟨f20,d20,h20⟩:=H20
 obtain⟨f21,d21,h21⟩:=H21
 obtain⟨f22,d22,h22⟩:=H22
 obtain⟨f23,d23,h23⟩:=H23
 obtain⟨f24,d24,h24⟩:=H24
 obtain⟨f25,d25,h25⟩:=H25
 obtain⟨f26,d26,h26⟩:=H26
 obtain⟨f27,d27,h27⟩:=H27
 obtain⟨f28,d28,h28⟩:=H28
 obtain⟨f29,d29,h29⟩:=H29
 obtain⟨f30,d30,h30⟩:=H30
 obtain⟨f31,d31,h31⟩:=H31
 obtain⟨f32,d32,h32⟩:=H32
 obtain⟨f33,d33,h33⟩:=H33
 obtain⟨f34,d34,h34⟩:=H34
 obtain⟨f35,d35,h35⟩:=H35
 obtain⟨f36,d36,h36⟩:=H36
 obtain⟨f37,d37,h37⟩:=H37
 obtain⟨f38,d38,h38⟩:=H38
 obtain⟨f39,d39,h39⟩:=H39
 have e:=hfa.symm.trans (PySem.W.mg_of X G h39.a)
 cases e
 have mm:∀{x:Str} {v:Value},mR K kg x=some (some v)→mg x=some v:=fun e=>PySem.W.mg_of X G e
 have nn:∀{x:Str},Zn K x→mg x=none:=fun e=>PySem.W.mg_none_of X G e
 have Tx:Txt mg:=⟨nn zint,nn zbool,nn ztuple,nn zlist,nn zset,nn zrange,nn zisinstance,nn zmax,nn zmin,nn zlen,nn zall,nn zsorted,nn zrepr,nn zValueError,nn zany,nn zenumerate,⟨tMOST_PLACES,mm vMOST_PLACES⟩,nn zzip,nn zsum,⟨tLEAST_RING,mm vLEAST_RING⟩⟩
 refine⟨d39,fun s v=>?_,fun base _ _=>?_⟩
 ·obtain⟨⟨_,_,_,_,_,_,_,_,_,rfl,_⟩,_⟩:=h39.F
  exact .of_eq rfl
 have M:Mg l.prog w K mg base:=⟨mm⟩
 have G0:=h0.t M (SZ h0.F Tx) (h0.b3 rfl fun _ _ _ _ _ _ _ _ _=>rfl)
 have G1:=h1.t M (cM h1.F G0) (h1.b3 rfl fun _ _ _ _ _ _ _ _ _=>rfl)
 have G2:=h2.t M (cR h2.F Tx) (h2.b1 rfl fun _ _ _ _ _ _ _=>rfl)
 have G3:=h3.t M (Su h3.F Tx) (h3.b1 rfl fun _ _ _ _ _ _ _=>rfl)
 have G6:=h6.t M (cP h6.F Tx G0) (h6.b2 rfl fun _ _ _ _ _ _ _ _=>rfl)
 have G5:=h5.t M (cT h5.F Tx G6 (G2.mono (by decide))) (h5.b2 rfl fun _ _ _ _ _ _ _ _=>rfl)
 have G4:=h4.t M (cV h4.F Tx (G0.mono (by decide)) G5) (h4.b1 rfl fun _ _ _ _ _ _ _=>rfl)
 have G8:=h8.t M (FnOk.mono (k:=2) (NV h8.F Tx) (by decide)) (h8.b1 rfl fun _ _ _ _ _ _ _=>rfl)
 have G7:=h7.t M (cf h7.F Tx G0 G6 G8) (h7.b2 rfl fun _ _ _ _ _ _ _ _=>rfl)
 have G9:=h9.t M (Sj h9.F G0) (h9.b2 rfl fun _ _ _ _ _ _ _ _=>rfl)
 have G10:=h10.t M (cI h10.F G9) (h10.b2 rfl fun _ _ _ _ _ _ _ _=>rfl)
 have G11:=h11.t M (Vh h11.F Tx) (h11.b3 rfl fun _ _ _ _ _ _ _ _ _=>rfl)
 have G12:=h12.t M (Sk h12.F Tx) (h12.b1 rfl fun _ _ _ _ _ _ _=>rfl)
 have G13:=h13.t M (cJ h13.F Tx G10 G12) (h13.b2 rfl fun _ _ _ _ _ _ _ _=>rfl)
 have G14:=h14.t M (So h14.F) (h14.b2 rfl fun _ _ _ _ _ _ _ _=>rfl)
 have A14:=Zl G14
 have G15:=h15.t M (cK h15.F G10 G12 A14) (h15.b3 rfl fun _ _ _ _ _ _ _ _ _=>rfl)
 have G16:=h16.t M (QL h16.F Tx G12 A14) (h16.b1 rfl fun _ _ _ _ _ _ _=>rfl)
 have G17:=h17.t M (Vg h17.F Tx G12) (h17.b1 rfl fun _ _ _ _ _ _ _=>rfl)
 have G18:=h18.t M (cO h18.F Tx G1 G17) (h18.b2 rfl fun _ _ _ _ _ _ _ _=>rfl)
 have G19:=h19.t M (cX h19.F Tx G9 G11) (h19.b2 rfl fun _ _ _ _ _ _ _ _=>rfl)
 have G20:=h20.t M (Yy h20.F Tx G14) (h20.b3 rfl fun _ _ _ _ _ _ _ _ _=>rfl)
 have G21:=h21.t M (TF h21.F G12 G20 G3) (h21.b1 rfl fun _ _ _ _ _ _ _=>rfl)
 have G23:=h23.t M (ZA h23.F) (h23.b4 rfl fun _ _ _ _ _ _ _ _ _ _=>rfl)
 have G22:=h22.t M (ZE h22.F Tx G14 G23) (h22.b3 rfl fun _ _ _ _ _ _ _ _ _=>rfl)
 have G24:=h24.t M (TK h24.F Tx G21 G12 G22) (h24.b1 rfl fun _ _ _ _ _ _ _=>rfl)
 have G25:=h25.t M (TN h25.F Tx G21 G12 G22) (h25.b1 rfl fun _ _ _ _ _ _ _=>rfl)
 have G26:=h26.t M (cZ h26.F Tx G9 G8) (h26.b2 rfl fun _ _ _ _ _ _ _ _=>rfl)
 have W27:FnOk l.prog w K mg base (CXe l.prog w) 1 f27 _ _ (Hv K):=VY h27.F Tx
 have G28:=h28.t M (VZ h28.F) (h28.b1 rfl fun _ _ _ _ _ _ _=>rfl)
 have G29:=h29.t M (Yp h29.F Tx) (h29.b1 rfl fun _ _ _ _ _ _ _=>rfl)
 have G30:=h30.t M (Va h30.F G28) (h30.b2 rfl fun _ _ _ _ _ _ _ _=>rfl)
 have G31:=h31.t M (Sh h31.F Tx) (h31.b2 rfl fun _ _ _ _ _ _ _ _=>rfl)
 have G32:=h32.t M (Lp h32.F Tx G30) (h32.b2 rfl fun _ _ _ _ _ _ _ _=>rfl)
 have G33:=h33.t M (QA h33.F Tx) (h33.b2 rfl fun _ _ _ _ _ _ _ _=>rfl)
 have G34:=h34.t M (TY h34.F Tx G30 G33) (h34.b2 rfl fun _ _ _ _ _ _ _ _=>rfl)
 have G35:=h35.t M (QB h35.F Tx G30 G34 G31 G32) (h35.b2 rfl fun _ _ _ _ _ _ _ _=>rfl)
 have G36:=h36.t M (Zc h36.F Tx G24 G21 G25 G19 G15) (h36.b1 rfl fun _ _ _ _ _ _ _=>rfl)
 have G37:=h37.t M (Zf h37.F Tx G16 G15 G13) (h37.b1 rfl fun _ _ _ _ _ _ _=>rfl)
 have G38:=h38.t M (Zi h38.F ⟨Tx,G26,G21,G25,G17,G13,G16,G4⟩) (h38.b2 rfl fun _ _ _ _ _ _ _ _=>rfl)
 exact Zk h39.F ⟨Tx,G29,G35,G32,G7,G13,G18,G17,G36,G37,G38⟩ W27 (mm h27.a) h27.F.kp (h27.b2 rfl fun _ _ _ _ _ _ _ _=>rfl)
theorem walk{l:qg}{q:Program}{loose:List Str}{XP:(Str→Option Value)→Heap→Prop}{YP:World→Heap→Prop}{d:DefRec}{K:Params→a8}(hn:l.most=some 63)(hdf:d.params.defaults=[])
  (hY:∀(w:World) (h:Heap),YP w h→(K w.params).In h)
  (F:∀(w:World) (mg:Str→Option Value) (fa:Addr) (h:Heap),(K w.params).In h→h.Ns kg mg→mg d.name=some (.ref fa)→
   ∃fd:iI,(∀(s:a9) (u:Value),rS s fd ⟨[u],[]⟩ [("_law_script",u)])∧∀base:Heap,(K w.params).In base→base.Ns kg mg→FnOk l.prog w (K w.params) mg base (CXe l.prog w) 6 fa fd ["_law_script"] (PC (K w.params))):
  PySem.W.WalkO q loose XP YP l.row.toRowW d [] (fun f vs=>PySem.call f vs):=
 L2.UR (n:=63) (k:=6) (x:="_law_script") (CX:=fun w=>CXe l.prog w) (sp:=fun w=>PC (K w.params)) hn (by decide) hdf ⟨rfl,by decide,by decide,rfl⟩ hY F (fun _ _ a ns hl _ hS=> ⟨a,ns,rfl,hS,hl,fun _=>rfl⟩) fun _ _ _ _ _ z=>z.never
end K06
open PySem PySem.W PyProof.Rows
set_option maxRecDepth 100000 in
set_option maxHeartbeats 0 in
theorem PySem.Challenge.cw_noshortring_k06_whole_rings_holds : PySem.Challenge.rw_noshortring_k06_whole_rings.Holds := by
 w_on;o_law
 refine PySem.W.holds_open (q:=K06.kq) (loose:=[]) (Xt:=fun s=>rL K06.kq [] s&&qU [] s) (XP:=PySem.W.XL K06.kq []) (Yf:=fun s=>K06.ka.map s.heap.get?) (Ya:=fun w=> (K06.Kk w.params).map fun(p:Addr×Obj)=>some p.2) (YP:=se K06.Kk) (N:=4244) K06.left (se.of fun _=>by kernel_rfl) se.keeps (fun s e=>xl_of s (Bool.and_eq_true_iff.mp e).1) XL.keeps (by rfl) (by rfl) (by rfl) (fun s e=>recFacts_of (Bool.and_eq_true_iff.mp e).2) (by rfl) (by first|assumption|decide+kernel) (by first|k_qdec|decide+kernel) ⟨rfl,rfl,rfl,rfl,rfl,by decide+kernel⟩ ?hw ?hc
 (case hw=>w_witness2)
 k_fill
 refine K06.walk (l:=PySem.Challenge.rw_noshortring_k06_whole_rings) rfl rfl (fun w h Y=>Y) ?F
 case F=>
  intro w mg fa h KX G hmg
  refine' K06.Zm KX G hmg ?H0 ?H1 ?H2 ?H3 ?H4 ?H5 ?H6 ?H7 ?H8 ?H9 ?H10 ?H11 ?H12 ?H13 ?H14 ?H15 ?H16 ?H17 ?H18 ?H19 ?H20 ?H21 ?H22 ?H23 ?H24 ?H25 ?H26 ?H27 ?H28 ?H29 ?H30 ?H31 ?H32 ?H33 ?H34 ?H35 ?H36 ?H37 ?H38 ?H39 ?zint ?zbool ?ztuple ?zlist ?zset ?zrange ?zisinstance ?zmax ?zmin ?zlen ?zall ?zsorted ?zrepr ?zValueError ?zany ?zenumerate ?zzip ?zsum ?vMOST_PLACES ?vLEAST_RING
  case H0|H1|H2|H3|H4|H5|H6|H7|H8|H9|H10|H11|H12|H13|H14|H15|H16|H17|H18|H19|H20|H21|H22|H23|H24|H25|H26|H27|H28|H29|H30|H31|H32|H33|H34|H35|H36|H37|H38|H39=> (refine' L2.TL.fi ?a ?l ?q ?k;(case a=>k_is);(case l=>k_is);(case q=>k_is);(case k=>k_is))
  case zint|zbool|ztuple|zlist|zset|zrange|zisinstance|zmax|zmin|zlen|zall|zsorted|zrepr|zValueError|zany|zenumerate|zzip|zsum=> (delta L2.TL.Zn;k_is)
  case vMOST_PLACES=>k_is
  case vLEAST_RING=>k_is
