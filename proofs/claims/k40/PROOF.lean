import PyProof.Rows.All
import Wide.All
import OpenK.AllK
import Wide.FinOn
import Lean
import PyProof.EqAt
import PyProof.EqKinds
import PyProof.TupleCall
import PySem.Challenge.RW_noshortring_k40_kinds_counted
noncomputable section
open Array renaming length_toList→i8,getElem?_toList→kJ,getElem?_eq_some_iff→lg,toList_extract→lI,toList_reverse→l4,toList_append→nL,toList_push→oa,ext'→o8,getD→ql,size_map→rz,toList_map→r9,replicate→sL
open Bool renaming false_ne_true→e8,false_eq_true→j9,and_eq_true→ki,not_eq_true'→mw,eq_iff_iff→nu,not_true→pE,true_and→qu,not_false→rj,not_eq_false'→rm,and_false→rq
open Classical renaming byContradiction→mQ
open False renaming elim→lG
open ForInStep renaming yield→nr
open Int renaming eq_ofNat_of_zero_le→kM,toNat_natCast→lC,toNat_of_nonneg→nK,le_of_lt→nM,le_refl→nP,emod_lt_of_pos→nV,le_trans→n8,emod_nonneg→oH,le_total→qM,le_antisymm→sJ,zero_add→t9,toNat→ub
open List renaming length_map→b9,getElem?_map→i6,mem_of_getElem?→i7,getElem?_eq_some_iff→jn,range→jr,mem_cons_of_mem→jt,mem_cons→ju,getElem?_eq_getElem→jv,mem_map→jw,size_toArray→jy,mem_singleton→jz,replicate→j0,mem_cons_self→j4,getElem?_set_ne→j7,length_append→j8,map_cons→kg,mem_append→kj,map_append→kl,length_cons→km,length_range→kr,getElem?_append_right→ku,mem_range→ky,all_eq_true→kA,getElem?_set_self→kB,length_take→kH,map_map→kI,nodup_iff_pairwise_ne→kP,pairwise_iff_getElem→kW,getElem?_append_left→kX,extract_eq_drop_take→kY,mem_append_right→k8,getD_eq_getElem?_getD→k9,lookup_cons→lh,getElem?_of_mem→lj,append_assoc→lz,Pairwise→lD,take_add_one→lM,ext_getElem?→lN,length_filter_le→lO,take_length→lQ,mem_filter→lR,filterMap_cons→lT,pairwise_map→lY,mem_append_left→lZ,not_mem_nil→mi,length_replicate→ml,getElem?_eq_none→mn,getElem?_replicate→mx,nodup_cons→mE,getElem_mem→mJ,take_append_drop→mU,perm_append_comm→mV,append_nil→mX,getElem?_drop→mY,pairwise_singleton→mZ,length_drop→m8,drop_eq_getElem_cons→ny,mem_filterMap→nA,Perm→nB,length_set→nJ,reverse_cons→nZ,nodup_append→n6,getElem?_take_of_lt→oj,getElem_of_mem→ou,flatMap_append→ow,getElem?_cons_succ→oA,pairwise_cons→oG,getElem?_toArray→oO,take_succ→oX,mem_of_mem_take→oY,map_nil→pj,getElem?_range→pq,length_eq_zero_iff→pS,take_of_length_le→p8,length_pos_of_mem→p9,mem_flatMap→qj,getElem_map→qk,pairwise_append→qz,mem_of_mem_drop→qA,range_zero→qD,of_mem_zip→qE,mem_map_of_mem→qH,map_set→qL,getD→qP,take_zero→rf,getElem?_take→rg,find?_eq_none→rh,filter_cons→rY,countP_cons→rZ,toArray→sq,forIn_cons→sI,nodup_nil→sZ,map_id→tj,all_cons→tM,foldl→uw
open List.Pairwise renaming imp_of_mem→lS,map→rK
open List.Perm renaming append_left→qb
open Nat renaming le_refl→jm,ne_of_lt→ke,lt_of_lt_of_le→kh,le_trans→kO,zero_le→kZ,lt_irrefl→lH,lt_succ_of_lt→mq,lt_trichotomy→nj,le_of_lt→nq,lt_succ_self→nQ,zero_add→ph,not_lt_zero→pI,ne_of_gt→p7,le_of_not_lt→qi,lt_trans→qK,lt_of_le_of_lt→qZ,le_of_succ_le→rJ,succ_pos→sj,strongRecOn→sH,add_assoc→tL,mod_lt→tQ,succ_add→t8
open Option renaming some→lu,isSome_iff_exists→pD,isSome→qr
open Or renaming inl→nv,inr→nW
open Prod renaming ext→mz,fst→ni,mk→uK
open Prod.mk renaming injEq→rO
open PyProof.Rows renaming wpS_bind→i9,wpS_pure→jq,SortSt→kG,slot_tuple_getitem→kQ,seqObj→lp,wpS_forRange→lA,wpS_mono→mO,envOfC→nI,failedOf→oz,wpS_modify→oC,callWith_type1→oT,IntsAre→oU,SortKind→oW,wpS_get→pF,subscriptTail_builtinR→pX,wpS_lift→qv,get?_update_seq→qC,entry_tuple_getitem→qF,AllBare→qN,slicePart_none→qR,setPending→qS,assignInOrder_cons→qV,args_tuple_getitem→qW,listUpdate_at→rL,entry_list_sort→sC,slot_list_sort→sN,seqEpoch_at→sO,args_list_sort→sT,minRun'→tq,tupleItemsOf_→tE,subscriptTail→tF,plain_sorted→tR,entry_sorted→tU,args_sorted1→t4,kind_sorted→ud,tuples'→uh
open PyProof.Rows.F renaming plain_set_update_loop→kN,entry_set_update_loop→mT
open PyProof.Rows.SortSt renaming mk'→qX
open PySem renaming wpAny_bind→a9,wpAny_pure→b8,starEach→i5,Spec→jx,FuncData→j5,Around→j6,wpAny_holding→ko,bootBuiltins→kS,assignEach→kU,SetTable→lr,sizeLine_eq→lB,mainGlobals→lE,wpAny_newObj_type→lK,wpAny_setState_of→lV,foldedSetIterable→lW,compareOp→l5,wpAny_call_entry→mG,cellsFrom→mH,backTo→mS,codeAny_builtin→mW,wpAny_pyNext_list_item→ng,wpAny_mono→nz,binaryOp→nE,wpAny_truthy_bool→nF,wpAny_callSpecial?_slot→nG,plainId_quiet→nN,wpAny_Call_Name_kw→nT,wpAny_passesOwn→nX,codeAny_call_builtin→nY,wpAny_rule→og,Builtin→oi,mem_of_lookup→oq,codeAny_mono→oD,codeAny→oF,wpAny_standAt→oI,attributeBase→oJ,wpAny_pyNext_list_end→oN,wpAny_pyIter_list→oQ,wpAny_eqBool_int→o9,swapsWith→pe,pyNext→pk,wpAny_attempt→pA,wpAny_execs_nil→pG,wpAny_call→pJ,sysModules→pK,sliceBounds→pP,keywordEach→pQ,wpAny_typeOf→pT,wpAny_tryCatch→pU,wpAny_storeSet_of→pV,wpAny_seqItems→pW,wpAny_askSetting→qc,PassesOwn→qh,wpAny_newList→qm,swapsWithSole→qo,swappedStores→qp,Keyword→qt,wpAny_field→qw,letOwnedTupleGo→qB,pickOrder→qO,wpAny_setField_rec→qQ,intKind_is→qT,call_meets→qU,wpAny_sequenceKey→rA,wpAny_of_eq→rB,ofAClassStatement→rC,getItem→rE,wpAny_forIn_list→rP,noFill_tuple_add→rR,checkBuiltinCall→rS,backToKw→rT,valueAt→sd,setAddHashed→se,rawInt→sf,argBest→sh,IsPart→sr,wpAny_updateSeq→su,wpAny_specialOf→sv,wpAny_letGo→sM,recursionLimit→sP,pyIter→sQ,newFunctionEnv→sR,isSubtype_type→sS,Operator→sY,pushCells→tm,callerA→tu,BindsTo→tD,seq_tuple_add→tH,evalPart_none→tI,frameOf→tJ,setEntries→tN,builtinsNs→tO,Result→tP,entryPlaceOf→tV,concat_meets→tY,compEnvC→tZ,Within→t5,noteFrame→ua,seqIndex_of→uc,reprText→uk,callWith→ur,Fin→uE
open PySem.Around renaming under_plainId→mD
open PySem.Builtin renaming bitXor→oB
open PySem.Builtin.List renaming listTooLong→om
open PySem.Builtin.Slice renaming sliceAdjust→lP,slicePlaces→l7,sliceApplied→o7
open PySem.Builtin.Tuple renaming tupleExact→mj,tupleItemsOf→oZ
open PySem.Challenge renaming pw_noshortring_k40_kinds_counted→kz
open PySem.EntryCells renaming newEntry→qI
open PySem.F renaming plainAttrs_list→nH,plain_min_loop→nS,args_tuple_add_2→pC,called_set→pN,entry_tuple_add→pR,slot_tuple_add→pZ,entry_min_loop→r8
open PySem.Heap renaming get?_push_of_some→c9,lt_size→jo,get?_push_size→kb,size_push→lU,get?_update_other→mM,SameBut→nD,FlyingW→n9,get?_update_self→oP,get?_update_ne→pz,ExtBut→ug
open PySem.Heap.SameBut renaming update→oy
open PySem.NameKind renaming cell→oM
open PySem.Obj renaming mapSeq→mB,putSet→pO
open PySem.PyData renaming depthAll→lL,eqv→my,eqvAll→nO,strOk→p0,weight→rN,weightAll→rX
open PySem.SeqAt renaming EqAt→l8
open PySem.SetTable renaming insertAt→mP,runEnd→oV,tooFull→qg,fill→qq,sizeAbove→rQ
open PySem.SetTable.below renaming go→uu
open PySem.SetTable.probe renaming go→qx
open PySem.Str renaming ofString→qJ
open PySem.Value renaming none→nU,type→oh,str→qd,bool→qf,float→ue
open PySem.W renaming Frag→a8,kitOne→js,keepIn→lF,openGood→lJ,kitCls→mf,kia_one→mh,mroIn→m9,findIn→nh,nsIn→nC,hideAll_get→ot,Looks→oK,fnOf→pf,excIn→pB,hideAll→pH,of_hideAll→pM,cellsFrom_some→pY,looks_findIn→qy,looks_mroIn→qG,callWith_K→qY,specialIn→rF,methodObj→rG,clsIn→rM,plainGet→rV,kat_cons→rW,takesIn→sD,kat_yes→sE,instObj→sF,OpenLaw→sG,lookIn→sU,kat_no→sV,kat_go→sW,codeIn→sX,KatTups→tB,recOk→tK,xlAt→t7,InK→uf
open PySem.W.Fast renaming te14364793385576792824→lX,tw4187177175401517315→md,te4187177175401517315→me
open PySem.pickOrder renaming go→tT
open Sum renaming inr→oR,inl→si
open True renaming intro→pL
set_option Elab.async false
set_option linter.all false
set_option maxRecDepth 100000
namespace L2
open PySem PySem.Spec PyProof.Rows
noncomputable abbrev FZ:=Sum Int Str
noncomputable def Nl:FZ→Value→Bool
 | .inl k,v=>Value.isInt k v
 | .inr x,v=>Value.isStrOf x v
noncomputable def fM(w:World):FZ→Int
 | .inl k=>hashInt k
 | .inr x=>hashStr w x
theorem Aw:∀{k:FZ} {v:Value},Nl k v=true→(∃i t,k=si i∧v=Value.int i t)∨(∃x t,k=oR x∧v=qd x t)
 | .inl i,v,h=>by
  obtain⟨t,e⟩:=Value.isInt_shape (k:=i) (v:=v) h
  exact .inl ⟨i,t,rfl,e⟩
 | .inr x,v,h=>by
  obtain⟨t,e⟩:=Value.isStrOf_shape (x:=x) (v:=v) h
  exact .inr ⟨x,t,rfl,e⟩
theorem PY(x:Str)(t:Tok):Nl (.inr x) (.str x t)=true:=by simp[Nl,Value.isStrOf]
theorem YM(a b:Int):decide ((si a:FZ)=si b)=(a==b):=by
 by_cases e:a=b
 ·subst e;simp
 ·have h:¬(si a:FZ)=si b:=fun q=>e (si.inj q)
  rw[decide_eq_false h]
  exact(beq_eq_false_iff_ne.mpr e).symm
theorem YN(a b:Str):decide ((oR a:FZ)=oR b)=decide (a=b):=by
 by_cases e:a=b
 ·subst e;simp
 ·have h:¬(oR a:FZ)=oR b:=fun q=>e (oR.inj q)
  rw[decide_eq_false h,decide_eq_false e]
theorem YO(a:Int)(b:Str):decide ((si a:FZ)=oR b)=false:=decide_eq_false (fun q=>nomatch q)
theorem YQ(a:Str)(b:Int):decide ((oR a:FZ)=si b)=false:=decide_eq_false (fun q=>nomatch q)
noncomputable def Bh(prog:Program)(w:World):PySem.KeyKind prog w FZ where
 is:=Nl
 hash:=fM w
 inj:=fun v a b ha hb=>by
  rcases Aw ha with⟨i,t,rfl,rfl⟩| ⟨x,t,rfl,rfl⟩
  ·rcases Aw hb with⟨j,u,rfl,e⟩| ⟨y,u,rfl,e⟩
   ·injection e with e1 _;rw[e1]
   ·exact nomatch e
  ·rcases Aw hb with⟨j,u,rfl,e⟩| ⟨y,u,rfl,e⟩
   ·exact nomatch e
   ·injection e with e1 _;rw[e1]
 byValue:=fun k v h=>by
  rcases Aw h with⟨i,t,rfl,rfl⟩| ⟨x,t,rfl,rfl⟩<;>rfl
 pyHash:=fun hv h=>by
  rcases Aw hv with⟨i,t,rfl,rfl⟩| ⟨x,t,rfl,rfl⟩
  ·exact wpAny_pyHash_int h
  ·exact wpAny_pyHash_str h
 eqBool:=fun hu hv h=>by
  rcases Aw hu with⟨i,t,rfl,rfl⟩| ⟨x,t,rfl,rfl⟩
  ·rcases Aw hv with⟨j,u,rfl,rfl⟩| ⟨y,u,rfl,rfl⟩
   ·rw[YM] at h;exact o9 h
   ·rw[YO] at h;exact l8.int_str i t y u _ _ _ _ h
  ·rcases Aw hv with⟨j,u,rfl,rfl⟩| ⟨y,u,rfl,rfl⟩
   ·rw[YQ] at h;exact l8.str_int x t j u _ _ _ _ h
   ·rw[YN] at h;exact wpAny_eqBool_str h
 «strs»:=fun k x t v h=>by
  rcases Aw h with⟨i,u,rfl,e⟩| ⟨y,u,rfl,e⟩
  ·exact nomatch e
  ·injection e with e1 _
   subst e1
   cases v<;>rfl
theorem Dg(prog:Program)(w:World)(x:Str)(t:Tok):(Bh prog w).is (.inr x) (.str x t)=true:=PY x t
inductive V where
 |non|bl (b:Bool)|int (i:Int)|str (x:Str)|byt (b:Array UInt8)|flt (b:UInt64)|ref (a:Addr)|ty (n:String)
 deriving DecidableEq
noncomputable def RelV:V→Value→Prop
 | .non,u=>u=nU
 | .bl b,u=>u=qf b
 | .int i,u=>∃t,u=Value.int i t
 | .str x,u=>∃t,u=qd x t
 | .byt b,u=>∃t,u=Value.bytes b t
 | .flt b,u=>∃t,u=ue b t
 | .ref a,u=>u=Value.ref a
 | .ty n,u=>u=oh n
noncomputable abbrev Vals:List V→List Value→Prop:=Paired RelV
theorem Vals.length(r:Vals xs us):xs.length=us.length:=Paired.length r
theorem Vals.get:∀{xs:List V} {us:List Value} {i:Nat} {x:V},Vals xs us→xs[i]?=some x→∃u,us[i]?=some u∧RelV x u
 |_,_,_,_,.nil,e=>by simp at e
 |_,_,0,_,.cons r _,e=>by simp at e;subst e;exact⟨_,rfl,r⟩
 |_,_,i+1,x,.cons _ t,e=>by
  obtain⟨u,h1,h2⟩:=Vals.get (i:=i) (x:=x) t (by simpa using e)
  exact⟨u,by simpa using h1,h2⟩
theorem Vals.set(r:RelV x u):∀{xs:List V} {us:List Value} (i:Nat),Vals xs us→Vals (xs.set i x) (us.set i u)
 |_,_,_,.nil=> .nil
 |_,_,0,.cons _ t=> .cons r t
 |_,_,i+1,.cons q t=> .cons q (Vals.set r i t)
theorem Vals.append:∀{xs ys:List V} {us ws:List Value},Vals xs us→Vals ys ws→Vals (xs++ys) (us++ws)
 |_,_,_,_,.nil,s=>s
 |_,_,_,_,.cons r t,s=> .cons r (Vals.append t s)
theorem Vals.take:∀{xs:List V} {us:List Value} (n:Nat),Vals xs us→Vals (xs.take n) (us.take n)
 |_,_,0,_=> .nil
 |_,_,_+1,.nil=> .nil
 |_,_,n+1,.cons r t=> .cons r (Vals.take n t)
theorem Vals.drop:∀{xs:List V} {us:List Value} (n:Nat),Vals xs us→Vals (xs.drop n) (us.drop n)
 |_,_,0,r=>r
 |_,_,_+1,.nil=> .nil
 |_,_,n+1,.cons _ t=>Vals.drop n t
noncomputable def RelO:Option V→Option Value→Prop
 |some v,some u=>RelV v u
 |none,none=>True
 |_,_=>False
noncomputable def KV:List (κ×V)→List (κ×Value)→Prop:=Paired fun(p:κ×V) (q:κ×Value)=>p.1=q.1∧RelV p.2 q.2
noncomputable def kV:FZ→V
 | .inl i=> .int i
 | .inr x=> .str x
inductive HO where
 /-- a list -/
 | lst (xs:List V)
 /-- a tuple (never changes) -/
 | tup (xs:List V)
 /-- a dict whose keys are ints and texts; one whose keys are tuples of ints and texts (the empty one is both) -/
 | dK (kvs:List (FZ × V)) | dT (kvs:List (List FZ × V))
 /-- a set of ints: its members,its size -/
 | set (S:Int→Bool) (n:Nat)
 /-- an instance of the class at C,its dict at dx,its attributes -/
 | ins (C dx:Addr) (fs:List (Str × V))
 /-- the dict of the instance at x -/
 | own (x:Addr)
 /-- the dict of an exception -/
 | xd (fs:List (Str × V))
 /-- a bound method,f of x -/
 | met (f x:Addr)
 /-- a range object lo,lo + 1,.. below hi -/
 | rng (lo hi:Int)
 /-- a thing that is known to the object (the script; a dict while a loop walks it): read,never written while it is so -/
 | frz (o:Obj) (u:HO)
 /-- a code object's table -/
 | tbl (ps:Array Value)
 /-- any other thing,by what is true of its one object (a def of one's own: SetO a S n:=HO.ext fun h => ..) -/
 | ext (φ:Heap→Prop)
noncomputable abbrev Hp:=Addr→Option HO
noncomputable def upd(H:Hp)(a:Addr)(o:HO):Hp:=fun b=>if b=a then some o else H b
theorem AL:upd H a o a=some o:=by unfold upd;rw[if_pos rfl]
theorem AR(h:b≠a):upd H a o b=H b:=by unfold upd;rw[if_neg h]
theorem AW{H:Hp}(h:H a=some o)(h':H b=none):a≠b:=by
 intro e;subst e;rw[h] at h';cases h'
section
variable (P:Program) (w:World)
noncomputable def ObjOk(H:Hp)(h:Heap)(a:Addr):HO→Prop
 | .lst xs=>xs.length≤sizeLine∧∃(its:List Value) (n:Nat),Vals xs its∧h.get? a=some {cls:=.type "list",data:=.seq its.toArray n}
 | .tup xs=>xs.length≤sizeLine∧∃its:List Value,Vals xs its∧IsTup h a its.toArray
 | .dK kvs=>kvs.length≤sizeLine∧(a==pK)=false∧∃vs,KV kvs vs∧h.DictOf (Bh P w) a vs
 | .dT kvs=>kvs.length≤sizeLine∧(a==pK)=false∧∃xs:List (List FZ×Addr×Value),
   Paired (fun(p:List FZ×V) (q:List FZ×Addr×Value)=>p.1=q.1∧H q.2.1=some (.tup (p.1.map kV))∧RelV p.2 q.2.2) kvs xs∧
   ∃o es ep,h.get? a=some o∧o.ExactDict∧o.data=.dict es ep∧es.toList=xs.map (entryOfKey (tupleKind (Bh P w)))∧(xs.map (·.1)).Nodup
 | .set S n=>h.SetOf (intKind P w) a S n
 | .ins C dx fs=>H dx=some (.own a)∧fs.length≤1000∧dx≠a∧h.get? a=some (sF C dx)∧
   ∃mA,h.Ns1 dx mA∧(∀f,RelO (fs.lookup f) (mA f))∧t5 mA (fs.map (·.1))
 | .own _=>∃o,h.get? a=some o
 | .xd fs=>∃mA,h.Ns1 a mA∧∀f,RelO (fs.lookup f) (mA f)
 | .rng lo hi=>∃t u v,h.get? a=some {cls:=.type "range",data:=.fields #[.int lo t,.int hi u,.int 1 v]}
 | .frz o u=>h.get? a=some o∧ObjOk H h a u
 | .tbl ps=>h.get? a=some {cls:=.none,data:=.fields ps}
 | .met f x=>h.get? a=some (rG (.ref f) (.ref x))
 | .ext φ=>φ h∧(∃o,h.get? a=some o)∧∀h1 h2:Heap,φ h1→(∀o,h1.get? a=some o→h2.get? a=some o)→φ h2
noncomputable def HOk(H:Hp)(h:Heap):Prop:=∀a o,H a=some o→ObjOk P w H h a o
end
section
variable {P:Program} {w:World} {H:Hp} {h:Heap} {a:Addr}
theorem ObjOk.lt(x:ObjOk P w H h a o):a<h.objs.size:=by
 cases o with
 |lst xs=>obtain⟨_,_,_,_,e⟩:=x;exact jo e
 |tup xs=>obtain⟨_,_,_,p⟩:=x;exact p.lt
 |dK kvs=>obtain⟨_,_,_,_,o,_,_,e,_⟩:=x;exact jo e
 |dT kvs=>obtain⟨_,_,_,_,o,_,_,e,_⟩:=x;exact jo e
 |set S n=>obtain⟨o,_,_,_,e,_⟩:=x;exact jo e
 |ins C dx fs=>obtain⟨_,_,_,e,_⟩:=x;exact jo e
 |own y=>obtain⟨_,e⟩:=x;exact jo e
 |xd fs=>obtain⟨_,⟨_,_,_,e,_⟩,_⟩:=x;exact jo e
 |rng lo hi=>obtain⟨_,_,_,e⟩:=x;exact jo e
 |frz ob u=>obtain⟨e,_⟩:=x;exact jo e
 |tbl ps=>exact jo (show h.get? a=some _ from x)
 |met f y=>exact jo (show h.get? a=some _ from x)
 |ext φ=>obtain⟨_,⟨_,e⟩,_⟩:=x;exact jo e
theorem Paired.mapP:∀{l₁:List α} {l₂:List β},Paired F l₁ l₂→(∀a b,F a b→G a b)→Paired G l₁ l₂
 |_,_,.nil,_=> .nil
 |_,_,.cons r t,f=> .cons (f _ _ r) (Paired.mapP t f)
theorem ObjOk.stay(x:ObjOk P w H h a o)(k:∀b u,(b=a∨H b=some (.own a))→h.get? b=some u→h'.get? b=some u)
  (ho:∀b,H b=some (.own a)→H' b=some (.own a)) (ht:∀b xs,H b=some (.tup xs)→H' b=some (.tup xs)):ObjOk P w H' h' a o:=by
 induction o with
 |lst xs=>obtain⟨z,its,n,r,e⟩:=x;exact⟨z,its,n,r,k _ _ (.inl rfl) e⟩
 |tup xs=>obtain⟨z,its,r,ob,e,c⟩:=x;exact⟨z,its,r,ob,k _ _ (.inl rfl) e,c⟩
 |dK kvs=>obtain⟨z,y,vs,r,ob,es,ep,e,c⟩:=x;exact⟨z,y,vs,r,ob,es,ep,k _ _ (.inl rfl) e,c⟩
 |dT kvs=>
  obtain⟨z,y,xs,r,ob,es,ep,e,c⟩:=x
  exact⟨z,y,xs,Paired.mapP r fun p q z=> ⟨z.1,ht _ _ z.2.1,z.2.2⟩,ob,es,ep,k _ _ (.inl rfl) e,c⟩
 |set S n=>obtain⟨ob,es,ep,t,e,c⟩:=x;exact⟨ob,es,ep,t,k _ _ (.inl rfl) e,c⟩
 |ins C dx fs=>
  obtain⟨d,z,ne,e,mA,⟨od,es,ep,e2,c⟩,r⟩:=x
  exact⟨ho _ d,z,ne,k _ _ (.inl rfl) e,mA,⟨od,es,ep,k _ _ (.inr d) e2,c⟩,r⟩
 |own y=>obtain⟨ob,e⟩:=x;exact⟨ob,k _ _ (.inl rfl) e⟩
 |xd fs=>obtain⟨mA,⟨od,es,ep,e,c⟩,r⟩:=x;exact⟨mA,⟨od,es,ep,k _ _ (.inl rfl) e,c⟩,r⟩
 |rng lo hi=>obtain⟨t,u,v,e⟩:=x;exact⟨t,u,v,k _ _ (.inl rfl) e⟩
 |frz ob u ih=>obtain⟨e,q⟩:=x;exact⟨k _ _ (.inl rfl) e,ih q⟩
 |tbl ps=>
  have e:h.get? a=some {cls:=.none,data:=.fields ps}:=x
  show h'.get? a=some {cls:=.none,data:=.fields ps}
  exact k a _ (.inl rfl) e
 |met f y=>
  have e:h.get? a=some (rG (.ref f) (.ref y)):=x
  show h'.get? a=some (rG (.ref f) (.ref y))
  exact k a _ (.inl rfl) e
 |ext φ=>obtain⟨p,⟨o,e⟩,st⟩:=x;exact⟨st _ _ p fun o q=>k _ _ (.inl rfl) q,⟨o,k _ _ (.inl rfl) e⟩,st⟩
theorem HOk.lt(x:HOk P w H h)(e:H a=some o):a<h.objs.size:=(x a o e).lt
theorem HOk.fresh(x:HOk P w H h)(e:h.objs.size≤a):H a=none:=by
 cases q:H a with
 |none=>rfl
 |some u=>exact absurd (kh (x.lt q) e) (lH _)
theorem HOk.kept(x:HOk P w H h)(k:∀b u,h.get? b=some u→h'.get? b=some u):HOk P w H h':=fun a o e=>
 (x a o e).stay (fun b u _ q=>k b u q) (fun _ q=>q) fun _ _ q=>q
theorem HOk.laid(x:HOk P w H h)(k:∀b u,h.get? b=some u→h'.get? b=some u)(hp:h.objs.size≤a)(new:ObjOk P w (upd H a o) h' a o):HOk P w (upd H a o) h':=fun b u e=>by
 have hn:=x.fresh hp
 by_cases hb:b=a
 ·subst hb;rw[AL] at e;cases e;exact new
 ·rw[AR hb] at e
  exact(x b u e).stay (fun c v _ q=>k c v q) (fun c q=>by rw[AR (AW q hn)];exact q) fun c xs q=>by rw[AR (AW q hn)];exact q
end
noncomputable def Rd(H:Hp)(a:Addr)(u:HO):Prop:=H a=some u∨∃o,H a=some (.frz o u)
theorem Rd.ok(r:Rd H a u)(x:HOk P w H h):ObjOk P w H h a u:=by
 rcases r with r| ⟨o,r⟩
 ·exact x a u r
 ·obtain⟨_,q⟩:=x a _ r
  exact q
noncomputable def et:Option HO→Prop
 |some (.lst _)=>True
 |some (.dK _)=>True
 |some (.dT _)=>True
 |some (.set _ _)=>True
 |some (.ins _ _ _)=>True
 |some (.ext _)=>True
 |_=>False
theorem HOk.write(ok:HOk P w H h)(mu:et (H x))(he:e=x∨H e=some (.own x))(k:∀b u,b≠e→h.get? b=some u→h'.get? b=some u)(heo:∃u,h'.get? e=some u)
  (new:ObjOk P w (upd H x o') h' x o'):HOk P w (upd H x o') h':=fun b u q=>by
 have nown:∀c y,H c=some (.own y)→c≠x:=fun c y r z=>by subst z;rw[r] at mu;exact mu
 have ntup:∀c xs,H c=some (.tup xs)→c≠x:=fun c xs r z=>by subst z;rw[r] at mu;exact mu
 by_cases hb:b=x
 ·subst hb;rw[AL] at q;cases q;exact new
 ·rw[AR hb] at q
  by_cases hbe:b=e
  ·have q':H b=some (.own x):=by
    rcases he with z|z
    ·exact absurd (hbe.trans z) hb
    ·rw[hbe];exact z
   rw[q] at q';cases q'
   obtain⟨v,hv⟩:=heo
   exact⟨v,by rw[hbe];exact hv⟩
  ·refine(ok b u q).stay (fun c v hc r=>k c v ?_ r) (fun c r=>by rw[AR (nown c b r)];exact r) fun c xs r=>by rw[AR (ntup c xs r)];exact r
   rcases hc with rfl|hc
   ·exact hbe
   ·rintro rfl
    rcases he with z|z
    ·exact nown c b hc z
    ·rw[hc] at z;cases z;exact hb rfl
structure Un(fs ex:List Addr)(H H':Hp)(h h':Heap):Prop where
 keep:∀b o,h.get? b=some o→H b=none→b∉fs→b∉ex→h'.get? b=some o
 slot:∀b o,h.get? b=some o→H b=none→b∈fs→b∉ex→∃sl,h'.get? b=some {o with slots:=sl}
 free:∀b o,h.get? b=some o→H b=none→b∉ex→H' b=none
 there:∀b o,h.get? b=some o→b∉ex→∃o',h'.get? b=some o'
 tups:∀b xs,H b=some (.tup xs)→H' b=some (.tup xs)
 frzs:∀b o u,H b=some (.frz o u)→H' b=some (.frz o u)
 tbls:∀b ps,H b=some (.tbl ps)→∃more,H' b=some (.tbl (ps++more))
section
variable {fs ex:List Addr} {H:Hp} {h:Heap} {a:Addr}
theorem Un.any(u:Un fs ex H H1 h h1)(q:h.get? b=some ob)(n:H b=none)(hx:b∉ex):∃sl,h1.get? b=some {ob with slots:=sl}:=by
 by_cases hb:b∈fs
 ·exact u.slot b ob q n hb hx
 ·exact⟨ob.slots,u.keep b ob q n hb hx⟩
theorem Un.kept(k:∀b u,h.get? b=some u→h'.get? b=some u):Un fs ex H H h h':=
 ⟨fun b ob q _ _ _=>k b ob q,fun b ob q _ _ _=> ⟨ob.slots,k b ob q⟩,fun _ _ _ n _=>n,fun b ob q _=> ⟨ob,k b ob q⟩,fun _ _ q=>q,fun _ _ _ q=>q,fun _ ps q=> ⟨#[],by rw[q];simp⟩⟩
theorem Un.refl:Un fs ex H H h h:=Un.kept fun _ _ q=>q
theorem Un.laid(k:∀b u,h.get? b=some u→h'.get? b=some u)(hp:h.objs.size≤a)(hn:H a=none):Un fs ex H (upd H a o) h h' where
 keep:=fun b u q _ _ _=>k b u q
 slot:=fun b u q _ _ _=> ⟨u.slots,k b u q⟩
 free:=fun b u q n _=>by rw[AR (ke (kh (jo q) hp))];exact n
 there:=fun b u q _=> ⟨u,k b u q⟩
 tups:=fun b xs q=>by rw[AR (AW q hn)];exact q
 frzs:=fun b u xs q=>by rw[AR (AW q hn)];exact q
 tbls:=fun b ps q=> ⟨#[],by rw[AR (AW q hn),q];simp⟩
theorem Un.write(mu:et (H x))(he:e=x∨H e=some (.own x))(k:∀b u,b≠e→h.get? b=some u→h'.get? b=some u)(heo:∃u,h'.get? e=some u):Un fs ex H (upd H x o) h h':=by
 have hx:∀b,H b=none→b≠x:=fun b n z=>by subst z;rw[n] at mu;exact mu
 have hb:∀b,H b=none→b≠e:=fun b n z=>by
  subst z
  rcases he with r|r
  ·exact hx b n r
  ·rw[n] at r;cases r
 have hm:∀b u,H b=some u→¬et (some u)→b≠x:=fun b u q nm z=>by subst z;rw[q] at mu;exact nm mu
 refine⟨fun b u q n _ _=>k b u (hb b n) q,fun b u q n _ _=> ⟨u.slots,k b u (hb b n) q⟩,fun b u q n _=>by rw[AR (hx b n)];exact n,fun b u q _=>?_,
  fun b xs q=>by rw[AR (hm b _ q fun z=>z)];exact q,fun b u xs q=>by rw[AR (hm b _ q fun z=>z)];exact q,fun b ps q=> ⟨#[],by rw[AR (hm b _ q fun z=>z),q];simp⟩⟩
 by_cases hbe:b=e
 ·subst hbe;exact heo
 ·exact⟨u,k b u hbe q⟩
end
noncomputable def eu(h:Heap)(H:Hp):List Addr:=(jr h.objs.size).filter fun a=> (H a).isSome
noncomputable def JI(h:Heap)(H:Hp):Heap:=pH h (eu h H)
theorem PZ(h:Heap)(H:Hp):(JI h H).objs.size=h.objs.size:=PySem.W.hideAll_size _ _
theorem Qp(e:h.get? b=some o)(n:H b=none):(JI h H).get? b=some o:=
 ot _ e fun hm=>by
  have q:(H b).isSome=true:=(lR.mp hm).2
  rw[n] at q;simp at q
theorem Us(e:(JI h H).get? b=some o):h.get? b=some o∧H b=none:=by
 have e':h.get? b=some o:=pM (eu h H) e
 refine⟨e',?_⟩
 cases q:H b with
 |none=>rfl
 |some x=>
  have hm:b∈eu h H:=lR.mpr ⟨ky.mpr (jo e'),by simp[q]⟩
  have z:(JI h H).get? b=none:=PySem.W.hideAll_none (eu h H) hm
  rw[z] at e;cases e
structure Mod(K:a8)(mg:Str→Option Value)(base:Heap):Prop where
 kin:K.In base
 glob:base.Ns lE mg
 blt:∃mb,base.Ns tO mb∧∀x:Str,x≠"__name__"→mb x=kS x
 nolimit:base.NoLimit
structure Cx where
 prog:Program
 w:World
 K:a8
 mg:Str→Option Value
 base:Heap
 A:j6
 N:List Str
 s₀:Shared
 H₀:Hp
 env:Env
 outer:List Env
 stack:List Env
 ex:List Addr
 fn:Str→Bool
 calm:Bool
 pn:List (Addr×Obj)
 xe:Value→Shared→Prop
noncomputable def Fb(l:List Env):List Addr:=l.filterMap (·.frame)
noncomputable abbrev Cx.fs(X:Cx):List Addr:=Fb X.outer
noncomputable def Ut(sc:Scope)(x:Str):Prop:=sc.names.lookup x=some .local∨sc.names.lookup x=some .cell∨sc.names.lookup x=some .free
noncomputable def IF(sc:Scope)(x:Str):Prop:=sc.names.lookup x=some .local∨sc.names.lookup x=some .cell
noncomputable def fO(env:Env)(h:Heap)(m:Str→Option Value)(x:Str)(u:Value):Prop:=
 (env.kindOf x=some .local∧m x=some u)∨((env.kindOf x=some .cell∨env.kindOf x=some .free)∧∃c,env.cells.lookup x=some c∧h.IsCell c (some u))
structure Cx.Ok(X:Cx):Prop where
 mod:Mod X.K X.mg X.base
 kind:X.env.scope.kind=.function
 glob:X.env.globals=lE
 blt:X.env.builtins=tO
 above:X.s₀.heap.objs.size≤X.env.locals
 inj:∀x y c,X.env.cells.lookup x=some c→X.env.cells.lookup y=some c→x=y
 has:∀x,(X.env.kindOf x=some .cell∨X.env.kindOf x=some .free)→∃c,X.env.cells.lookup x=some c
 cab:∀x c,X.fn x=true→X.env.cells.lookup x=some c→X.s₀.heap.objs.size≤c
 hd:X.calm=true→X.A.handled=none
 frames:X.A.frames=some X.stack
 stk:X.stack=X.outer∨(X.stack=X.env::X.outer∧X.env.frame=some X.env.locals)
 exf:∀b∈X.ex,b≠X.env.locals∧∀x c,X.env.cells.lookup x=some c→c≠b
 bs:∀b o,X.base.get? b=some o→X.s₀.heap.get? b=some o∧X.H₀ b=none
 bsz:X.base.objs.size≤X.s₀.heap.objs.size
 noex:∀b o,X.base.get? b=some o→b∉X.ex
 exfs:∀b∈X.ex,b∉X.fs
 funs:X.s₀.heap.FunFrames X.base X.outer
 frf:∀b∈X.fs,X.H₀ b=none
structure Inv(X:Cx)(pins:List (Addr×Obj))(σ:List (Option V))(H:Hp)(s:Shared):Prop where
 ok:X.Ok
 os:s.os=X.s₀.os
 bare:qN s.gens
 base:Un X.fs X.ex X.H₀ H X.s₀.heap s.heap
 loc:∃m,s.heap.Ns X.env.locals m∧∀(i:Nat) (x:Str) (v:V),X.N[i]?=some x→σ[i]?=some (some v)→Ut X.env.scope x→∃u,RelV v u∧fO X.env s.heap m x u
 cell:∀x c,X.env.cells.lookup x=some c→∃v,s.heap.IsCell c v
 free:H X.env.locals=none
 freeC:∀x c,X.env.cells.lookup x=some c→H c=none
 pin:∀p∈X.pn++pins,s.heap.get? p.1=some p.2∧H p.1=none∧p.1≠X.env.locals∧p.1∉X.fs∧∀v,p.2.data≠.cell v
 hok:HOk X.prog X.w H s.heap
 len:σ.length=X.N.length
section
variable {X:Cx}
theorem Cx.Ok.nofr(ok:X.Ok)(e:X.base.get? b=some o):b∉X.fs:=fun hb=>by
 have:=(ok.funs.mem hb).1
 rw[e] at this;cases this
theorem Inv.bs(I:Inv X pins σ H s):∀b o,X.base.get? b=some o→s.heap.get? b=some o∧H b=none:=fun b o e=>
 ⟨I.base.keep b o (I.ok.bs b o e).1 (I.ok.bs b o e).2 (I.ok.nofr e) (I.ok.noex b o e),I.base.free b o (I.ok.bs b o e).1 (I.ok.bs b o e).2 (I.ok.noex b o e)⟩
theorem Inv.bk(I:Inv X pins σ H s):∀b o,X.base.get? b=some o→s.heap.get? b=some o:=fun b o e=> (I.bs b o e).1
theorem Inv.mod(I:Inv X pins σ H s):Mod X.K X.mg X.base:=I.ok.mod
theorem Inv.kIn(I:Inv X pins σ H s):X.K.In s.heap:=I.ok.mod.kin.keeps I.bk
theorem Inv.lt(I:Inv X pins σ H s):X.env.locals<s.heap.objs.size:=let⟨_,hn,_⟩:=I.loc;hn.lt
theorem Inv.sz(I:Inv X pins σ H s):X.s₀.heap.objs.size≤s.heap.objs.size:=kO I.ok.above (nq I.lt)
theorem Inv.nofs(I:Inv X pins σ H s){a:Addr}(h:s.heap.objs.size≤a):a∉X.fs:=fun hb=>by
 obtain⟨_,o,ho,_⟩:=I.ok.funs.mem hb
 exact absurd (kh (jo ho) (kO I.sz h)) (lH _)
theorem Inv.cne(I:Inv X pins σ H s):∀x c,X.env.cells.lookup x=some c→c≠X.env.locals:=fun x c e z=>by
 obtain⟨v,o,ho,hd⟩:=I.cell x c e
 obtain⟨m,⟨o',es,ep,ho',hd',_⟩,_⟩:=I.loc
 rw[z,ho'] at ho;cases ho;rw[hd'] at hd;cases hd
theorem Inv.funs(I:Inv X pins σ H s):s.heap.FunFrames X.base X.outer:=by
 have all:∀(l:List Env),(∀b∈Fb l,b∈X.fs)→X.s₀.heap.FunFrames X.base l→s.heap.FunFrames X.base l:=by
  intro l
  induction l with
  |nil=>intro _ _;trivial
  |cons env r ih=>
   intro hs hl
   obtain⟨hk,⟨L,o,hf,hn,ho,hd⟩,hr⟩:=hl
   have hL:L∈X.fs:=hs L (by unfold Fb;rw[lT,hf];exact j4)
   obtain⟨sl,e⟩:=I.base.slot L o ho (I.ok.frf L hL) hL fun z=>I.ok.exfs L z hL
   exact⟨hk,⟨L,_,hf,hn,e,hd⟩,ih (fun b hb=>hs b (by unfold Fb;rw[lT,hf];exact jt _ hb)) hr⟩
 exact all X.outer (fun _ hb=>hb) I.ok.funs
theorem Inv.stack(I:Inv X pins σ H s):s.heap.FunFrames X.base X.stack:=by
 rcases I.ok.stk with e| ⟨e,hf⟩
 ·rw[e];exact I.funs
 ·rw[e]
  obtain⟨m,hn,_⟩:=I.loc
  refine .cons (by rw[I.ok.kind];decide) hf hn ?_ I.funs
  exact Heap.get?_none_of_le (kO I.ok.bsz I.ok.above)
theorem Inv.stkSub(I:Inv X pins σ H s):∀b∈Fb X.stack,b∈X.env.locals::X.fs:=fun b hb=>by
 rcases I.ok.stk with e| ⟨e,hf⟩
 ·rw[e] at hb;exact jt _ hb
 ·rw[e] at hb
  unfold Fb at hb
  rw[lT,hf] at hb
  exact hb
theorem Inv.stkFree(I:Inv X pins σ H s):∀b∈Fb X.stack,H b=none:=fun b hb=>by
 rcases ju.mp (I.stkSub b hb) with e|hb
 ·rw[e];exact I.free
 ·obtain⟨_,o,ho,_⟩:=I.ok.funs.mem hb
  exact I.base.free b o ho (I.ok.frf b hb) fun z=>I.ok.exfs b z hb
theorem Inv.step{ch:List Addr}(I:Inv X pins σ H s)
  (hch:∀b∈ch,(b∈X.ex∨X.s₀.heap.objs.size≤b)∧b≠X.env.locals∧(∀x c,X.env.cells.lookup x=some c→c≠b)∧∀p∈X.pn++pins,p.1≠b)
  (keep:∀b o,b≠X.env.locals→b∉X.fs→b∉ch→s.heap.get? b=some o→H b=none→h'.get? b=some o)
  (slot:∀b o,b≠X.env.locals→b∈X.fs→b∉ch→s.heap.get? b=some o→H b=none→∃sl,h'.get? b=some {o with slots:=sl}) (free:∀b o,b∉ch→s.heap.get? b=some o→H b=none→H' b=none)
  (there:∀b o,b∉ch→s.heap.get? b=some o→∃o',h'.get? b=some o')
  (tups:∀b xs,H b=some (.tup xs)→H' b=some (.tup xs)) (frzs:∀b o u,H b=some (.frz o u)→H' b=some (.frz o u)) (tbls:∀b ps,H b=some (.tbl ps)→∃more,H' b=some (.tbl (ps++more)))
  (ns:∀m,s.heap.Ns X.env.locals m→h'.Ns X.env.locals m) (hok:HOk X.prog X.w H' h') (hg:qN g'):
  Inv X pins σ H' {s with heap:=h',gens:=g',drawn:=d',toks:=t'}:=by
 have neL:∀b o,X.s₀.heap.get? b=some o→b≠X.env.locals:=fun b o e=>ke (kh (jo e) I.ok.above)
 have neC:∀b o,X.s₀.heap.get? b=some o→b∉X.ex→b∉ch:=fun b o e hx hb=>by
  rcases(hch b hb).1 with z|z
  ·exact hx z
  ·exact absurd (kh (jo e) z) (lH _)
 have cellK:∀x c,X.env.cells.lookup x=some c→∀v,s.heap.IsCell c v→h'.IsCell c v:=fun x c e v ⟨o,ho,hd⟩=>by
  have nch:c∉ch:=fun z=> (hch c z).2.2.1 x c e rfl
  by_cases hc:c∈X.fs
  ·obtain⟨sl,q⟩:=slot c o (I.cne x c e) hc nch ho (I.freeC x c e)
   exact⟨_,q,hd⟩
  ·exact⟨o,keep c o (I.cne x c e) hc nch ho (I.freeC x c e),hd⟩
 refine⟨I.ok,I.os,hg,⟨fun b o e n hb hx=>?_,fun b o e n hb hx=>?_,fun b o e n hx=>?_,fun b o e hx=>?_,fun b xs e=>tups b xs (I.base.tups b xs e),fun b o xs e=>frzs b o xs (I.base.frzs b o xs e),fun b ps e=>?_⟩,?_,fun x c e=>?_,?_,fun x c e=>?_,fun p hp=>?_,hok,I.len⟩
 ·exact keep b o (neL b o e) hb (neC b o e hx) (I.base.keep b o e n hb hx) (I.base.free b o e n hx)
 ·obtain⟨sl,e1⟩:=I.base.slot b o e n hb hx
  obtain⟨sl',e2⟩:=slot b _ (neL b o e) hb (neC b o e hx) e1 (I.base.free b o e n hx)
  exact⟨sl',e2⟩
 ·obtain⟨o',e1⟩:=I.base.there b o e hx
  exact free b o' (neC b o e hx) e1 (I.base.free b o e n hx)
 ·obtain⟨o',e1⟩:=I.base.there b o e hx
  exact there b o' (neC b o e hx) e1
 ·obtain⟨m1,e1⟩:=I.base.tbls b ps e
  obtain⟨m2,e2⟩:=tbls b _ e1
  exact⟨m1++m2,by rw[e2,Array.append_assoc]⟩
 ·obtain⟨m,hn,hl⟩:=I.loc
  refine⟨m,ns m hn,fun i x v e1 e2 e3=>?_⟩
  obtain⟨u,r,l⟩:=hl i x v e1 e2 e3
  refine⟨u,r,?_⟩
  rcases l with l| ⟨k,c,e,z⟩
  ·exact .inl l
  ·exact .inr ⟨k,c,e,cellK x c e _ z⟩
 ·obtain⟨v,z⟩:=I.cell x c e
  exact⟨v,cellK x c e v z⟩
 ·obtain⟨m,⟨o,_,_,ho,_⟩,_⟩:=I.loc
  exact free _ o (fun z=> (hch _ z).2.1 rfl) ho I.free
 ·obtain⟨v,o,ho,hd⟩:=I.cell x c e
  exact free c o (fun z=> (hch c z).2.2.1 x c e rfl) ho (I.freeC x c e)
 ·obtain⟨e,n,ne,nf,d⟩:=I.pin p hp
  have nch:p.1∉ch:=fun z=> (hch p.1 z).2.2.2 p hp rfl
  exact⟨keep p.1 p.2 ne nf nch e n,free p.1 p.2 nch e n,ne,nf,d⟩
theorem Inv.un(I:Inv X pins σ H s)(u:Un X.fs [] H H' s.heap h')(hok:HOk X.prog X.w H' h'):Inv X pins σ H' {s with heap:=h',toks:=t'}:=by
 obtain⟨m,⟨o,es,ep,ho,r⟩,_⟩:=id I.loc
 obtain⟨sl,hL⟩:=u.any ho I.free (by simp)
 exact I.step (g':=s.gens) (d':=s.drawn) (ch:=[]) (fun _ z=>nomatch z) (fun b o _ hb _ e n=>u.keep b o e n hb (by simp)) (fun b o _ hb _ e n=>u.slot b o e n hb (by simp)) (fun b o _ e n=>u.free b o e n (by simp)) (fun b o _ e=>u.there b o e (by simp)) u.tups u.frzs u.tbls (fun m' hm=>by
  obtain⟨o',es',ep',ho',r'⟩:=hm
  rw[ho] at ho';cases ho'
  exact⟨_,es',ep',hL,r'⟩) hok I.bare
theorem Inv.call(I:Inv X pins σ H s)(u:Un (Fb X.stack) ch H H' s.heap h')(hok:HOk X.prog X.w H' h')(hg:qN g')
  (hch:∀b∈ch,(b∈X.ex∨X.s₀.heap.objs.size≤b)∧b≠X.env.locals∧(∀x c,X.env.cells.lookup x=some c→c≠b)∧∀p∈X.pn++pins,p.1≠b):
  Inv X pins σ H' {s with heap:=h',gens:=g',drawn:=d',toks:=t'}:=by
 obtain⟨m,⟨o,es,ep,ho,r⟩,_⟩:=id I.loc
 obtain⟨sl,hL⟩:=u.any ho I.free fun z=> (hch _ z).2.1 rfl
 exact I.step (ch:=ch) hch (fun b o hL hb hc e n=>u.keep b o e n (fun z=> (ju.mp (I.stkSub b z)).elim hL hb) hc) (fun b o _ _ hc e n=>u.any e n hc) (fun b o hc e n=>u.free b o e n hc) (fun b o hc e=>u.there b o e hc) u.tups u.frzs u.tbls (fun m' hm=>by
  obtain⟨o',es',ep',ho',r'⟩:=hm
  rw[ho] at ho';cases ho'
  exact⟨_,es',ep',hL,r'⟩) hok hg
theorem Inv.turned(I:Inv X pins σ H s)(k:∀b o,b≠it→s.heap.get? b=some o→h'.get? b=some o)(hn:H it=none)(hL:it≠X.env.locals)
  (h1:it∈X.ex∨X.s₀.heap.objs.size≤it) (h2:∀x c,X.env.cells.lookup x=some c→c≠it) (h3:∀p∈X.pn++pins,p.1≠it):Inv X pins σ H {s with heap:=h',toks:=t'}:=by
 have nit:∀b u,H b=some u→b≠it:=fun b u e z=>by rw[z,hn] at e;cases e
 refine I.step (g':=s.gens) (d':=s.drawn) (ch:=[it]) (fun b hb=>?_) (fun b o _ _ hc e _=>k b o (fun z=>hc (by simp[z])) e) (fun b o _ _ hc e _=> ⟨o.slots,k b o (fun z=>hc (by simp[z])) e⟩) (fun _ _ _ _ n=>n)
  (fun b o hc e=> ⟨o,k b o (fun z=>hc (by simp[z])) e⟩) (fun _ _ e=>e) (fun _ _ _ e=>e) (fun b ps e=> ⟨#[],by rw[e];simp⟩) (fun m hm=>?_) (fun b u e=>?_) I.bare
 ·have e:b=it:=by simpa using hb
  subst e
  exact⟨h1,hL,h2,h3⟩
 ·obtain⟨o,es,ep,ho,r⟩:=hm
  exact⟨o,es,ep,k _ o (Ne.symm hL) ho,r⟩
 ·refine(I.hok b u e).stay (fun c v hc q=>k c v ?_ q) (fun _ q=>q) fun _ _ q=>q
  rcases hc with z|z
  ·rw[z];exact nit b u e
  ·exact nit c _ z
theorem Inv.tok(I:Inv X pins σ H s)(t:Nat):Inv X pins σ H {s with toks:=t}:=I.un (h':=s.heap) (t':=t) Un.refl I.hok
theorem Inv.kept(I:Inv X pins σ H s)(k:∀b u,s.heap.get? b=some u→h'.get? b=some u):Inv X pins σ H {s with heap:=h',toks:=t'}:=I.un (Un.kept k) (I.hok.kept k)
theorem Inv.laid{a:Addr}(I:Inv X pins σ H s)(k:∀b u,s.heap.get? b=some u→h'.get? b=some u)(hp:s.heap.objs.size≤a)(new:ObjOk X.prog X.w (upd H a o) h' a o):
  Inv X pins σ (upd H a o) {s with heap:=h',toks:=t'}:=I.un (Un.laid k hp (I.hok.fresh hp)) (I.hok.laid k hp new)
theorem Inv.write(I:Inv X pins σ H s)(mu:et (H x))(he:e=x∨H e=some (.own x))(k:∀b u,b≠e→s.heap.get? b=some u→h'.get? b=some u)(heo:∃u,h'.get? e=some u)
  (new:ObjOk X.prog X.w (upd H x o) h' x o):Inv X pins σ (upd H x o) {s with heap:=h',toks:=t'}:=I.un (Un.write mu he k heo) (I.hok.write mu he k heo new)
theorem Inv.weak(I:Inv X pins σ H s)(hl:σ'.length=σ.length)(w:∀(i:Nat) v,σ'[i]?=some (some v)→σ[i]?=some (some v)):Inv X pins σ' H s:=
 ⟨I.ok,I.os,I.bare,I.base,let⟨m,hn,hl'⟩:=I.loc;⟨m,hn,fun i x v e1 e2 e3=>hl' i x v e1 (w i v e2) e3⟩,I.cell,I.free,I.freeC,I.pin,I.hok,hl.trans I.len⟩
theorem Inv.pins_of(I:Inv X pins σ H s)(h:∀p∈pins',s.heap.get? p.1=some p.2∧H p.1=none∧p.1≠X.env.locals∧p.1∉X.fs∧∀v,p.2.data≠.cell v):Inv X pins' σ H s:=
 ⟨I.ok,I.os,I.bare,I.base,I.loc,I.cell,I.free,I.freeC,fun p hp=> (kj.mp hp).elim (fun z=>I.pin p (lZ _ z)) (h p),I.hok,I.len⟩
theorem Gi{N:List Str}(hN:N.Nodup){j:Nat}(a:N[i]?=some x)(b:N[j]?=some x):i=j:=by
 obtain⟨h1,e1⟩:=jn.mp a
 obtain⟨h2,e2⟩:=jn.mp b
 exact(List.getElem_inj hN).mp (e1.trans e2.symm)
theorem IX(I:Inv X pins σ H s)(hN:X.N.Nodup)(hi:X.N[i]?=some x)(hx:IF X.env.scope x)(r:RelV v u)
  (h:∀s',Inv X pins (σ.set i (some v)) H s'→(∃a,nD a s.heap s'.heap∧(a=X.env.locals∨X.env.cells.lookup x=some a))→Q () s') (hf:X.fn x=true∨X.env.scope.names.lookup x=some .local:=by first|exact .inl rfl|exact .inr rfl|assumption):wpAny M A (storeName X.env x u) Q E s:=by
 obtain⟨m,hn,hl⟩:=id I.loc
 have hcls:(X.env.scope.kind==.class|| (X.env.scope.kind==.module&&X.env.locals !=X.env.globals))=false:=by rw[I.ok.kind];rfl
 have hiσ:i<σ.length:=by rw[I.len];exact(jn.mp hi).1
 have cne:=I.cne
 have tracked:∀{a:Addr} {h':Heap},(∃o,s.heap.get? a=some o∧H a=none)→nD a s.heap h'→HOk X.prog X.w H h':=fun{a h'} ha hs b ob e=>by
  obtain⟨_,_,hfree⟩:=ha
  refine(I.hok b ob e).stay (fun c w' hc q=> (hs.2 c ?_).trans q) (fun _ q=>q) fun _ _ q=>q
  rintro rfl
  rcases hc with rfl|hc
  ·rw[hfree] at e;cases e
  ·rw[hfree] at hc;cases hc
 rcases hx with hk|hk
 ·refine wpAny_storeName_local hk hn (fun h' hn' hs=>?_) hcls
  obtain⟨oL,_,_,hoL,_⟩:=id hn
  refine h _ ⟨I.ok,I.os,I.bare,⟨fun b o e n hb hx=>?_,fun b o e n hb hx=>?_,I.base.free,fun b o e hx=>?_,I.base.tups,I.base.frzs,I.base.tbls⟩,⟨_,hn',fun j y v' e1 e2 e3=>?_⟩,fun y c e=>?_,I.free,I.freeC,fun p hp=>?_,tracked ⟨oL,hoL,I.free⟩ hs,by simpa using I.len⟩ ⟨_,hs,.inl rfl⟩
  ·exact(hs.2 b (ke (kh (jo e) I.ok.above))).trans (I.base.keep b o e n hb hx)
  ·obtain⟨sl,e1⟩:=I.base.slot b o e n hb hx
   exact⟨sl,(hs.2 b (ke (kh (jo e) I.ok.above))).trans e1⟩
  ·obtain⟨o',e1⟩:=I.base.there b o e hx
   exact⟨o',(hs.2 b (ke (kh (jo e) I.ok.above))).trans e1⟩
  ·by_cases hj:j=i
   ·subst hj
    rw[hi] at e1;cases e1
    rw[kB hiσ] at e2
    cases e2
    exact⟨u,r,.inl ⟨hk,by simp⟩⟩
   ·rw[j7 (Ne.symm hj)] at e2
    obtain⟨u',r',q⟩:=hl j y v' e1 e2 e3
    refine⟨u',r',?_⟩
    rcases q with⟨k,e⟩| ⟨k,c,e,z⟩
    ·refine .inl ⟨k,?_⟩
     have:y≠x:=fun e=>hj (Gi hN e1 (e▸hi))
     simp[this,e]
    ·exact .inr ⟨k,c,e,z.sameBut hs (cne y c e)⟩
  ·obtain⟨w',z⟩:=I.cell y c e
   exact⟨w',z.sameBut hs (cne y c e)⟩
  ·obtain⟨e,n,ne,nf,d⟩:=I.pin p hp
   exact⟨(hs.2 p.1 ne).trans e,n,ne,nf,d⟩
 ·have hfn:X.fn x=true:=by
   rcases hf with z|z
   ·exact z
   ·rw[z] at hk;cases hk
  obtain⟨c,hc⟩:=I.ok.has x (.inl hk)
  obtain⟨w',z⟩:=I.cell x c hc
  refine wpAny_storeName_cell I.ok.kind hk hc z (fun h' hc' hs=>?_)
  obtain⟨oc,hoc,hocd⟩:=id z
  refine h {s with heap:=h'} ⟨I.ok,I.os,I.bare,⟨fun b o e n hb hx=>?_,fun b o e n hb hx=>?_,I.base.free,fun b o e hx=>?_,I.base.tups,I.base.frzs,I.base.tbls⟩,⟨m,hn.sameBut hs (Ne.symm (cne x c hc)),fun j y v' e1 e2 e3=>?_⟩,fun y c' e=>?_,I.free,I.freeC,fun p hp=>?_,tracked ⟨oc,hoc,I.freeC x c hc⟩ hs,by simpa using I.len⟩ ⟨c,hs,.inr hc⟩
  ·exact(hs.2 b (ke (kh (jo e) (I.ok.cab x c hfn hc)))).trans (I.base.keep b o e n hb hx)
  ·obtain⟨sl,e1⟩:=I.base.slot b o e n hb hx
   exact⟨sl,(hs.2 b (ke (kh (jo e) (I.ok.cab x c hfn hc)))).trans e1⟩
  ·obtain⟨o',e1⟩:=I.base.there b o e hx
   exact⟨o',(hs.2 b (ke (kh (jo e) (I.ok.cab x c hfn hc)))).trans e1⟩
  ·by_cases hj:j=i
   ·subst hj
    rw[hi] at e1;cases e1
    rw[kB hiσ] at e2
    cases e2
    exact⟨u,r,.inr ⟨.inl hk,c,hc,hc'⟩⟩
   ·rw[j7 (Ne.symm hj)] at e2
    obtain⟨u',r',q⟩:=hl j y v' e1 e2 e3
    refine⟨u',r',?_⟩
    rcases q with q| ⟨k,c',e,z'⟩
    ·exact .inl q
    ·refine .inr ⟨k,c',e,z'.sameBut hs ?_⟩
     rintro rfl
     exact hj (Gi hN e1 (I.ok.inj _ _ _ e hc▸hi))
  ·by_cases hcc:c'=c
   ·subst hcc;exact⟨_,hc'⟩
   ·obtain⟨w2,z2⟩:=I.cell y c' e
    exact⟨w2,z2.sameBut hs hcc⟩
  ·obtain⟨e,n,ne,nf,d⟩:=I.pin p hp
   refine⟨(hs.2 p.1 ?_).trans e,n,ne,nf,d⟩
   intro q
   rw[q,hoc] at e
   have q':oc=p.2:=lu.inj e
   exact d w' (by rw[←q'];exact hocd)
theorem Cz(I:Inv X pins σ H s)(hN:X.N.Nodup)(hi:X.N[i]?=some x)(hx:IF X.env.scope x)(r:RelV v u)
  (h:∀s',Inv X pins (σ.set i (some v)) H s'→Q () s') (hf:X.fn x=true∨X.env.scope.names.lookup x=some .local:=by first|exact .inl rfl|exact .inr rfl|assumption):wpAny M A (storeName X.env x u) Q E s:=
 IX I hN hi hx r (fun s' I' _=>h s' I') hf
theorem Inv.call'(I:Inv X pins σ H s)(ho:s'.os=s.os)(u:Un (Fb X.stack) ch H H' s.heap s'.heap)(hok:HOk X.prog X.w H' s'.heap)(hg:qN s'.gens)
  (hch:∀b∈ch,(b∈X.ex∨X.s₀.heap.objs.size≤b)∧b≠X.env.locals∧(∀x c,X.env.cells.lookup x=some c→c≠b)∧∀p∈X.pn++pins,p.1≠b):Inv X pins σ H' s':=by
 obtain⟨h',g',d',t',o'⟩:=s'
 have e:o'=s.os:=ho
 subst e
 exact I.call (g':=g') (t':=t') (d':=d') u hok hg hch
end
noncomputable abbrev XK:=Value→Option Addr→Hp→Prop
noncomputable abbrev St:=List (Option V)
noncomputable abbrev VK:=V→Hp→Prop
noncomputable abbrev TE:=St→Hp→VK→Prop
noncomputable abbrev TT:=St→Hp→(Bool→Hp→Prop)→Prop
noncomputable abbrev TA:=St→Hp→(List V→Hp→Prop)→Prop
structure Ends where
 nx:St→Hp→Prop
 rt:VK
 bk:St→Hp→Prop:=fun _ _=>False
 ct:St→Hp→Prop:=fun _ _=>False
noncomputable abbrev TS:=Ends→St→Hp→Prop
noncomputable def EP(X:Cx)(pins:List (Addr×Obj))(σ:St)(Q:VK)(u:Value)(s':Shared):Prop:=∃v H',Inv X pins σ H' s'∧RelV v u∧Q v H'
noncomputable def TP(X:Cx)(pins:List (Addr×Obj))(σ:St)(Q:Bool→Hp→Prop)(b:Bool)(s':Shared):Prop:=∃H',Inv X pins σ H' s'∧Q b H'
noncomputable def AP(X:Cx)(pins:List (Addr×Obj))(σ:St)(Q:List V→Hp→Prop)(us:List Value)(s':Shared):Prop:=∃vs H',Inv X pins σ H' s'∧Vals vs us∧Q vs H'
noncomputable def SP(X:Cx)(pins:List (Addr×Obj))(D:Ends)(f:Flow)(s':Shared):Prop:=
 match f with
 | .next=>∃σ' H',Inv X pins σ' H' s'∧D.nx σ' H'
 | .brk=>∃σ' H',Inv X pins σ' H' s'∧D.bk σ' H'
 | .cont=>∃σ' H',Inv X pins σ' H' s'∧D.ct σ' H'
 | .ret u=>∃v σ' H',Inv X pins σ' H' s'∧RelV v u∧D.rt v H'
noncomputable def PE(X:Cx)(e:Expr)(t:TE):Prop:=
 ∀(pins:List (Addr×Obj)) (s:Shared) (σ:St) (H:Hp) (Q:VK),Inv X pins σ H s→t σ H Q→wpAny (model X.prog X.w) X.A (eval e X.env) (EP X pins σ Q) X.xe s
noncomputable def PT(X:Cx)(e:Expr)(t:TT):Prop:=
 ∀(pins:List (Addr×Obj)) (s:Shared) (σ:St) (H:Hp) (Q:Bool→Hp→Prop),Inv X pins σ H s→t σ H Q→wpAny (model X.prog X.w) X.A (isTrue e X.env (eval e X.env)) (TP X pins σ Q) X.xe s
noncomputable def PW(X:Cx)(e:Expr)(t:TT):Prop:=
 ∀(whole:Sem Value) (pins:List (Addr×Obj)) (s:Shared) (σ:St) (H:Hp) (Q:Bool→Hp→Prop),Inv X pins σ H s→t σ H Q→wpAny (model X.prog X.w) X.A (isTrue e X.env whole) (TP X pins σ Q) X.xe s
theorem PW.pt(h:PW X e t):PT X e t:=h _
noncomputable def PA(X:Cx)(es:List Expr)(t:TA):Prop:=
 ∀(pos:Pos) (pins:List (Addr×Obj)) (s:Shared) (σ:St) (H:Hp) (Q:List V→Hp→Prop),Inv X pins σ H s→t σ H Q→wpAny (model X.prog X.w) X.A (spliced (mS pos (i5 es X.env))) (AP X pins σ Q) X.xe s
noncomputable def PS(X:Cx)(st:Stmt)(t:TS):Prop:=
 ∀(pins:List (Addr×Obj)) (s:Shared) (σ:St) (H:Hp) (D:Ends),Inv X pins σ H s→t D σ H→wpAny (model X.prog X.w) X.A (exec st X.env) (SP X pins D) X.xe s
noncomputable def PSs(X:Cx)(st:List Stmt)(t:TS):Prop:=
 ∀(pins:List (Addr×Obj)) (s:Shared) (σ:St) (H:Hp) (D:Ends),Inv X pins σ H s→t D σ H→wpAny (model X.prog X.w) X.A (execs st X.env) (SP X pins D) X.xe s
theorem Az{Q':α→Shared→Prop}(h:wpAny M A t Q E s)(hQ:∀a s,Q a s→Q' a s):wpAny M A t Q' E s:=nz h hQ fun _ _ x=>x
section
variable {X:Cx}
noncomputable def bO(i:Nat):TE:=fun σ H Q=>∃v,σ[i]?=some (some v)∧Q v H
noncomputable def tC(v:V):TE:=fun _ H Q=>Q v H
theorem Qq{pos:Pos}(hN:X.N[i]?=some x)(hv:Ut X.env.scope x)(hd:(x==("__debug__" :Str))=false:=by decide)(hcd:(x==("__classdict__" :Str))=false:=by decide):PE X (.Name x pos) (bO i):=by
 intro pins s σ H Q I h
 obtain⟨v,e,h⟩:=h
 obtain⟨m,hn,hl⟩:=I.loc
 obtain⟨u,r,l⟩:=hl i x v hN e hv
 have fin:EP X pins σ Q u s:=⟨v,H,I,r,h⟩
 rcases l with⟨hk,hm⟩| ⟨hk,c,hc,hcell⟩
 ·exact wpAny_Name (wpAny_loadName_local I.ok.kind hk hn hm fin) hd
 ·rcases hk with hk|hk
  ·exact wpAny_Name (wpAny_loadName_cell I.ok.kind hk hc hcell fin) hd
  ·exact wpAny_Name (wpAny_loadName_free I.ok.kind hk hc hcell fin hcd) hd
theorem JJ:PE X (.Constant (.int i) j pos) (tC (.int i)):=fun _ _ _ H _ I h=>wpAny_Constant_int ⟨.int i,H,I.tok _,⟨_,rfl⟩,h⟩
theorem Qr:PE X (.Constant (.bool b) j pos) (tC (.bl b)):=fun _ _ _ H _ I h=>Constant_bool ⟨.bl b,H,I,rfl,h⟩
theorem YR:PE X (.Constant .none j pos) (tC .non):=fun _ _ _ H _ I h=>Constant_none ⟨.non,H,I,rfl,h⟩
theorem CK:PE X (.Constant (.str x) j pos) (tC (.str x)):=fun _ _ _ H _ I h=>Calls.Constant_str ⟨.str x,H,I.tok _,⟨_,rfl⟩,h⟩
noncomputable def Gl(X:Cx)(x:Str):Prop:=X.env.kindOf x=some .globalImplicit
theorem EC{σ:St}(I:Inv X pins σ H s)(hg:Gl X x)(hm:X.mg x=some u)(h:Q u s)
  (hd:(x==("__debug__" :Str))=false:=by decide):wpAny (model X.prog X.w) X.A (eval (.Name x pos) X.env) Q E s:=
 Calls.Name_function_global I.ok.kind hg (Calls.loadGlobal_global (by rw[I.ok.glob];exact I.mod.glob.keeps I.bk) hm h) hd
theorem Fc{E:Value→Shared→Prop}{σ:St}{pos:Pos}(I:Inv X pins σ H s)(hg:Gl X x)(hm:X.mg x=none)(hv:kS x=some u)(h:Q u s)
  (hn:x≠"__name__":=by decide) (hd:(x==("__debug__" :Str))=false:=by decide):wpAny (model X.prog X.w) X.A (eval (.Name x pos) X.env) Q E s:=by
 obtain⟨mb,h1,h2⟩:=I.mod.blt
 exact Calls.Name_function_global I.ok.kind hg (Calls.loadGlobal_builtin (by rw[I.ok.glob];exact I.mod.glob.keeps I.bk) hm (by rw[I.ok.blt];exact h1.keeps I.bk) ((h2 x hn).trans hv) h) hd
theorem By(hg:Gl X x)(hm:X.mg x=some u)(r:RelV v u)(hd:(x==("__debug__" :Str))=false:=by decide):PE X (.Name x pos) (tC v):=
 fun _ _ _ H _ I h=>EC I hg hm ⟨v,H,I,r,h⟩ hd
theorem Nm{pos:Pos}(hg:Gl X x)(hm:X.mg x=none)(hv:kS x=some u)(r:RelV v u)(hn:x≠"__name__":=by decide)(hd:(x==("__debug__" :Str))=false:=by decide):PE X (.Name x pos) (tC v):=
 fun _ _ _ H _ I h=>Fc I hg hm hv ⟨v,H,I,r,h⟩ hn hd
variable {ta tb:TE}
noncomputable def fP(t u:TT):TT:=fun σ H Q=>t σ H fun c H1=>if c=true then u σ H1 Q else Q false H1
noncomputable def ic(t u:TT):TT:=fun σ H Q=>t σ H fun c H1=>if c=true then Q true H1 else u σ H1 Q
noncomputable def fQ(t:TT):TT:=fun σ H Q=>t σ H fun c H1=>Q (!c) H1
theorem Uu(ha:PT X a tA):PW X (.BoolOp .And [a] pos) tA:=by
 intro wh pins s σ H Q I h
 refine isTrue_and (Az (ha pins s σ H Q I h) fun c s1 e=>?_)
 cases c with
 |true=>exact isTrue_and_nil e
 |false=>exact e
theorem Qs(ha:PT X a tA):PW X (.BoolOp .Or [a] pos) tA:=by
 intro wh pins s σ H Q I h
 refine isTrue_or (Az (ha pins s σ H Q I h) fun c s1 e=>?_)
 cases c with
 |false=>exact isTrue_or_nil e
 |true=>exact e
theorem YS(ha:PT X a tA)(hb:PW X (.BoolOp .And (b::rest) pos) tB'):PW X (.BoolOp .And (a::b::rest) pos) (fP tA tB'):=by
 intro wh pins s σ H Q I h
 refine isTrue_and (Az (ha pins s σ H _ I h) fun c s1 ⟨H1,I1,q1⟩=>?_)
 cases c with
 |true=>exact hb wh pins s1 σ H1 Q I1 q1
 |false=>exact⟨H1,I1,q1⟩
theorem XY(ha:PT X a tA)(hb:PW X (.BoolOp .Or (b::rest) pos) tB'):PW X (.BoolOp .Or (a::b::rest) pos) (ic tA tB'):=by
 intro wh pins s σ H Q I h
 refine isTrue_or (Az (ha pins s σ H _ I h) fun c s1 ⟨H1,I1,q1⟩=>?_)
 cases c with
 |true=>exact⟨H1,I1,q1⟩
 |false=>exact hb wh pins s1 σ H1 Q I1 q1
theorem Qt(ha:PT X a tA):PT X (.UnaryOp .Not a pos) (fQ tA):=by
 intro pins s σ H Q I h
 exact isTrue_not (ha pins s σ H (fun c H1=>Q (!c) H1) I h)
noncomputable def bP(ta tb:TE):TE:=fun σ H Q=>ta σ H fun x H1=>∃c,x=.bl c∧if c=true then tb σ H1 Q else Q (.bl false) H1
noncomputable def bQ(ta:TE):TE:=fun σ H Q=>ta σ H fun x H1=>∃c,x=.bl c∧Q (.bl (!c)) H1
theorem YT(h:PE X a t):PE X (.BoolOp op [a] pos) t:=fun pins s σ H Q I hw=>BoolOp_one (h pins s σ H Q I hw)
theorem YU(ha:PE X a ta)(hb:PE X (.BoolOp .And (b::rest) pos) tb):PE X (.BoolOp .And (a::b::rest) pos) (bP ta tb):=by
 intro pins s σ H Q I h
 refine BoolOp_and (Az (ha pins s σ H _ I h) fun v s1 ⟨x,H1,I1,r1,q1⟩=>?_)
 obtain⟨c,rfl,q1⟩:=q1
 cases r1
 refine nF ?_
 cases c with
 |true=>exact hb pins s1 σ H1 Q I1 q1
 |false=>exact⟨.bl false,H1,I1,rfl,q1⟩
theorem YV(ha:PE X a ta):PE X (.UnaryOp .Not a pos) (bQ ta):=by
 intro pins s σ H Q I h
 refine UnaryOp_ (Az (ha pins s σ H _ I h) fun v s1 ⟨x,H1,I1,r1,q1⟩=>?_)
 obtain⟨c,rfl,q1⟩:=q1
 cases r1
 exact not_of (nF ⟨.bl (!c),H1,I1,rfl,q1⟩)
noncomputable def ie(t:TT)(ta tb:TE):TE:=fun σ H Q=>t σ H fun c H1=>if c=true then ta σ H1 Q else tb σ H1 Q
theorem Qu(hc:PT X c tA)(ha:PE X a ta)(hb:PE X b tb):PE X (.IfExp c a b pos) (ie tA ta tb):=by
 intro pins s σ H Q I h
 refine wpAny_IfExp (Az (hc pins s σ H _ I h) fun d s1 ⟨H1,I1,q1⟩=>?_)
 cases d with
 |true=>exact ha pins s1 σ H1 Q I1 q1
 |false=>exact hb pins s1 σ H1 Q I1 q1
end
noncomputable def SqL(K:a8)(H:Hp)(a:Addr)(xs:List V):Prop:=
 Rd H a (.lst xs)∨
  ∃(o:Obj) (its:Array Value) (n:Nat),K.lookup a=some o∧o.cls=.type "list"∧o.dict=none∧o.data=.seq its n∧its.size≤sizeLine∧Vals xs its.toList
noncomputable def GG(K:a8)(H:Hp)(a:Addr)(xs:List V):Prop:=
 Rd H a (.tup xs)∨
  ∃(o:Obj) (its:Array Value) (n:Nat),K.lookup a=some o∧o.cls=.type "tuple"∧o.data=.seq its n∧its.size≤sizeLine∧Vals xs its.toList
noncomputable def fS:Value→Option V
 | .none=>some .non
 | .bool b=>some (.bl b)
 | .int i _=>some (.int i)
 | .str x _=>some (.str x)
 | .bytes b _=>some (.byt b)
 | .float b _=>some (.flt b)
 | .ref a=>some (.ref a)
 | .type n=>some (.ty n)
 |_=>none
theorem RelV.abs(r:RelV x u):fS u=some x:=by
 cases x with
 |non=>cases r;rfl
 |bl _=>cases r;rfl
 |int _=>obtain⟨t,rfl⟩:=r;rfl
 |str _=>obtain⟨t,rfl⟩:=r;rfl
 |byt _=>obtain⟨t,rfl⟩:=r;rfl
 |flt _=>obtain⟨t,rfl⟩:=r;rfl
 |ref _=>cases r;rfl
 |ty _=>cases r;rfl
theorem RelV.inj(r:RelV x u)(q:RelV y u):x=y:=lu.inj (r.abs.symm.trans q.abs)
theorem Vals.inj:∀{xs ys:List V} {us:List Value},Vals xs us→Vals ys us→xs=ys
 |_,_,_,.nil,.nil=>rfl
 |_,_,_,.cons r t,.cons r' t'=>by rw[r.inj r',Vals.inj t t']
section
variable {σ:St}
theorem SqL.of{K:a8}(h:H a=some (.lst xs)):SqL K H a xs:=.inl (.inl h)
theorem Inv.list(I:Inv X pins σ H s)(h:SqL X.K H a xs):∃its:List Value,Vals xs its∧PlainL s.heap a its.toArray∧xs.length≤sizeLine:=by
 rcases h with h| ⟨o,its,n,hk,hc,hd,hs,hz,r⟩
 ·obtain⟨z,its,n,r,e⟩:=h.ok I.hok
  exact⟨its,r,⟨_,n,e,rfl,rfl,rfl⟩,z⟩
 ·refine⟨its.toList,r,⟨o,n,I.kIn a o hk,hc,hd,by simpa using hs⟩,?_⟩
  have e:=r.length
  simp only[i8] at e
  omega
theorem Inv.tuple(I:Inv X pins σ H s)(h:GG X.K H a xs):∃its:List Value,Vals xs its∧IsTup s.heap a its.toArray∧xs.length≤sizeLine:=by
 rcases h with h| ⟨o,its,n,hk,hc,hs,hz,r⟩
 ·obtain⟨z,its,r,p⟩:=h.ok I.hok
  exact⟨its,r,p,z⟩
 ·refine⟨its.toList,r,⟨o,I.kIn a o hk,hc,n,by simpa using hs⟩,?_⟩
  have e:=r.length
  simp only[i8] at e
  omega
theorem Inv.list_inj(I:Inv X pins σ H s)(h:SqL X.K H a xs)(h':SqL X.K H a ys):xs=ys:=by
 obtain⟨its,r,⟨o,n,e,_,_,d⟩,_⟩:=I.list h
 obtain⟨its',r',⟨o',n',e',_,_,d'⟩,_⟩:=I.list h'
 rw[e] at e';cases e'
 rw[d] at d'
 injection d' with d1 _
 have:its=its':=by simpa using congrArg Array.toList d1
 subst this
 exact r.inj r'
theorem Inv.tuple_inj(I:Inv X pins σ H s)(h:GG X.K H a xs)(h':GG X.K H a ys):xs=ys:=by
 obtain⟨its,r,⟨o,e,_,n,d⟩,_⟩:=I.tuple h
 obtain⟨its',r',⟨o',e',_,n',d'⟩,_⟩:=I.tuple h'
 rw[e] at e';cases e'
 rw[d] at d'
 injection d' with d1 _
 have:its=its':=by simpa using congrArg Array.toList d1
 subst this
 exact r.inj r'
end
section
variable {X:Cx} {st:Stmt} {rest:List Stmt} {t u:TS} {te:TE}
noncomputable def bS:TS:=fun D σ H=>D.nx σ H
noncomputable def fT(t u:TS):TS:=fun D σ H=>t {D with nx:=u D} σ H
theorem Eo:PSs X [] bS:=fun _ _ σ H _ I h=>pG ⟨σ,H,I,h⟩
theorem Bj(h1:PS X st t)(h2:PSs X rest u):PSs X (st::rest) (fT t u):=by
 intro pins s σ H D I h
 refine wpAny_execs_cons (Az (h1 pins s σ H {D with nx:=u D} I h) fun f s1 q=>?_)
 cases f with
 |next=>
  obtain⟨σ',H',I',q⟩:=q
  exact h2 pins s1 σ' H' D I' q
 |ret v=>exact q
 |brk=>exact q
 |cont=>exact q
theorem Cg(h1:PS X st t):PSs X [st] t:=by
 intro pins s σ H D I h
 refine wpAny_execs_cons (Az (h1 pins s σ H D I h) fun f s1 q=>?_)
 cases f with
 |next=>exact pG q
 |ret v=>exact q
 |brk=>exact q
 |cont=>exact q
theorem Inv.quiet{σ:St}(I:Inv X pins σ H s):interactive X.env=false:=by simp[interactive,I.ok.kind]
noncomputable def bT(te:TE):TS:=fun D σ H=>te σ H fun _ H1=>D.nx σ H1
theorem Uv(he:PE X e te)(hs:pe e none pos.line X.env=pure false:=by rfl):PS X (.Expr e pos) (bT te):=by
 intro pins s σ H D I h
 exact wpAny_Expr_any (Az (he pins s σ H _ I h) fun v s1 ⟨x,H1,I1,r1,q1⟩=> ⟨σ,H1,I1,q1⟩) I.quiet hs
noncomputable def fU(te:TE):TS:=fun D σ H=>te σ H D.rt
theorem Dh(he:PE X e te):PS X (.Return (some e) pos) (fU te):=by
 intro pins s σ H D I h
 exact wpAny_Return_some (Az (he pins s σ H _ I h) fun v s1 ⟨x,H1,I1,r1,q1⟩=> ⟨x,σ,H1,I1,r1,q1⟩)
noncomputable def fV(c:TT)(t u:TS):TS:=fun D σ H=>c σ H fun b H1=>if b=true then t D σ H1 else u D σ H1
theorem KZ(hc:PT X c tc)(ha:PSs X a t)(hb:PSs X b u):PS X (.If c a b pos) (fV tc t u):=by
 intro pins s σ H D I h
 refine wpAny_If (Az (hc pins s σ H _ I h) fun d s1 ⟨H1,I1,q1⟩=>?_)
 cases d with
 |true=>exact ha pins s1 σ H1 D I1 q1
 |false=>exact hb pins s1 σ H1 D I1 q1
end
noncomputable abbrev TG:=V→St→Hp→(St→Hp→Prop)→Prop
noncomputable abbrev Uw:=List V→St→Hp→(St→Hp→Prop)→Prop
noncomputable def PG(X:Cx)(target:Expr)(t:TG):Prop:=
 ∀(pins:List (Addr×Obj)) (s:Shared) (σ:St) (H:Hp) (v:V) (u:Value) (Q:St→Hp→Prop),Inv X pins σ H s→RelV v u→t v σ H Q→
  wpAny (model X.prog X.w) X.A (assign target X.env u) (fun _ s'=>∃σ' H',Inv X pins σ' H' s'∧Q σ' H') X.xe s
noncomputable def bU(X:Cx)(ts:List Expr)(t:Uw):Prop:=
 ∀(pins:List (Addr×Obj)) (s:Shared) (σ:St) (H:Hp) (vs:List V) (us:List Value) (Q:St→Hp→Prop),Inv X pins σ H s→Vals vs us→t vs σ H Q→
  wpAny (model X.prog X.w) X.A (assignInOrder ((kU ts X.env).map (·.2)) us) (fun _ s'=>∃σ' H',Inv X pins σ' H' s'∧Q σ' H') X.xe s
noncomputable abbrev YW:=V→V→V→Hp→(Hp→Prop)→Prop
noncomputable def bV(X:Cx)(t:YW):Prop:=
 ∀(pins:List (Addr×Obj)) (s:Shared) (σ:St) (H:Hp) (o i v:V) (ov iv u:Value) (Q:Hp→Prop),Inv X pins σ H s→RelV o ov→RelV i iv→RelV v u→t o i v H Q→
  wpAny (model X.prog X.w) X.A (setItem ov iv u) (fun _ s'=>∃H',Inv X pins σ H' s'∧Q H') X.xe s
noncomputable abbrev bW:=V→V→Hp→VK→Prop
noncomputable def fW(X:Cx)(op:sY)(t:bW):Prop:=
 ∀(pins:List (Addr×Obj)) (s:Shared) (σ:St) (H:Hp) (x y:V) (v u:Value) (Q:VK),Inv X pins σ H s→RelV x v→RelV y u→t x y H Q→
  wpAny (model X.prog X.w) X.A (inplaceOp op v u) (EP X pins σ Q) X.xe s
section
variable {X:Cx} {pos:Pos}
noncomputable def XZ(i:Nat):TG:=fun v σ H Q=>Q (σ.set i (some v)) H
theorem CU(hN:X.N.Nodup)(hi:X.N[i]?=some x)(hx:IF X.env.scope x)(hf:X.fn x=true∨X.env.scope.names.lookup x=some .local:=by first|exact .inl rfl|exact .inr rfl|assumption):PG X (.Name x pos) (XZ i):=by
 intro pins s σ H v u Q I r h
 exact wpAny_assign_Name (Cz I hN hi hx r (fun s' I'=> ⟨_,H,I',h⟩) hf)
noncomputable def fX:Uw:=fun vs σ H Q=>vs=[]∧Q σ H
noncomputable def bX(t:TG)(u:Uw):Uw:=fun vs σ H Q=>∃v r,vs=v::r∧t v σ H fun σ' H'=>u r σ' H' Q
theorem JK:bU X [] fX:=by
 intro pins s σ H vs us Q I r h
 obtain⟨e,h⟩:=h
 subst e
 cases r
 exact assignInOrder_nil ⟨σ,H,I,h⟩
theorem CD(h1:PG X e t)(h2:bU X es u)
  (hs:(kU (e::es) X.env).map (·.2)=assign e X.env::(kU es X.env).map (·.2):=by rfl):bU X (e::es) (bX t u):=by
 intro pins s σ H vs us Q I r h
 obtain⟨v,vr,e1,h⟩:=h
 subst e1
 cases r with
 |cons r rr=>
  rw[hs]
  refine qV (Az (h1 pins s σ H _ _ _ I r h) fun _ s1 ⟨σ1,H1,I1,q1⟩=>?_)
  exact h2 pins s1 σ1 H1 _ _ Q I1 rr q1
noncomputable def fY(K:a8)(n:Nat)(t:Uw):TG:=fun v σ H Q=>∃a xs,v=.ref a∧GG K H a xs∧xs.length=n∧t xs σ H Q
theorem Qv{k:Nat}(hc:X.calm=true)(h:bU X es t)
  (hn:(kU es X.env).length=n:=by rfl) (hst:(kU es X.env).findIdx? (·.1)=none:=by rfl):PG X (.Tuple es k pos) (fY X.K n t):=by
 intro pins s σ H v u Q I r hw
 obtain⟨a,xs,e1,hq,hl,hw⟩:=hw
 subst e1
 cases r
 obtain⟨its,rv,ht,hz⟩:=I.tuple hq
 refine assign_Tuple_tuple (I.ok.hd hc) ht (by simp[hn,←hl,rv.length]) hst fun h' hx=>?_
 have I1:Inv X pins σ H {s with heap:=h'}:=I.kept (t':=s.toks) fun b o e=>hx b o (ke (jo e)) e
 exact h pins _ σ H xs _ Q I1 (by simpa using rv) hw
noncomputable def fZ(to ti:TE)(t:YW):TG:=fun v σ H Q=>to σ H fun o H1=>ti σ H1 fun i H2=>t o i v H2 fun H3=>Q σ H3
theorem YX(ho:PE X o to)(hi:PE X i ti)(hs:bV X t)
  (ha:∀v,assign (.Subscript o i pos) X.env v=(do
   let ov←holding [v] (eval o X.env)
   let iv←holding [v,ov] (eval i X.env)
   standAt pos
   holding [v,ov,iv] (setItem ov iv v)
   release [v,ov,iv] []):=by intro _;rfl):PG X (.Subscript o i pos) (fZ to ti t):=by
 intro pins s σ H v u Q I r h
 rw[ha]
 refine a9 (ko (Az (ho pins s σ H _ I h) fun ov s1 ⟨x,H1,I1,r1,q1⟩=>?_))
 refine a9 (ko (Az (hi pins s1 σ H1 _ I1 q1) fun iv s2 ⟨y,H2,I2,r2,q2⟩=>?_))
 refine a9 (oI (a9 (ko (Az (hs pins s2 σ H2 x y v ov iv u _ I2 r1 r2 r q2) fun _ s3 ⟨H3,I3,q3⟩=>?_))))
 exact wpAny_release ⟨σ,H3,I3,q3⟩
noncomputable def bZ(te:TE)(g:TG):TS:=fun D σ H=>te σ H fun x H1=>g x σ H1 D.nx
theorem Qw(he:PE X e te)(hg:PG X tg g)(hs:qo [tg] e pos.line X.env=pure false:=by rfl)(hw:qp [tg] e X.env=pure none:=by rfl)
  (h1:(kU [tg] X.env).map (·.2)=[assign tg X.env]:=by rfl):PS X (.Assign [tg] e pos) (bZ te g):=by
 intro pins s σ H D I h
 refine wpAny_Assign_stores (Az (he pins s σ H _ I h) fun v s1 ⟨x,H1,I1,r1,q1⟩=>?_) hs hw
 rw[h1]
 exact Az (hg pins s1 σ H1 x v _ I1 r1 q1) fun _ s2 q=>q
theorem Gj(hN:X.N.Nodup)(hi:X.N[i]?=some x)(hx:IF X.env.scope x)(he:PE X e te)(hs:pe e (some (.Name x pos')) pos.line X.env=pure false:=by rfl)(hf:X.fn x=true∨X.env.scope.names.lookup x=some .local:=by first|exact .inl rfl|exact .inr rfl|assumption):
  PS X (.Assign [.Name x pos'] e pos) (bZ te (XZ i)):=by
 intro pins s σ H D I h
 refine wpAny_Assign_Name (Az (he pins s σ H _ I h) fun v s1 ⟨y,H1,I1,r1,q1⟩=>?_) hs
 exact Cz I1 hN hi hx r1 (fun s2 I2=> ⟨_,H1,I2,q1⟩) hf
noncomputable def fb(i j:Nat)(ta:TA):TS:=fun D σ H=>ta σ H fun vs H1=>∃v w,vs=[v,w]∧D.nx ((σ.set i (some v)).set j (some w)) H1
theorem YY(hc:X.calm=true)(hN:X.N.Nodup)(hi:X.N[i]?=some x)(hj:X.N[j]?=some y)(hij:i≠j)
  (hx:X.env.scope.names.lookup x=some .local) (hy:X.env.scope.names.lookup y=some .local) (ha:PA X [a,b] ta)
  (hw:qp [.Tuple [.Name x px,.Name y py] kt pt] (.Tuple [a,b] k2 pt2) X.env=pure (some [x,y]))
  (hs:qo [.Tuple [.Name x px,.Name y py] kt pt] (.Tuple [a,b] k2 pt2) pos.line X.env=pure false:=by rfl):
  PS X (.Assign [.Tuple [.Name x px,.Name y py] kt pt] (.Tuple [a,b] k2 pt2) pos) (fb i j ta):=by
 intro pins s σ H D I h
 rw[exec_Assign_arm]
 refine a9 (oI ?_)
 rw[hs]
 refine a9 (b8 ?_)
 rw[if_neg (by decide)]
 refine a9 (Tuple_ (Az (ha _ pins s σ H _ I h) fun us s1 ⟨vs,H1,I1,r1,q1⟩=>?_))
 obtain⟨v,w,e1,q1⟩:=q1
 subst e1
 obtain⟨u1,u2,rfl,rv,rw'⟩:∃u1 u2,us=[u1,u2]∧RelV v u1∧RelV w u2:=by
  cases r1 with
  |cons p q=>
   cases q with
   |cons p' q'=>
    cases q'
    exact⟨_,_,rfl,p,p'⟩
 refine lK ?_ (by show 2≤sizeLine;decide)
 have I2:Inv X pins σ H1 {s1 with heap:=s1.heap.push {cls:=.type "tuple",data:=.seq [u1,u2].toArray}}:=I1.kept (t':=s1.toks) fun b o e=>c9 _ e
 rw[hw]
 refine a9 (b8 ?_)
 show wpAny (model X.prog X.w) X.A (do rule "assign.swapped-stores";let items←unpackItems (.ref s1.heap.objs.size) 2 none;assignInOrder [fun v=>bindName X.env y v,fun v=>bindName X.env x v] items.reverse;pure Flow.next) _ _ _
 refine a9 (og (a9 (unpackItems_tuple (items:=#[u1,u2]) (I.ok.hd hc) (IsTup.new s1.heap _) fun h' hx'=>?_)))
 have I3:=I2.kept (h':=h') (t':=s1.toks) fun b o e=>hx' b o (ke (jo e)) e
 show wpAny _ _ (assignInOrder [fun v=>bindName X.env y v,fun v=>bindName X.env x v] [u2,u1]>>=fun _=>pure Flow.next) _ _ _
 refine a9 (qV (wpAny_bindName (Cz I3 hN hj (.inl hy) rw' (fun s2 I4=>?_) (.inr hy))))
 refine qV (wpAny_bindName (Cz I4 hN hi (.inl hx) rv (fun s3 I5=>assignInOrder_nil (b8 ?_)) (.inr hx)))
 rw[List.set_comm _ _ (Ne.symm hij)] at I5
 exact⟨_,H1,I5,q1⟩
noncomputable def fc(i:Nat)(te:TE)(ti:bW):TS:=fun D σ H=>∃x,σ[i]?=some (some x)∧te σ H fun y H1=>ti x y H1 fun z H2=>D.nx (σ.set i (some z)) H2
theorem YZ(hN:X.N.Nodup)(hi:X.N[i]?=some x)(hx:IF X.env.scope x)(he:PE X e te)(ho:fW X op ti)(hf:X.fn x=true∨X.env.scope.names.lookup x=some .local:=by first|exact .inl rfl|exact .inr rfl|assumption):
  PS X (.AugAssign (.Name x pos') op e pos) (fc i te ti):=by
 intro pins s σ H D I h
 obtain⟨v,e1,h⟩:=h
 obtain⟨m,hn,hl⟩:=I.loc
 have vis:Ut X.env.scope x:=by rcases hx with k|k;exact .inl k;exact .inr (.inl k)
 obtain⟨u,r,l⟩:=hl i x v hi e1 vis
 refine wpAny_AugAssign_Name ?_
 have go:wpAny (model X.prog X.w) X.A (eval e X.env) (fun w s₂=>wpAny (model X.prog X.w) X.A (inplaceOp op u w) (fun r s₃=>wpAny (model X.prog X.w) X.A (storeName X.env x r) (fun _=>SP X pins D .next) X.xe s₃) X.xe s₂) X.xe s:=by
  refine Az (he pins s σ H _ I h) fun w s1 ⟨y,H1,I1,r1,q1⟩=>?_
  refine Az (ho pins s1 σ H1 v y u w _ I1 r r1 q1) fun z s2 ⟨zv,H2,I2,r2,q2⟩=>?_
  exact Cz I2 hN hi hx r2 (fun s3 I3=> ⟨_,H2,I3,q2⟩) hf
 rcases l with⟨hk,hm⟩| ⟨hk,c,hc,hcell⟩
 ·exact wpAny_loadName_local I.ok.kind hk hn hm go
 ·rcases hk with hk|hk
  ·exact wpAny_loadName_cell I.ok.kind hk hc hcell go
  ·rcases hx with k|k
   ·have:X.env.scope.names.lookup x=some .free:=hk
    rw[k] at this;cases this
   ·have:X.env.scope.names.lookup x=some .free:=hk
    rw[k] at this;cases this
noncomputable def ig(f:Int→Int→Int):bW:=fun x y H Q=>∃i j,x=.int i∧y=.int j∧Q (.int (f i j)) H
theorem Yb:fW X .Add (ig fun i j=>i+j):=by
 intro pins s σ H x y v u Q I r1 r2 h
 obtain⟨i,j,e1,e2,q⟩:=h
 subst e1;subst e2
 obtain⟨t,rfl⟩:=r1
 obtain⟨t',rfl⟩:=r2
 exact iadd_int ⟨.int _,H,I.tok _,⟨_,rfl⟩,q⟩
end
noncomputable def Yc(c:TT)(tb:TS):TS:=fun D σ H=>∃W:Nat→St→Hp→Prop,(∃m,W m σ H)∧∀m σ H,W m σ H→
 c σ H fun b H1=>if b=true then∃N:St→Hp→Prop,(∀σ' H',N σ' H'→∃m',m'<m∧W m' σ' H')∧tb {D with nx:=N,ct:=N,bk:=D.nx} σ H1 else D.nx σ H1
theorem Qx(hp:qh (model X.prog X.w) X.A X.env X.xe)(hc:PT X c tc)(hb:PSs X body tb):PS X (.While c body [] pos) (Yc tc tb):=by
 intro pins s σ H D I h
 obtain⟨W,⟨m0,w0⟩,turn⟩:=h
 refine wpAny_While (codeAny_whileLoop (fun n s'=>∃σ' H',Inv X pins σ' H' s'∧W n σ' H') ?_ m0 ⟨σ,H,I,w0⟩)
 rintro n s1 ⟨σ1,H1,I1,w1⟩
 refine nX hp (Az (hc pins s1 σ1 H1 _ I1 (turn n σ1 H1 w1)) fun b s2 ⟨H2,I2,q2⟩=>?_)
 cases b with
 |true=>
  obtain⟨N,hN,q2⟩:=q2
  rw[if_pos rfl]
  refine nX hp (Az (hb pins s2 σ1 H2 _ I2 q2) fun f s3 q3=>?_)
  cases f with
  |next=>
   obtain⟨σ3,H3,I3,n3⟩:=q3
   obtain⟨m',hm,w3⟩:=hN σ3 H3 n3
   exact⟨m',hm,σ3,H3,I3,w3⟩
  |cont=>
   obtain⟨σ3,H3,I3,n3⟩:=q3
   obtain⟨m',hm,w3⟩:=hN σ3 H3 n3
   exact⟨m',hm,σ3,H3,I3,w3⟩
  |brk=>exact q3
  |ret v=>exact q3
 |false=>
  rw[if_neg e8]
  exact pG ⟨σ1,H2,I2,q2⟩
structure It where
 go:Nat→Hp→Prop
 yld:Nat→Hp→V→Hp→Prop
 stop:Nat→Hp→Prop
noncomputable def IG(X:Cx)(pins:List (Addr×Obj))(H:Hp)(b:Addr):Prop:=
 H b=none∧b≠X.env.locals∧b∉X.fs∧(b∈X.ex∨X.s₀.heap.objs.size≤b)∧(∀x c,X.env.cells.lookup x=some c→c≠b)∧∀p∈X.pn++pins,p.1≠b
theorem Inv.fpOk{σ:St}{b:Addr}(I:Inv X pins σ H s)(hb:s.heap.objs.size≤b)(hn:H' b=none):IG X pins H' b:=by
 refine⟨hn,p7 (kh I.lt hb),I.nofs hb,.inr (kO I.sz hb),fun x c e z=>?_,fun p hp z=>?_⟩
 ·obtain⟨v,q⟩:=I.cell x c e
  exact absurd (kh q.lt (by rw[z];exact hb)) (lH _)
 ·exact absurd (kh (jo (I.pin p hp).1) (by rw[z];exact hb)) (lH _)
structure Turn(P:Program)(w:World)(K:a8)(tg:Expr)(J:It)(fp:List Addr)(it:Addr)(tn:Nat→Heap→Prop):Prop where
 mem:it∈fp
 obj:∀i h,tn i h→∀b∈fp,∃o,h.get? b=some o∧∀v,o.data≠.cell v
 keep:∀i h h',tn i h→(∀b∈fp,∀o,h.get? b=some o→h'.get? b=some o)→tn i h'
 item:∀(X:Cx),X.prog=P→X.w=w→X.K=K→X.calm=true→∀(i:Nat) (pins:List (Addr×Obj)) (s:Shared) (σ:St) (H:Hp) (E:Value→Shared→Prop),Inv X pins σ H s→(∀b∈fp,IG X pins H b)→tn i s.heap→J.go i H→
  wpAny (model P w) X.A (pk (.ref it)) (fun r s1=>∃u,r=some u∧
   wpAny (model P w) X.A (qB tg (.ref it) u) (fun _ s2=>∃x H',Inv X pins σ H' s2∧RelV x u∧J.yld i H x H'∧tn (i+1) s2.heap∧∀b∈fp,H' b=none) E s1) E s
 done:∀(X:Cx),X.prog=P→X.w=w→X.K=K→X.calm=true→∀(i:Nat) (pins:List (Addr×Obj)) (s:Shared) (σ:St) (H:Hp) (E:Value→Shared→Prop),Inv X pins σ H s→(∀b∈fp,IG X pins H b)→tn i s.heap→J.stop i H→
  wpAny (model P w) X.A (pk (.ref it)) (fun r s1=>r=none∧Inv X pins σ H s1) E s
 self:∀(A:j6) (i:Nat) (s:Shared) (Q:Value→Shared→Prop) (E:Value→Shared→Prop),tn i s.heap→Q (.ref it) s→wpAny (model P w) A (sQ (.ref it)) Q E s
noncomputable abbrev TI:=St→Hp→(It→Hp→Prop)→Prop
noncomputable def iM(X:Cx)(pins:List (Addr×Obj))(σ:St)(tg:Expr)(R:It→Hp→Prop)(itv:Value)(s2:Shared):Prop:=
 ∃(it:Addr) (fp:List Addr) (tn:Nat→Heap→Prop) (J:It) (H':Hp),itv=.ref it∧Inv X pins σ H' s2∧Turn X.prog X.w X.K tg J fp it tn∧tn 0 s2.heap∧(∀b∈fp,IG X pins H' b)∧R J H'
noncomputable def PI(X:Cx)(tg iter:Expr)(wi:TI):Prop:=
 ∀(pins:List (Addr×Obj)) (s:Shared) (σ:St) (H:Hp) (R:It→Hp→Prop),Inv X pins σ H s→wi σ H R→
  wpAny (model X.prog X.w) X.A (eval iter X.env) (fun v s1=>wpAny (model X.prog X.w) X.A (sQ v) (iM X pins σ tg R) X.xe s1) X.xe s
theorem Qy(ho:s.heap.get? it=some o)(hc:o.cls=.type n)(hd:o.data=.fields vs)
    (hn:["enumerate","zip","dict_itemiterator","dict_reverseitemiterator","odict_iterator","itertools.zip_longest","itertools.pairwise"].contains n=false) (hQ:Q () s):wpAny M A (qB tg (.ref it) u) Q E s:=by
  unfold qB
  cases tg<;>first
    |exact b8 hQ
    | (cases u<;>first
        |exact b8 hQ
        | (refine a9 (wpAny_load ho ?_)
           rw[hc,hd]
           show wpAny M A (if(["enumerate","zip","dict_itemiterator","dict_reverseitemiterator","odict_iterator","itertools.zip_longest","itertools.pairwise"].contains n&&vs[0]?==some (sf _))=true then _ else _) Q E s
           rw[if_neg (by intro h;rw[hn,Bool.false_and] at h;cases h)]
           exact b8 hQ))
noncomputable def fg(K:a8)(a:Addr):It:=
 ⟨fun i H=>∃xs x,SqL K H a xs∧xs[i]?=some x,fun i H x H'=>H'=H∧∀xs,SqL K H a xs→xs[i]?=some x,fun i H=>∃xs,SqL K H a xs∧xs.length≤i⟩
noncomputable def fA(K:a8)(a:Addr):It:=
 ⟨fun i H=>∃xs x,GG K H a xs∧xs[i]?=some x,fun i H x H'=>H'=H∧∀xs,GG K H a xs→xs[i]?=some x,fun i H=>∃xs,GG K H a xs∧xs.length≤i⟩
noncomputable def ba(lo:Int)(n:Nat):It:=⟨fun i _=>i<n,fun i H x H'=>H'=H∧x=.int (lo+i),fun i _=>n≤i⟩
theorem Pa{K:a8}(a it:Addr):Turn P w K tg (fg K a) [it] it (fun i h=>h.IsListIter it a i) where
 mem:=by simp
 obj:=fun i h st b hb=>by
  have e:b=it:=by simpa using hb
  subst e
  obtain⟨o,e,c,d⟩:=st
  exact⟨o,e,fun v z=>by rw[d] at z;cases z⟩
 keep:=fun i h h' st k=>st.at fun o e=>k it (by simp) o e
 item:=by
  intro X hP hw hK hc i pins s σ H E I hf st hg
  subst hP hw hK
  obtain⟨xs,x,hq,hx⟩:=hg
  obtain⟨its,rv,p,hz⟩:=I.list hq
  obtain⟨u,hu,ru⟩:=rv.get hx
  obtain⟨f0,f1,f2,f3,f4,f5⟩:=hf it (by simp)
  refine ng st p.isList (x:=u) (by simpa using hu) fun h' st' sb=>?_
  have I1:Inv X pins σ H {s with heap:=h'}:=I.turned (t':=s.toks) (fun b o hb e=> (sb.2 b hb).trans e) f0 f1 f3 f4 f5
  obtain⟨o,e,c,d⟩:=id st'
  exact⟨u,rfl,Qy (s:={s with heap:=h'}) e c d (by decide) ⟨x,H,I1,ru,⟨rfl,fun ys hy=>by rw[I.list_inj hy hq];exact hx⟩,st',fun b hb=> (hf b hb).1⟩⟩
 done:=by
  intro X hP hw hK hc i pins s σ H E I hf st hg
  subst hP hw hK
  obtain⟨xs,hq,hx⟩:=hg
  obtain⟨its,rv,p,hz⟩:=I.list hq
  obtain⟨f0,f1,f2,f3,f4,f5⟩:=hf it (by simp)
  have hl:=rv.length
  exact oN (I.ok.hd hc) st p.isList (by simp;omega) fun h' eb=> ⟨rfl,I.turned (t':=s.toks) (fun b o hb e=>eb b o hb e) f0 f1 f3 f4 f5⟩
 self:=fun _ _ _ _ _ st h=>wpAny_pyIter_listiter st h
theorem MN{K:a8}(a it:Addr):Turn P w K tg (fA K a) [it] it (fun i h=>h.IsTupleIter it a i) where
 mem:=by simp
 obj:=fun i h st b hb=>by
  have e:b=it:=by simpa using hb
  subst e
  obtain⟨o,e,c,d⟩:=st
  exact⟨o,e,fun v z=>by rw[d] at z;cases z⟩
 keep:=fun i h h' st k=>st.at fun o e=>k it (by simp) o e
 item:=by
  intro X hP hw hK hc i pins s σ H E I hf st hg
  subst hP hw hK
  obtain⟨xs,x,hq,hx⟩:=hg
  obtain⟨its,rv,p,hz⟩:=I.tuple hq
  obtain⟨u,hu,ru⟩:=rv.get hx
  obtain⟨f0,f1,f2,f3,f4,f5⟩:=hf it (by simp)
  refine wpAny_pyNext_tuple_item st (show s.heap.IsTuple a its.toArray from p) (x:=u) (by simpa using hu) fun h' st' sb=>?_
  have I1:Inv X pins σ H {s with heap:=h'}:=I.turned (t':=s.toks) (fun b o hb e=> (sb.2 b hb).trans e) f0 f1 f3 f4 f5
  obtain⟨o,e,c,d⟩:=id st'
  exact⟨u,rfl,Qy (s:={s with heap:=h'}) e c d (by decide) ⟨x,H,I1,ru,⟨rfl,fun ys hy=>by rw[I.tuple_inj hy hq];exact hx⟩,st',fun b hb=> (hf b hb).1⟩⟩
 done:=by
  intro X hP hw hK hc i pins s σ H E I hf st hg
  subst hP hw hK
  obtain⟨xs,hq,hx⟩:=hg
  obtain⟨its,rv,p,hz⟩:=I.tuple hq
  obtain⟨f0,f1,f2,f3,f4,f5⟩:=hf it (by simp)
  have hl:=rv.length
  exact wpAny_pyNext_tuple_end (I.ok.hd hc) st (show s.heap.IsTuple a its.toArray from p) (by simp;omega) fun h' eb=> ⟨rfl,I.turned (t':=s.toks) (fun b o hb e=>eb b o hb e) f0 f1 f3 f4 f5⟩
 self:=fun _ _ _ _ _ st h=>wpAny_pyIter_tupleiter st h
theorem MO{K:a8}(it:Addr)(lo:Int)(n:Nat):Turn P w K tg (ba lo n) [it] it (fun i h=>IsRangeIter h it (lo+(i:Nat)*1) ((n:Int)- (i:Nat)) 1) where
 mem:=by simp
 obj:=fun i h st b hb=>by
  have e:b=it:=by simpa using hb
  subst e
  exact⟨_,st,fun v z=>by
   have z':Data.fields _=Data.cell v:=z
   cases z'⟩
 keep:=fun i h h' st k=>k it (by simp) _ st
 item:=by
  intro X hP hw hK hc i pins s σ H E I hf st hg
  subst hP hw hK
  obtain⟨f0,f1,f2,f3,f4,f5⟩:=hf it (by simp)
  have W:=Walks.range (prog:=X.prog) (w:=X.w) (I.ok.hd hc) it lo 1 n
  refine W.item i s _ _ hg st fun v h' tk hv st' kk=>?_
  obtain⟨t,rfl⟩:=hv
  have I1:Inv X pins σ H {s with heap:=h',toks:=tk}:=I.turned (fun b o hb e=>kk b o (by simpa using hb) e) f0 f1 f3 f4 f5
  refine⟨_,rfl,Qy (s:={s with heap:=h',toks:=tk}) (n:="range_iterator") st' rfl rfl (by decide) ⟨.int (lo+i),H,I1,⟨t,?_⟩,⟨rfl,rfl⟩,st',fun b hb=> (hf b hb).1⟩⟩
  rw[Int.mul_one]
 done:=by
  intro X hP hw hK hc i pins s σ H E I hf st hg
  subst hP hw hK
  obtain⟨f0,f1,f2,f3,f4,f5⟩:=hf it (by simp)
  exact wpAny_pyNext_range_end (I.ok.hd hc) st (by have:n≤i:=hg;omega) fun h' eb=> ⟨rfl,I.turned (t':=s.toks) (fun b o hb e=>eb b o hb e) f0 f1 f3 f4 f5⟩
 self:=fun _ _ _ _ _ st h=>wpAny_pyIter_rangeiter st h
section
variable {X:Cx} {tg:Expr}
noncomputable def bb(K:a8)(tl:TE):TI:=fun σ H R=>tl σ H fun x H1=>∃a,x=.ref a∧(∃xs,SqL K H1 a xs)∧R (fg K a) H1
noncomputable def fh(K:a8)(tl:TE):TI:=fun σ H R=>tl σ H fun x H1=>∃a,x=.ref a∧(∃xs,GG K H1 a xs)∧R (fA K a) H1
theorem Ux(hl:PE X l tl):PI X tg l (bb X.K tl):=by
 intro pins s σ H R I h
 refine Az (hl pins s σ H _ I h) fun v s1 ⟨x,H1,I1,r1,q1⟩=>?_
 obtain⟨a,e,⟨xs,hq⟩,q⟩:=q1
 subst e
 cases r1
 obtain⟨its,rv,p,hz⟩:=I1.list hq
 refine oQ p.isList ?_
 refine⟨s1.heap.objs.size,[s1.heap.objs.size],_,_,H1,rfl,I1.kept (t':=s1.toks) fun b o e=>c9 _ e,Pa a _,⟨_,kb _ rfl,rfl,rfl⟩,fun b hb=>?_,q⟩
 have e:b=s1.heap.objs.size:=by simpa using hb
 subst e
 exact I1.fpOk (jm _) (I1.hok.fresh (jm _))
theorem Qz(hl:PE X l tl):PI X tg l (fh X.K tl):=by
 intro pins s σ H R I h
 refine Az (hl pins s σ H _ I h) fun v s1 ⟨x,H1,I1,r1,q1⟩=>?_
 obtain⟨a,e,⟨xs,hq⟩,q⟩:=q1
 subst e
 cases r1
 obtain⟨its,rv,p,hz⟩:=I1.tuple hq
 refine wpAny_pyIter_tuple (show s1.heap.IsTuple a its.toArray from p) ?_
 refine⟨s1.heap.objs.size,[s1.heap.objs.size],_,_,H1,rfl,I1.kept (t':=s1.toks) fun b o e=>c9 _ e,MN a _,⟨_,kb _ rfl,rfl,rfl⟩,fun b hb=>?_,q⟩
 have e:b=s1.heap.objs.size:=by simpa using hb
 subst e
 exact I1.fpOk (jm _) (I1.hok.fresh (jm _))
theorem Ka{σ:St}{lo:Int}(I:Inv X pins σ H s)(h1: -(2^62)≤lo)(h2:lo<2^62)(h3: -(2^62)≤hi)(h4:hi<2^62)
  (q:R (ba lo (hi-lo).toNat) H):wpAny (model X.prog X.w) X.A (sQ (.ref s.heap.objs.size)) (iM X pins σ tg R) E {s with heap:=s.heap.push {cls:=.type "range",data:=.fields #[.int lo t,.int hi u,.int 1 v]},toks:=tk}:=by
 refine wpAny_pyIter_range (IsRange.new ..) (small_one h1 h2 h3 h4) ?_
 have I1:Inv X pins σ H {s with heap:=s.heap.push {cls:=.type "range",data:=.fields #[.int lo t,.int hi u,.int 1 v]},toks:=tk}:=I.kept fun b o e=>c9 _ e
 refine⟨(s.heap.push {cls:=.type "range",data:=.fields #[.int lo t,.int hi u,.int 1 v]}).objs.size,[(s.heap.push {cls:=.type "range",data:=.fields #[.int lo t,.int hi u,.int 1 v]}).objs.size],_,_,H,rfl,
  I1.kept (t':=tk) fun b o e=>c9 _ e,MO _ lo (hi-lo).toNat,?_,fun b hb=>?_,q⟩
 ·have e1:lo+((0:Nat):Int)*1=lo:=by simp
  have e2:(((hi-lo).toNat:Nat):Int)- ((0:Nat):Int)=Builtin.Range.rangeSize lo hi 1:=by rw[rangeSize_one];split<;>omega
  show IsRangeIter _ _ (lo+((0:Nat):Int)*1) ((((hi-lo).toNat:Nat):Int)- ((0:Nat):Int)) 1
  rw[e1,e2]
  exact kb _ rfl
 ·have e:b=(s.heap.push {cls:=.type "range",data:=.fields #[.int lo t,.int hi u,.int 1 v]}).objs.size:=by simpa using hb
  subst e
  exact I1.fpOk (jm _) (I1.hok.fresh (jm _))
noncomputable def bf(ta:TA):TI:=fun σ H R=>ta σ H fun vs H1=>∃j:Int,vs=[.int j]∧-(2^62)≤j∧j<2^62∧R (ba 0 j.toNat) H1
noncomputable def bg(ta:TA):TI:=fun σ H R=>ta σ H fun vs H1=>∃i j:Int,vs=[.int i,.int j]∧(-(2^62)≤i∧i<2^62∧-(2^62)≤j∧j<2^62)∧R (ba i (j-i).toNat) H1
theorem Pb(hg:Gl X "range")(hm:X.mg "range" =none)(ha:PA X [a] ta)(hs:i5 [a] X.env=[(false,eval a X.env)]:=by rfl):PI X tg (.Call (.Name "range" p) [a] [] pos) (bf ta):=by
 intro pins s σ H R I h
 refine Call_ (Fc I hg hm boot_range (oT (Az (ha pos pins s σ H _ I h) fun us s1 ⟨vs,H1,I1,r1,q1⟩=>?_) hs rfl))
 obtain⟨j,e,q1,q2,q⟩:=q1
 subst e
 cases r1 with
 |cons r rr=>
  cases rr
  obtain⟨t,rfl⟩:=r
  exact call_range_1 (Ka I1 (by omega) (by omega) q1 q2 (by simpa using q))
theorem Pc{p pos:Pos}(hg:Gl X "range")(hm:X.mg "range" =none)(ha:PA X [a,b] ta)(hs:i5 [a,b] X.env=[(false,eval a X.env),(false,eval b X.env)]:=by rfl)(hs2:i5 [b] X.env=[(false,eval b X.env)]:=by rfl):
  PI X tg (.Call (.Name "range" p) [a,b] [] pos) (bg ta):=by
 intro pins s σ H R I h
 refine Call_ (Fc I hg hm boot_range (oT (Az (ha pos pins s σ H _ I h) fun us s1 ⟨vs,H1,I1,r1,q1⟩=>?_) (by rw[hs,hs2]) (by rw[hs2];rfl)))
 obtain⟨i,j,e,⟨q1,q2,q3,q4⟩,q⟩:=q1
 subst e
 cases r1 with
 |cons r rr=>
  cases rr with
  |cons r' rr=>
   cases rr
   obtain⟨t,rfl⟩:=r
   obtain⟨t',rfl⟩:=r'
   exact call_range_2 (Ka I1 q1 q2 q3 q4 q)
noncomputable def fj(wi:TI)(g:TG)(tb:TS):TS:=fun D σ H=>wi σ H fun J H1=>∃W:Nat→Nat→St→Hp→Prop,(∃m,W 0 m σ H1)∧∀i m σ H,W i m σ H→
 (J.stop i H∧D.nx σ H)∨(J.go i H∧∃N:St→Hp→Prop,(∀σ' H',N σ' H'→∃m',m'<m∧W (i+1) m' σ' H')∧∀x H',J.yld i H x H'→g x σ H' fun σ2 H2=>tb {D with nx:=N,ct:=N,bk:=D.nx} σ2 H2)
noncomputable def Gk(fp:List Addr)(h:Heap):List (Addr×Obj):=fp.filterMap fun b=> (h.get? b).map fun o=> (b,o)
theorem DI(hb:b∈fp)(e:h.get? b=some o):(b,o)∈Gk fp h:=nA.mpr ⟨b,hb,by rw[e];rfl⟩
theorem Pd(hp:p∈Gk fp h):p.1∈fp∧h.get? p.1=some p.2:=by
 obtain⟨b,hb,e⟩:=nA.mp hp
 cases q:h.get? b with
 |none=>rw[q] at e;cases e
 |some o=>
  rw[q] at e
  have e':(b,o)=p:=lu.inj e
  subst e'
  exact⟨hb,q⟩
theorem Inv.pinned{σ:St}(I:Inv X pins σ H s)(hf:∀b∈fp,IG X pins H b)(ho:∀b∈fp,∃o,s.heap.get? b=some o∧∀v,o.data≠.cell v):Inv X (pins++Gk fp s.heap) σ H s:=
 I.pins_of fun p hp=> (kj.mp hp).elim (fun z=>I.pin p (k8 _ z)) fun z=>by
  obtain⟨hb,e⟩:=Pd z
  obtain⟨f0,f1,f2,_⟩:=hf p.1 hb
  obtain⟨o,e',d⟩:=ho p.1 hb
  rw[e] at e';cases e'
  exact⟨e,f0,f1,f2,d⟩
theorem Inv.unpinned{σ:St}(I:Inv X (pins++pl) σ H s):Inv X pins σ H s:=I.pins_of fun p hp=>I.pin p (k8 _ (lZ _ hp))
theorem Yd(hp:qh (model X.prog X.w) X.A X.env X.xe)(hc:X.calm=true)(hi:PI X tg iter wi)(hg:PG X tg g)(hb:PSs X body tb)
  (hs:∀x,lW iter X.env x=pure x:=by intro _;rfl):PS X (.For tg iter body [] pos) (fj wi g tb):=by
 intro pins s σ H D I h
 refine wpAny_For (Az (hi pins s σ H _ I h) fun v s1 h1=>Az h1 fun itv s2 h2=>?_) hs
 obtain⟨it,fp,tn,J,H2,e,I2,T,st2,f2,W,⟨m0,w0⟩,turn⟩:=h2
 subst e
 have stat:∀{H':Hp},(∀b∈fp,H' b=none)→∀b∈fp,IG X pins H' b:=fun hn b hb=> ⟨hn b hb,(f2 b hb).2⟩
 refine codeAny_forLoop_any (fun n s'=>∃i σ' H',Inv X pins σ' H' s'∧tn i s'.heap∧(∀b∈fp,H' b=none)∧W i n σ' H') ?_ m0 ⟨0,σ,H2,I2,st2,fun b hb=> (f2 b hb).1,w0⟩
 rintro n s3 ⟨i,σ3,H3,I3,st3,fr3,w3⟩
 rcases turn i n σ3 H3 w3 with⟨stop,qn⟩| ⟨go,N,hN,step⟩
 ·refine nX hp (Az (T.done X rfl rfl rfl hc i pins s3 σ3 H3 X.xe I3 (stat fr3) st3 stop) fun r s4 ⟨hr,I4⟩=>?_)
  subst hr
  exact pG ⟨σ3,H3,I4,qn⟩
 ·refine nX hp (Az (T.item X rfl rfl rfl hc i pins s3 σ3 H3 X.xe I3 (stat fr3) st3 go) fun r s4 ⟨u,hr,h4⟩=>?_)
  subst hr
  refine nX hp (Az h4 fun _ s5 ⟨x,H5,I5,r5,y5,st5,fr5⟩=>?_)
  have I5':=I5.pinned (stat fr5) (T.obj _ _ st5)
  refine nX hp (Az (hg _ s5 σ3 H5 x u _ I5' r5 (step x H5 y5)) fun _ s6 ⟨σ6,H6,I6,q6⟩=>?_)
  refine nX hp (Az (hb _ s6 σ6 H6 _ I6 q6) fun f s7 q7=>?_)
  have again:∀{σ7:St} {H7:Hp},Inv X (pins++Gk fp s5.heap) σ7 H7 s7→N σ7 H7→∃m,m<n∧∃i σ' H',Inv X pins σ' H' s7∧tn i s7.heap∧(∀b∈fp,H' b=none)∧W i m σ' H':=fun{σ7 H7} I7 n7=>by
   obtain⟨m',hm,w7⟩:=hN σ7 H7 n7
   refine⟨m',hm,i+1,σ7,H7,I7.unpinned,T.keep _ _ _ st5 fun b hb o e=> (I7.pin (b,o) (k8 _ (k8 _ (DI hb e)))).1,fun b hb=>?_,w7⟩
   obtain⟨o,e,d⟩:=T.obj _ _ st5 b hb
   exact(I7.pin (b,o) (k8 _ (k8 _ (DI hb e)))).2.1
  cases f with
  |next=>obtain⟨σ7,H7,I7,n7⟩:=q7;exact again I7 n7
  |cont=>obtain⟨σ7,H7,I7,n7⟩:=q7;exact again I7 n7
  |brk=>obtain⟨σ7,H7,I7,q7⟩:=q7;exact⟨σ7,H7,I7.unpinned,q7⟩
  |ret v=>obtain⟨x7,σ7,H7,I7,r7,q7⟩:=q7;exact⟨x7,σ7,H7,I7.unpinned,r7,q7⟩
end
noncomputable abbrev R2:=V→V→Hp→VK→Prop
noncomputable def Cy(X:Cx)(f:Value→Value→Sem Value)(r:R2):Prop:=
 ∀(pins:List (Addr×Obj)) (s:Shared) (σ:St) (H:Hp) (x y:V) (v u:Value) (Q:VK),Inv X pins σ H s→RelV x v→RelV y u→r x y H Q→
  wpAny (model X.prog X.w) X.A (f v u) (EP X pins σ Q) X.xe s
noncomputable def fB(X:Cx)(f:Value→Sem Value)(r:V→Hp→VK→Prop):Prop:=
 ∀(pins:List (Addr×Obj)) (s:Shared) (σ:St) (H:Hp) (x:V) (v:Value) (Q:VK),Inv X pins σ H s→RelV x v→r x H Q→
  wpAny (model X.prog X.w) X.A (f v) (EP X pins σ Q) X.xe s
noncomputable def Bb(X:Cx)(f:Value)(r:List V→Hp→VK→Prop):Prop:=
 ∀(pins:List (Addr×Obj)) (s:Shared) (σ:St) (H:Hp) (xs:List V) (us:List Value) (Q:VK),Inv X pins σ H s→Vals xs us→r xs H Q→
  wpAny (model X.prog X.w) X.A (call f us) (EP X pins σ Q) X.xe s
noncomputable def fk(X:Cx)(r:V→Hp→(Bool→Hp→Prop)→Prop):Prop:=
 ∀(pins:List (Addr×Obj)) (s:Shared) (σ:St) (H:Hp) (x:V) (v:Value) (Q:Bool→Hp→Prop),Inv X pins σ H s→RelV x v→r x H Q→
  wpAny (model X.prog X.w) X.A (truthy v) (TP X pins σ Q) X.xe s
noncomputable def bh(r:R2)(ta tb:TE):TE:=fun σ H Q=>ta σ H fun x H1=>tb σ H1 fun y H2=>r x y H2 Q
noncomputable def il(r:V→Hp→VK→Prop)(ta:TE):TE:=fun σ H Q=>ta σ H fun x H1=>r x H1 Q
noncomputable def rI(C:Int→Int→Prop)(g:Int→Int→V):R2:=fun x y H Q=>∃i j,x=.int i∧y=.int j∧C i j∧Q (g i j) H
noncomputable def RA(g:Int→Int→V):R2:=fun x y H Q=>∃i j,x=.int i∧y=.int j∧Q (g i j) H
noncomputable def rU(g:Int→V):V→Hp→VK→Prop:=fun x H Q=>∃i,x=.int i∧Q (g i) H
theorem Ye(ha:PE X a ta)(hb:PE X b tb){σ:St}{R:V→V→Hp→Prop}(I:Inv X pins σ H s)
  (h:ta σ H fun x H1=>tb σ H1 fun y H2=>R x y H2) {f:Value→Value→Sem Value}
  (hf:∀v u s2 x y H2,Inv X pins σ H2 s2→RelV x v→RelV y u→R x y H2→wpAny (model X.prog X.w) X.A (f v u) Q X.xe s2):
  wpAny (model X.prog X.w) X.A (eval a X.env) (fun v s₁=>wpAny (model X.prog X.w) X.A (eval b X.env) (fun u s₂=>wpAny (model X.prog X.w) X.A (f v u) Q X.xe s₂) X.xe s₁) X.xe s:=by
 refine Az (ha pins s σ H _ I h) fun v s1 ⟨x,H1,I1,r1,q1⟩=>?_
 refine Az (hb pins s1 σ H1 _ I1 q1) fun u s2 ⟨y,H2,I2,r2,q2⟩=>?_
 exact hf v u s2 x y H2 I2 r1 r2 q2
theorem Xa(ho:Cy X (nE op) r)(ha:PE X a ta)(hb:PE X b tb):PE X (.BinOp a op b pos) (bh r ta tb):=by
 intro pins s σ H Q I h
 exact wpAny_BinOp (Ye ha hb I h fun v u s2 x y H2 I2 rx ry q=>ho pins s2 σ H2 x y v u Q I2 rx ry q)
theorem Xb(ho:fB X (unaryOp op) r)(ha:PE X a ta):PE X (.UnaryOp op a pos) (il r ta):=by
 intro pins s σ H Q I h
 exact UnaryOp_ (Az (ha pins s σ H _ I h) fun v s1 ⟨x,H1,I1,r1,q1⟩=>ho pins s1 σ H1 x v Q I1 r1 q1)
theorem bE{g:Int→Int→Int}
  (rule:∀(i j:Int) (t u:Tok) (s:Shared) (Q:Value→Shared→Prop) (E:Value→Shared→Prop),C i j→Q (.int (g i j) s.toks) {s with toks:=s.toks+1}→wpAny (model X.prog X.w) X.A (f (.int i t) (.int j u)) Q E s):
  Cy X f (rI C fun i j=> .int (g i j)):=by
 intro pins s σ H x y v u Q I rx ry h
 obtain⟨i,j,rfl,rfl,hc,q⟩:=h
 obtain⟨t,rfl⟩:=rx
 obtain⟨t',rfl⟩:=ry
 exact rule i j t t' s _ _ hc ⟨.int (g i j),H,I.tok _,⟨_,rfl⟩,q⟩
theorem Yg{g:Int→Int→Int}
  (rule:∀(i j:Int) (t u:Tok) (s:Shared) (Q:Value→Shared→Prop) (E:Value→Shared→Prop),Q (.int (g i j) s.toks) {s with toks:=s.toks+1}→wpAny (model X.prog X.w) X.A (f (.int i t) (.int j u)) Q E s):
  Cy X f (RA fun i j=> .int (g i j)):=by
 intro pins s σ H x y v u Q I rx ry h
 obtain⟨i,j,rfl,rfl,q⟩:=h
 obtain⟨t,rfl⟩:=rx
 obtain⟨t',rfl⟩:=ry
 exact rule i j t t' s _ _ ⟨.int (g i j),H,I.tok _,⟨_,rfl⟩,q⟩
theorem Uy{g:Int→Int→Bool}
  (rule:∀(i j:Int) (t u:Tok) (s:Shared) (Q:Value→Shared→Prop) (E:Value→Shared→Prop),Q (.bool (g i j)) s→wpAny (model X.prog X.w) X.A (f (.int i t) (.int j u)) Q E s):
  Cy X f (RA fun i j=> .bl (g i j)):=by
 intro pins s σ H x y v u Q I rx ry h
 obtain⟨i,j,rfl,rfl,q⟩:=h
 obtain⟨t,rfl⟩:=rx
 obtain⟨t',rfl⟩:=ry
 exact rule i j t t' s _ _ ⟨.bl (g i j),H,I,rfl,q⟩
noncomputable def bj(i j:Int):Prop:=0<j∧j<1073741824
noncomputable def RB(i j:Int):Prop:=0≤j∧j≤1000000∧i.natAbs<2^64
noncomputable def CMul(i j:Int):Prop:=(-(2^64)<i∧i<2^64)∨(-(2^64)<j∧j<2^64)
theorem CMul.ok(h:CMul i j):IntMulOk i j:=by
 rcases h with⟨h1,h2⟩| ⟨h1,h2⟩
 ·exact .of_left (intBits_le_64 h1 h2)
 ·exact .of_right (intBits_le_64 h1 h2)
theorem MP(k:Nat):(0:Int)≤2^k:=by
 rw[two_pow_cast]
 exact Int.natCast_nonneg _
theorem RC:Cy X (nE .Add) (RA fun i j=> .int (i+j)):=Yg fun _ _ _ _ _ _ _ q=>add_int q
theorem Yh:Cy X (nE .Sub) (RA fun i j=> .int (i-j)):=Yg fun _ _ _ _ _ _ _ q=>sub_int q
theorem Yi:Cy X (nE .Mult) (rI CMul fun i j=> .int (i*j)):=bE fun _ _ _ _ _ _ _ hc q=>mul_int q hc.ok
theorem Uz:Cy X (nE .FloorDiv) (rI bj fun i j=> .int (i/j)):=bE fun i j _ _ _ _ _ hc q=>by
 have h1:(0:Int)<j:=hc.1
 have h2:j<1073741824:=hc.2
 exact floordiv_int (by omega) (by rw[Int.fdiv_eq_ediv_of_nonneg i (by omega)];exact q) (.inl (PyProof.noPylong_small (by omega)))
theorem Yj:Cy X (nE .Mod) (rI (fun _ j=>0<j) fun i j=> .int (i%j)):=bE fun i j _ _ _ _ _ hc q=>by
 have h1:(0:Int)<j:=hc
 exact mod_int' (by omega) (by rw[Int.fmod_eq_emod_of_nonneg i (by omega)];exact q)
theorem Yk:Cy X (nE .Pow) (rI RB fun i j=> .int (i^j.toNat)):=bE fun _ _ _ _ _ _ _ hc q=>pow_int_small hc.1 hc.2.1 hc.2.2 q
theorem Yl:Cy X (nE .LShift) (rI RB fun i j=> .int (i*2^j.toNat)):=bE fun _ _ _ _ _ _ _ hc q=>lshift_int_small hc.1 hc.2.1 hc.2.2 q
theorem Ym:Cy X (nE .RShift) (rI (fun _ j=>0≤j) fun i j=> .int (i/2^j.toNat)):=bE fun i j _ _ _ _ _ hc q=>
 rshift_int hc (by rw[Int.fdiv_eq_ediv_of_nonneg i (MP _)];exact q)
theorem Yn:Cy X (nE .BitXor) (RA fun i j=> .int (oB i j)):=Yg fun _ _ _ _ _ _ _ q=>xor_int q
theorem ip{g:Int→Int}
  (rule:∀(i:Int) (t:Tok) (s:Shared) (Q:Value→Shared→Prop) (E:Value→Shared→Prop),Q (.int (g i) s.toks) {s with toks:=s.toks+1}→wpAny (model X.prog X.w) X.A (f (.int i t)) Q E s):
  fB X f (rU fun i=> .int (g i)):=by
 intro pins s σ H x v Q I rx h
 obtain⟨i,rfl,q⟩:=h
 obtain⟨t,rfl⟩:=rx
 exact rule i t s _ _ ⟨.int (g i),H,I.tok _,⟨_,rfl⟩,q⟩
theorem RD:fB X (unaryOp .USub) (rU fun i=> .int (-i)):=ip fun _ _ _ _ _ q=>neg_int q
noncomputable def bo:V→V→Bool
 | .non,.non=>true| .non,.int _=>true| .int _,.non=>true| .non,.bl _=>true| .bl _,.non=>true| .non,.str _=>true| .str _,.non=>true
 | .int _,.int _=>true| .bl _,.bl _=>true| .str _,.str _=>true| .byt _,.byt _=>true
 | .int _,.str _=>true| .str _,.int _=>true| .bl _,.str _=>true| .str _,.bl _=>true
 |_,_=>false
noncomputable def fm:R2:=fun x y H Q=>bo x y=true∧Q (.bl (decide (x=y))) H
noncomputable def iN:R2:=fun x y H Q=>bo x y=true∧Q (.bl (!decide (x=y))) H
theorem Nn:decide (V.int i=V.int j)=(i==j):=by
 rw[nu]
 simp
theorem RE:decide (V.bl i=V.bl j)=(i==j):=by
 rw[nu]
 simp
theorem JL:decide (V.str i=V.str j)=(i==j):=by
 rw[nu]
 simp
theorem Np:decide (V.byt i=V.byt j)=(i.toList==j.toList):=by
 rw[nu]
 cases i
 cases j
 simp
section
variable {X:Cx} {a b:Expr} {ta tb tc:TE}
theorem Ab{σ:St}(I:Inv X pins σ H s)(q:Q (.bl k) H)(e:k=k'):EP X pins σ Q (.bool k') s:=by
 subst e
 exact⟨.bl k,H,I,rfl,q⟩
theorem Gm:Cy X (l5 .Eq) fm:=by
 intro pins s σ H x y v u Q I rx ry h
 obtain⟨hs,q⟩:=h
 cases x with
 |non=>
  cases rx
  cases y with
  |non=>cases ry;exact PySem.EqNone.eq_none_none (Ab I q (by simp))
  |bl j=>cases ry;exact PySem.EqNone.eq_none_bool (Ab I q (by simp))
  |int j=>obtain⟨t',rfl⟩:=ry;exact PySem.EqNone.eq_none_int (Ab I q (by simp))
  |str j=>obtain⟨t',rfl⟩:=ry;exact PySem.EqNone.eq_none_str (Ab I q (by simp))
  |_=>exact absurd (show false=true from hs) e8
 |bl i=>
  cases rx
  cases y with
  |non=>cases ry;exact PySem.EqNone.eq_bool_none (Ab I q (by simp))
  |bl j=>cases ry;exact eq_bool (Ab I q RE)
  |str j=>obtain⟨t',rfl⟩:=ry;exact PySem.EqMixed.eq_bool_str (Ab I q (by simp))
  |_=>exact absurd (show false=true from hs) e8
 |int i=>
  obtain⟨t,rfl⟩:=rx
  cases y with
  |non=>cases ry;exact PySem.EqNone.eq_int_none (Ab I q (by simp))
  |int j=>obtain⟨t',rfl⟩:=ry;exact eq_int (Ab I q Nn)
  |str j=>obtain⟨t',rfl⟩:=ry;exact PySem.EqMixed.eq_int_str (Ab I q (by simp))
  |_=>exact absurd (show false=true from hs) e8
 |str i=>
  obtain⟨t,rfl⟩:=rx
  cases y with
  |non=>cases ry;exact PySem.EqNone.eq_str_none (Ab I q (by simp))
  |bl j=>cases ry;exact PySem.EqMixed.eq_str_bool (Ab I q (by simp))
  |int j=>obtain⟨t',rfl⟩:=ry;exact PySem.EqMixed.eq_str_int (Ab I q (by simp))
  |str j=>obtain⟨t',rfl⟩:=ry;exact eq_str (Ab I q JL)
  |_=>exact absurd (show false=true from hs) e8
 |byt i=>
  obtain⟨t,rfl⟩:=rx
  cases y with
  |byt j=>obtain⟨t',rfl⟩:=ry;exact PySem.W.eq_bytes (Ab I q Np)
  |_=>exact absurd (show false=true from hs) e8
 |_=>cases y<;>exact absurd (show false=true from hs) e8
theorem RF:Cy X (l5 .NotEq) iN:=by
 intro pins s σ H x y v u Q I rx ry h
 obtain⟨hs,q⟩:=h
 cases x with
 |non=>
  cases rx
  cases y with
  |non=>cases ry;exact PySem.EqNone.ne_none_none (Ab I q (by simp))
  |bl j=>cases ry;exact PySem.EqNone.ne_none_bool (Ab I q (by simp))
  |int j=>obtain⟨t',rfl⟩:=ry;exact PySem.EqNone.ne_none_int (Ab I q (by simp))
  |str j=>obtain⟨t',rfl⟩:=ry;exact PySem.EqNone.ne_none_str (Ab I q (by simp))
  |_=>exact absurd (show false=true from hs) e8
 |bl i=>
  cases rx
  cases y with
  |non=>cases ry;exact PySem.EqNone.ne_bool_none (Ab I q (by simp))
  |bl j=>cases ry;exact ne_bool (Ab I q (congrArg not RE))
  |str j=>obtain⟨t',rfl⟩:=ry;exact PySem.EqMixed.ne_bool_str (Ab I q (by simp))
  |_=>exact absurd (show false=true from hs) e8
 |int i=>
  obtain⟨t,rfl⟩:=rx
  cases y with
  |non=>cases ry;exact PySem.EqNone.ne_int_none (Ab I q (by simp))
  |int j=>obtain⟨t',rfl⟩:=ry;exact ne_int (Ab I q (congrArg not Nn))
  |str j=>obtain⟨t',rfl⟩:=ry;exact PySem.EqMixed.ne_int_str (Ab I q (by simp))
  |_=>exact absurd (show false=true from hs) e8
 |str i=>
  obtain⟨t,rfl⟩:=rx
  cases y with
  |non=>cases ry;exact PySem.EqNone.ne_str_none (Ab I q (by simp))
  |bl j=>cases ry;exact PySem.EqMixed.ne_str_bool (Ab I q (by simp))
  |int j=>obtain⟨t',rfl⟩:=ry;exact PySem.EqMixed.ne_str_int (Ab I q (by simp))
  |str j=>obtain⟨t',rfl⟩:=ry;exact ne_str (Ab I q (congrArg not JL))
  |_=>exact absurd (show false=true from hs) e8
 |byt i=>
  obtain⟨t,rfl⟩:=rx
  cases y with
  |byt j=>obtain⟨t',rfl⟩:=ry;exact PySem.W.ne_bytes (Ab I q (congrArg not Np))
  |_=>exact absurd (show false=true from hs) e8
 |_=>cases y<;>exact absurd (show false=true from hs) e8
theorem Gp:Cy X (l5 .Lt) (RA fun i j=> .bl (decide (i<j))):=Uy fun _ _ _ _ _ _ _ q=>lt_int q
theorem Nq:Cy X (l5 .LtE) (RA fun i j=> .bl (decide (i≤j))):=Uy fun _ _ _ _ _ _ _ q=>le_int q
theorem bp:Cy X (l5 .Gt) (RA fun i j=> .bl (decide (j<i))):=Uy fun _ _ _ _ _ _ _ q=>gt_int q
theorem Xc:Cy X (l5 .GtE) (RA fun i j=> .bl (decide (j≤i))):=Uy fun _ _ _ _ _ _ _ q=>ge_int q
theorem RG:Cy X (l5 .Is) (fun x y H Q=>y=.non∧Q (.bl (decide (x=.non))) H):=by
 intro pins s σ H x y v u Q I rx ry h
 obtain⟨rfl,q⟩:=h
 cases ry
 refine is_none_gen (Ab I q ?_)
 cases x<;>first
  | (cases rx;rfl)
  | (obtain⟨t,rfl⟩:=rx;rfl)
theorem VA:Cy X (l5 .IsNot) (fun x y H Q=>y=.non∧Q (.bl (!decide (x=.non))) H):=by
 intro pins s σ H x y v u Q I rx ry h
 obtain⟨rfl,q⟩:=h
 cases ry
 refine isnot_none_gen (Ab I q ?_)
 cases x<;>first
  | (cases rx;rfl)
  | (obtain⟨t,rfl⟩:=rx;rfl)
theorem Ao(b:Expr)(h:op≠.In:=by decide)(h2:op≠.NotIn:=by decide):behindInMarks op b=false:=by
 have e1:(op==CmpOp.In)=false:=by cases op<;>first|rfl|exact absurd rfl h
 have e2:(op==CmpOp.NotIn)=false:=by cases op<;>first|rfl|exact absurd rfl h2
 cases b<;>simp[behindInMarks,e1,e2]
theorem VB(ho:Cy X (l5 op) r)(ha:PE X a ta)(hb:PE X b tb)(hm:behindInMarks op b=false):PE X (.Compare a [op] [b] pos) (bh r ta tb):=by
 intro pins s σ H Q I h
 exact wpAny_Compare1 (Ye ha hb I h fun v u s2 x y H2 I2 rx ry q=>ho pins s2 σ H2 x y v u Q I2 rx ry q) hm
noncomputable def bq(t:TE):TT:=fun σ H Q=>t σ H fun x H'=>∃k,x=.bl k∧Q k H'
theorem ED(ho:Cy X (l5 op) r)(ha:PE X a ta)(hb:PE X b tb)(hm:behindInMarks op b=false):PT X (.Compare a [op] [b] pos) (bq (bh r ta tb)):=by
 intro pins s σ H Q I h
 refine wpAny_isTrue_Compare1 (Az (ha pins s σ H _ I h) fun v s1 ⟨x,H1,I1,r1,q1⟩=>Az (hb pins s1 σ H1 _ I1 q1) fun u s2 ⟨y,H2,I2,r2,q2⟩=>
  Az (ho pins s2 σ H2 x y v u _ I2 r1 r2 q2) fun c s3 ⟨z,H3,I3,r3,k,e,q3⟩=>?_) hm
 subst e
 cases r3
 exact nF ⟨H3,I3,q3⟩
noncomputable def Yo(r r':R2)(ta tb tc:TE):TE:=fun σ H Q=>ta σ H fun x H1=>tb σ H1 fun y H2=>r x y H2 fun z H3=>∃k,z=.bl k∧
 (if k=true then tc σ H3 fun w' H4=>r' y w' H4 Q else Q (.bl false) H3)
theorem RH(ho:Cy X (l5 op) r)(ho':Cy X (l5 op') r')(ha:PE X a ta)(hb:PE X b tb)(hc:PE X c tc)
  (hm:lastMarks [op,op'] [b,c]=false:=by with_unfolding_all rfl):PE X (.Compare a [op,op'] [b,c] pos) (Yo r r' ta tb tc):=by
 intro pins s σ H Q I h
 refine Compare_chain (Az (ha pins s σ H _ I h) fun v s1 ⟨x,H1,I1,r1,q1⟩=>chain_link (Az (hb pins s1 σ H1 _ I1 q1) fun u s2 ⟨y,H2,I2,r2,q2⟩=>
  Az (ho pins s2 σ H2 x y v u _ I2 r1 r2 q2) fun d s3 ⟨z,H3,I3,r3,k,e,q3⟩=>?_)) hm
 subst e
 cases r3
 refine nF ?_
 cases k with
 |false=>exact ite_ff ⟨.bl false,H3,I3,rfl,q3⟩
 |true=>exact ite_tt (chain_last (Az (hc pins s3 σ H3 _ I3 q3) fun w' s4 ⟨z',H4,I4,r4,q4⟩=>ho' pins s4 σ H4 y z' u w' Q I4 r2 r4 q4))
noncomputable def Yp(K:a8)(x:V)(H:Hp)(k:Bool):Prop:=
 match x with
 | .non=>k=false
 | .bl b=>k=b
 | .int i=>k=(i !=0)
 | .str y=>y.length≤sizeLine∧k=((y.length:Int) !=0)
 | .byt y=>y.size≤sizeLine∧k=((y.size:Int) !=0)
 | .ref p=> (∃xs,SqL K H p xs∧k=!xs.isEmpty)∨(∃xs,GG K H p xs∧k=!xs.isEmpty)∨∃kvs,H p=some (.dK kvs)∧k=!kvs.isEmpty
 |_=>False
theorem MQ{vs:List (κ×Value)}(r:KV kvs vs):(!vs.isEmpty)=!kvs.isEmpty:=by
 cases r<;>rfl
theorem Gq(r:Vals xs its):(!its.toArray.isEmpty)=!xs.isEmpty:=by
 cases r<;>simp
theorem Fd:(sizeLine:Nat)<2^63:=by rw[lB];decide
theorem Yq:fk X (fun x H Q=>∃k,Yp X.K x H k∧Q k H):=by
 intro pins s σ H x v Q I rx h
 obtain⟨k,e,q⟩:=h
 have hl:=Fd
 have hs:sizeLine=16777216:=lB
 cases x with
 |non=>
  cases rx
  have e':k=false:=e
  subst e'
  exact truthy_none ⟨H,I,q⟩
 |bl b=>
  cases rx
  have e':k=b:=e
  subst e'
  exact nF ⟨H,I,q⟩
 |int i=>
  obtain⟨t,rfl⟩:=rx
  have e':k=(i !=0):=e
  subst e'
  exact PySem.P.truthy_int ⟨H,I,q⟩
 |str y=>
  obtain⟨t,rfl⟩:=rx
  obtain⟨hy,e'⟩:y.length≤sizeLine∧k=((y.length:Int) !=0):=e
  subst e'
  exact PySem.P.truthy_str (by omega) ⟨H,I.tok _,q⟩
 |byt y=>
  obtain⟨t,rfl⟩:=rx
  obtain⟨hy,e'⟩:y.size≤sizeLine∧k=((y.size:Int) !=0):=e
  subst e'
  exact PySem.W.truthy_bytes (by omega) ⟨H,I.tok _,q⟩
 |ref p=>
  cases rx
  have e':(∃xs,SqL X.K H p xs∧k=!xs.isEmpty)∨(∃xs,GG X.K H p xs∧k=!xs.isEmpty)∨∃kvs,H p=some (.dK kvs)∧k=!kvs.isEmpty:=e
  rcases e' with⟨xs,hx,e'⟩| ⟨xs,hx,e'⟩| ⟨kvs,hx,e'⟩
  ·subst e'
   obtain⟨its,r,pl,hz⟩:=I.list hx
   have hlen:=r.length
   exact wpAny_truthy_list pl.isList (by simp only[jy];omega) ⟨H,I.tok _,by rw[Gq r];exact q⟩
  ·subst e'
   obtain⟨its,r,pl,hz⟩:=I.tuple hx
   have hlen:=r.length
   exact truthy_tuple pl (by simp only[jy];omega) ⟨H,I.tok _,by rw[Gq r];exact q⟩
  ·subst e'
   obtain⟨hz,hS,vs,r,m⟩:kvs.length≤sizeLine∧(p==pK)=false∧∃vs,KV kvs vs∧s.heap.DictOf (Bh X.prog X.w) p vs:=I.hok p _ hx
   have hlen:kvs.length=vs.length:=Paired.length r
   exact wpAny_truthy_dict hS m (by omega) ⟨H,I.tok _,by rw[MQ r];exact q⟩
 |_=>exact(show False from e).elim
theorem Kb(ha:PE X a ta)(he:∀whole,isTrue a X.env whole=(do let v←whole;standAt a.pos;holding [v] (truthy v))):
  PT X a (fun σ H Q=>ta σ H fun x H'=>∃k,Yp X.K x H' k∧Q k H'):=by
 intro pins s σ H Q I h
 exact isTrue_plain (Az (ha pins s σ H _ I h) fun v s1 ⟨x,H1,I1,r1,q1⟩=>Yq pins s1 σ H1 x v Q I1 r1 q1) (he _)
theorem GH(r:Vals [x] us):∃u,us=[u]∧RelV x u:=by
 cases r with
 |cons r1 r2=>cases r2;exact⟨_,rfl,r1⟩
theorem Nr(r:Vals [x,y] us):∃u w',us=[u,w']∧RelV x u∧RelV y w':=by
 cases r with
 |cons r1 r2=>
  cases r2 with
  |cons r3 r4=>cases r4;exact⟨_,_,rfl,r1,r3⟩
theorem Pe(hc:X.calm=true):Bb X (.builtin "max") (fun xs H Q=>∃i j,xs=[.int i,.int j]∧Q (.int (if j>i then j else i)) H):=by
 intro pins s σ H xs us Q I r h
 obtain⟨i,j,rfl,q⟩:=h
 obtain⟨u,w',rfl,⟨t,rfl⟩,⟨t',rfl⟩⟩:=Nr r
 refine max_two_ints (I.ok.hd hc) fun h' tk k=> ⟨_,H,I.kept k,?_,q⟩
 by_cases hj:j>i
 ·rw[if_pos hj,if_pos hj];exact⟨_,rfl⟩
 ·rw[if_neg hj,if_neg hj];exact⟨_,rfl⟩
theorem Pf(hc:X.calm=true):Bb X (.builtin "min") (fun xs H Q=>∃i j,xs=[.int i,.int j]∧Q (.int (if j<i then j else i)) H):=by
 intro pins s σ H xs us Q I r h
 obtain⟨i,j,rfl,q⟩:=h
 obtain⟨u,w',rfl,⟨t,rfl⟩,⟨t',rfl⟩⟩:=Nr r
 refine min_two_ints (I.ok.hd hc) fun h' tk k=> ⟨_,H,I.kept k,?_,q⟩
 by_cases hj:j<i
 ·rw[if_pos hj,if_pos hj];exact⟨_,rfl⟩
 ·rw[if_neg hj,if_neg hj];exact⟨_,rfl⟩
theorem Pg:Bb X (.type "int") (fun xs H Q=> (∃i,xs=[.int i]∧Q (.int i) H)∨∃k,xs=[.bl k]∧Q (.int (if k then 1 else 0)) H):=by
 intro pins s σ H xs us Q I r h
 rcases h with⟨i,rfl,q⟩| ⟨k,rfl,q⟩
 ·obtain⟨u,rfl,t,rfl⟩:=GH r
  exact call_int_int ⟨.int i,H,I,⟨_,rfl⟩,q⟩
 ·obtain⟨u,rfl,r1⟩:=GH r
  cases r1
  exact call_int_bool ⟨.int (if k then 1 else 0),H,I.tok _,⟨_,rfl⟩,q⟩
end
structure ObjM(h:Heap)(x dx C:Addr)(mA:Str→Option Value):Prop where
 obj:h.get? x=some (sF C dx)
 ns:h.Ns1 dx mA
 ne:dx≠x
theorem Ph{h:Heap}(n:h.Ns1 dx mA):∃od,h.get? dx=some od∧∀name,sU name od=some (mA name):=by
 obtain⟨o,es,ep,ho,hd,hk,_,hm⟩:=n
 refine⟨o,ho,fun name=>?_⟩
 have e:=hm name
 unfold nsFind findBy at e
 rw[←Array.find?_toList] at e
 unfold sU
 rw[hd]
 dsimp only
 split
 ·rename_i y q
  rw[q] at e
  exact congrArg some e
 ·rename_i q
  rw[q] at e
  have a:es.toList.any (·.refKey)=false:=by
   rw[List.any_eq_false]
   intro y hy
   obtain⟨z,t,hkey⟩:=hk y (Array.mem_toList_iff.mp hy)
   simp[DictEntry.refKey,hkey]
  have a':¬es.toList.any (·.refKey)=true:=by rw[a];exact e8
  rw[if_neg a']
  exact congrArg some e
theorem ObjM.look(I:ObjM h x dx C mA):∃od,PySem.W.InstAt h x (sF C dx) C (some od)∧∀name,sU name od=some (mA name):=
 let⟨od,ho,hl⟩:=Ph I.ns
 ⟨od,⟨I.obj,rfl,rfl,ho⟩,hl⟩
section
variable {K:a8}
theorem VC(X:K.In s.heap)(I:ObjM s.heap x dx C mA)(hg:rV K C name=true)(hh:PySem.W.hasDictIn K C=true)
  (ha:nh K (.ref C) name=some none) (hv:mA name=some v) (hv':PySem.W.handedIn v=true) (h:Q v {s with toks:=s.toks+1}):
  wpAny (model prog w) A (getAttr (.ref x) name expr) Q E s:=by
 obtain⟨od,J,hl⟩:=I.look
 exact PySem.W.get_value X J (PySem.W.plainGet_of hg).1 (PySem.W.findObj_own hh ha rfl (by rw[hl,hv])) hv' h
end
theorem RelO.some_of(r:RelO (some v) o):∃u,o=some u∧RelV v u:=by
 cases o with
 |none=>exact(show False from r).elim
 |some u=>exact⟨u,rfl,r⟩
theorem Pi(r:RelV v u):PySem.W.handedIn u=true:=by
 cases v with
 |non=>cases(show u=nU from r);rfl
 |bl b=>cases(show u=qf b from r);rfl
 |int i=>obtain⟨t,e⟩:=(show∃t,u=Value.int i t from r);cases e;rfl
 |str x=>obtain⟨t,e⟩:=(show∃t,u=qd x t from r);cases e;rfl
 |byt b=>obtain⟨t,e⟩:=(show∃t,u=Value.bytes b t from r);cases e;rfl
 |flt b=>obtain⟨t,e⟩:=(show∃t,u=ue b t from r);cases e;rfl
 |ref a=>cases(show u=Value.ref a from r);rfl
 |ty n=>cases(show u=oh n from r);rfl
theorem Nt(hok:HOk P w H h)(e:H a=some (.ins C dx fs)):∃mA,ObjM h a dx C mA∧(∀f,RelO (fs.lookup f) (mA f))∧t5 mA (fs.map (·.1))∧fs.length≤1000∧H dx=some (.own a):=by
 obtain⟨d,z,ne,ob,mA,n,r,q⟩:=(show ObjOk P w H h a (.ins C dx fs) from hok a _ e)
 exact⟨mA,⟨ob,n,ne⟩,r,q,z,d⟩
structure Cls(K:a8)(C:Addr):Prop where
 pg:rV K C Str.empty=true
 hd:PySem.W.hasDictIn K C=true
 po:PySem.W.plainOver K C=true
 sa:nh K (.ref C) "__setattr__" =some (some (.builtin "object.__setattr__"))
theorem Cls.get{K:a8}(c:Cls K C)(f:Str):rV K C f=true:=c.pg
noncomputable def RI(K:a8)(C:Addr)(f:Str):Prop:=nh K (.ref C) f=some none
section
variable {σ:St}
theorem MR(I:Inv X pins σ H s)(e:H a=some (.ins C dx fs))(c:Cls X.K C)(n:RI X.K C f)(l:fs.lookup f=some v)
  (h:∀u s',Inv X pins σ H s'→RelV v u→Q u s'):wpAny (model X.prog X.w) A (getAttr (.ref a) f b) Q E s:=by
 obtain⟨mA,O,r,_,_,_⟩:=Nt I.hok e
 obtain⟨u,hu,ru⟩:=RelO.some_of (v:=v) (o:=mA f) (by rw[←l];exact r f)
 exact VC I.kIn O (c.get f) c.hd n hu (Pi ru) (h u _ (I.tok _) ru)
theorem VD(hb:oJ e f env (eval e env)=eval e env)
  (h:wpAny (model prog w) A (eval e env) (fun o s₁=>wpAny (model prog w) A (getAttr o f true) Q E s₁) E s):wpAny (model prog w) A (eval (.Attribute e f pos) env) Q E s:=
 Attribute_any_ h (by rw[arm_eval_Attribute,hb])
end
noncomputable def fo(K:a8)(ta:TE)(f:Str):TE:=fun σ H Q=>ta σ H fun x H1=>∃a C dx fs v,x=.ref a∧H1 a=some (.ins C dx fs)∧Cls K C∧RI K C f∧fs.lookup f=some v∧Q v H1
theorem MS(he:PE X e ta)(hb:oJ e f X.env (eval e X.env)=eval e X.env):PE X (.Attribute e f pos) (fo X.K ta f):=by
 intro pins s σ H Q I h
 refine VD hb (Az (he pins s σ H _ I h) fun u s1 ⟨x,H1,I1,rx,a,C,dx,fs,v,ex,ea,c,n,l,q⟩=>?_)
 subst ex
 obtain rfl:u=Value.ref a:=rx
 exact MR I1 ea c n l fun u' s2 I2 ru=> ⟨v,H1,I2,ru,q⟩
section
variable {σ:St} {H:Hp}
inductive TyOf(K:a8)(H:Hp):V→Value→Prop where
 |non:TyOf K H .non (.type "NoneType")
 |bl (x:Bool):TyOf K H (.bl x) (.type "bool")
 |int (i:Int):TyOf K H (.int i) (.type "int")
 |str (x:Str):TyOf K H (.str x) (.type "str")
 |flt (x:UInt64):TyOf K H (.flt x) (.type "float")
 |lst {a:Addr} {xs:List V} (e:H a=some (.lst xs)):TyOf K H (.ref a) (.type "list")
 |frz {a:Addr} {o:Obj} {xs:List V} (e:H a=some (.frz o (.lst xs))):TyOf K H (.ref a) (.type "list")
 |tup {a:Addr} {xs:List V} (e:H a=some (.tup xs)):TyOf K H (.ref a) (.type "tuple")
 |dK {a:Addr} {kvs:List (FZ×V)} (e:H a=some (.dK kvs)):TyOf K H (.ref a) (.type "dict")
 |dT {a:Addr} {kvs:List (List FZ×V)} (e:H a=some (.dT kvs)):TyOf K H (.ref a) (.type "dict")
 |ins {a C dx:Addr} {fs:List (Str×V)} (e:H a=some (.ins C dx fs)) (cl:Cls K C) (ha:nh K (.ref C) "__class__" =some (some (.builtin "object.__class__")))
   (hn:rF K (.builtin "object.__class__") "__get__" =some (some (.builtin "getset_descriptor.__get__"))) (htk:sD K (.builtin "object.__class__")=some true)
   (hm:m9 K C (.type "object")=some true):TyOf K H (.ref a) (.ref C)
theorem Pj(I:Inv X pins σ H s)(rx:RelV x u)(ty:TyOf X.K H x t)(e:js X.K t c=some b)(h:∀tk,Q (.bool b) {s with toks:=tk}):
  wpAny (model X.prog X.w) A (call (.builtin "isinstance") [u,c]) Q E s:=by
 cases ty with
 |non=>cases(show u=nU from rx);exact mh PySem.W.kitx_none I.kIn pL e (fun z=>nomatch z) h
 |bl y=>cases(show u=qf y from rx);exact mh PySem.W.kitx_bool I.kIn pL e (fun z=>nomatch z) h
 |int i=>obtain⟨t,q⟩:=(show∃t,u=Value.int i t from rx);cases q;exact mh PySem.W.kitx_int I.kIn pL e (fun z=>nomatch z) h
 |str y=>obtain⟨t,q⟩:=(show∃t,u=qd y t from rx);cases q;exact mh PySem.W.kitx_str I.kIn pL e (fun z=>nomatch z) h
 |flt y=>obtain⟨t,q⟩:=(show∃t,u=ue y t from rx);cases q;exact mh PySem.W.kitx_float I.kIn pL e (fun z=>nomatch z) h
 | @lst a xs ea=>
  cases(show u=Value.ref a from rx)
  obtain⟨_,_,n,_,h1⟩:=(show ObjOk X.prog X.w H s.heap a (.lst xs) from I.hok a _ ea)
  exact mh PySem.W.kitx_list I.kIn ⟨_,h1,rfl⟩ e (fun z=>nomatch z) h
 | @frz a ob xs ea=>
  cases(show u=Value.ref a from rx)
  obtain⟨_,_,_,n,_,h1⟩:=(show ObjOk X.prog X.w H s.heap a (.frz ob (.lst xs)) from I.hok a _ ea)
  exact mh PySem.W.kitx_list I.kIn ⟨_,h1,rfl⟩ e (fun z=>nomatch z) h
 | @tup a xs ea=>
  cases(show u=Value.ref a from rx)
  obtain⟨_,_,_,p⟩:=(show ObjOk X.prog X.w H s.heap a (.tup xs) from I.hok a _ ea)
  obtain⟨o,h1,h2,_⟩:=p
  exact mh PySem.W.kitx_tuple I.kIn ⟨o,h1,h2⟩ e (fun z=>nomatch z) h
 | @dK a kvs ea=>
  cases(show u=Value.ref a from rx)
  obtain⟨_,_,vs,_,p⟩:=(show ObjOk X.prog X.w H s.heap a (.dK kvs) from I.hok a _ ea)
  obtain⟨o,es,ep,h1,h2,_⟩:=p
  exact mh PySem.W.kitx_dict I.kIn ⟨o,h1,h2.1⟩ e (fun z=>nomatch z) h
 | @dT a kvs ea=>
  cases(show u=Value.ref a from rx)
  obtain⟨_,_,xs,_,o,es,ep,h1,h2,_⟩:=(show ObjOk X.prog X.w H s.heap a (.dT kvs) from I.hok a _ ea)
  exact mh PySem.W.kitx_dict I.kIn ⟨o,h1,h2.1⟩ e (fun z=>nomatch z) h
 | @ins a C dx fs ea cl ha hn htk hm=>
  cases(show u=Value.ref a from rx)
  obtain⟨mA,O,_⟩:=Nt I.hok ea
  obtain⟨od,J,_⟩:=O.look
  exact mh (PySem.W.kitx_own (cl.get _) cl.hd ha hn htk hm) I.kIn J e (fun z=>nomatch z) h
end
structure Room(k:Nat)(A:j6):Prop where
 hd:A.handled=none
 dp:A.depth+3*k+5<sP
 un:A.units+16*k+200<cLine
 gd:A.guards=some []
theorem Room.mono(r:Room k A)(h:j≤k):Room j A:=⟨r.hd,by have:=r.dp;omega,by have:=r.un;omega,r.gd⟩
theorem Room.deeper(r:Room (k+1) A)(env:Env):Room k (A.deeper env):=
 ⟨r.hd,by have:=r.dp;show A.depth+1+3*k+5<_;omega,by have:=r.un;show A.units+3+16*k+200<_;omega,r.gd⟩
theorem Room.depth(r:Room k A):A.depth<sP:=by have:=r.dp;omega
noncomputable def fq:TA:=fun _ H Q=>Q [] H
noncomputable def br(ta:TE)(tr:TA):TA:=fun σ H Q=>ta σ H fun x H1=>tr σ H1 fun xs H2=>Q (x::xs) H2
section
variable {X:Cx} {e:Expr} {es:List Expr} {te:TE} {t:TA}
theorem Au:PA X [] fq:=fun _ _ _ _ H Q I h=>Calls.spliced_nil ⟨[],H,I,.nil,h⟩
theorem AJ(ha:PE X e te)(hr:PA X es t)(hs:i5 (e::es) X.env=(false,eval e X.env)::i5 es X.env:=by rfl):PA X (e::es) (br te t):=by
 intro pos pins s σ H Q I h
 rw[hs]
 show wpAny _ _ (spliced ((false,eval e X.env)::mS pos (i5 es X.env))) _ _ s
 refine Calls.spliced_cons (Az (ha pins s σ H _ I h) fun u s1 ⟨x,H1,I1,r1,q1⟩=>?_)
 exact Az (hr pos pins s1 σ H1 _ I1 q1) fun us s2 ⟨xs,H2,I2,r2,q2⟩=> ⟨x::xs,H2,I2,.cons r1 r2,q2⟩
noncomputable def fw(t:TA):TE:=fun σ H Q=>t σ H fun xs H1=>xs.length≤sizeLine∧∀p,H1 p=none→Q (.ref p) (upd H1 p (.tup xs))
noncomputable def fz(t:TA):TE:=fun σ H Q=>t σ H fun xs H1=>xs.length≤sizeLine∧∀p,H1 p=none→Q (.ref p) (upd H1 p (.lst xs))
theorem JM(h:PA X es t):PE X (.Tuple es x1 pos) (fw t):=by
 intro pins s σ H Q I hq
 refine wpAny_Tuple_spliced (Az (h pos pins s σ H _ I hq) fun us s1 ⟨xs,H1,I1,r,z,q⟩=> ⟨by rw[←r.length];exact z,?_⟩)
 have hf:H1 s1.heap.objs.size=none:=I1.hok.fresh (jm _)
 refine⟨.ref s1.heap.objs.size,upd H1 s1.heap.objs.size (.tup xs),I1.laid (t':=s1.toks) (fun b u e=>c9 _ e) (jm _) ?_,rfl,q _ hf⟩
 exact⟨z,us,r,⟨_,kb _ rfl,rfl,_,rfl⟩⟩
theorem Gu(h:PA X es t):PE X (.List es pos) (fz t):=by
 intro pins s σ H Q I hq
 refine wpAny_List_spliced (Az (h pos pins s σ H _ I hq) fun us s1 ⟨xs,H1,I1,r,z,q⟩=> ⟨by rw[←r.length];exact z,?_⟩)
 have hf:H1 s1.heap.objs.size=none:=I1.hok.fresh (jm _)
 refine⟨.ref s1.heap.objs.size,upd H1 s1.heap.objs.size (.lst xs),I1.laid (t':=s1.toks) (fun b u e=>c9 _ e) (jm _) ?_,rfl,q _ hf⟩
 exact⟨z,us,0,r,kb _ rfl⟩
end
noncomputable abbrev Sp:=List V→Hp→VK→XK→Prop
noncomputable abbrev RJ:=List Env→Hp→Shared→XK→Value→Shared→Prop
structure Env0(P:Program)(w:World)(K:a8)(mg:Str→Option Value)(base:Heap)(A:j6)(outer:List Env)(s:Shared)(H:Hp):Prop where
 frames:A.frames=some outer
 mod:Mod K mg base
 bs:∀b o,base.get? b=some o→s.heap.get? b=some o∧H b=none
 bsz:base.objs.size≤s.heap.objs.size
 funs:s.heap.FunFrames base outer
 frf:∀b∈Fb outer,H b=none
 hok:HOk P w H s.heap
 bare:qN s.gens
noncomputable def CE(outer:List Env)(P:Program)(w:World)(H:Hp)(s:Shared)(Q:VK)(u:Value)(s':Shared):Prop:=
 ∃v H',s'.os=s.os∧qN s'.gens∧Un (Fb outer) [] H H' s.heap s'.heap∧HOk P w H' s'.heap∧RelV v u∧Q v H'
noncomputable def CR(CX:RJ)(outer:List Env)(P:Program)(w:World)(H:Hp)(s:Shared)(Q:VK)(E:XK)(r:tP)(s':Shared):Prop:=
 match r with
 | .ok (.ret u)=>CE outer P w H s Q u s'
 | .ok _=>False
 | .error e=>CX outer H s E e s'
structure FnOk(P:Program)(w:World)(K:a8)(mg:Str→Option Value)(base:Heap)(CX:RJ)(k:Nat)(f:Addr)(fd:j5)(ps:List Str)(sp:Sp):Prop where
 len:∀vs H Q E,sp vs H Q E→vs.length=ps.length
 run:∀(A:j6) (outer:List Env) (s:Shared) (H:Hp) (args:Args) (us:List Value) (vs:List V) (Q:VK) (E:XK),Room k A→Env0 P w K mg base A outer s H→tD s fd args (ps.zip us)→Vals vs us→sp vs H Q E→
  oF (model P w) A (.call (.ref f) args) (CR CX outer P w H s Q E) s
section
variable {σ:St}
theorem Inv.env0(I:Inv X pins σ H s):Env0 X.prog X.w X.K X.mg X.base X.A X.stack s H:=
 ⟨I.ok.frames,I.ok.mod,I.bs,kO I.ok.bsz I.sz,I.stack,I.stkFree,I.hok,I.bare⟩
theorem Inv.after(I:Inv X pins σ H s)(h:CE X.stack X.prog X.w H s Q u s'):EP X pins σ Q u s':=by
 obtain⟨v,H',os,bare,un,hok,r,q⟩:=h
 obtain⟨hh,g,d,t,os'⟩:=s'
 obtain rfl:os'=s.os:=os
 exact⟨v,H',I.call (h':=hh) (g':=g) (d':=d) (t':=t) (ch:=[]) un hok bare (fun b z=>absurd z (by simp)),r,q⟩
end
noncomputable def Binds(K:a8)(fd:j5)(ps:List Str)(ds:List Value):Prop:=
 ∀(s:Shared) (us:List Value),K.In s.heap→(us++ds).length=ps.length→tD s fd ⟨us,[]⟩ (ps.zip (us++ds))
theorem Binds.all{K:a8}(h:∀us:List Value,us.length=ps.length→bindArgs fd ⟨us,[]⟩=pure (ps.zip us)):Binds K fd ps []:=fun s us _ hl=>by
 rw[mX] at hl ⊢
 exact .of_eq (h us hl)
structure FnScope(N P:List Str)(sc:Scope):Prop where
 kind:sc.kind=.function
 co:sc.isCoroutine=false
 gen:sc.isGenerator=false
 nd:N.Nodup
 pre:N.take P.length=P
 par:∀x∈P,sc.names.lookup x=some .local∨sc.names.lookup x=some .cell
 nofree:∀y∈sc.names,y.2≠.free
theorem IY{kindOf:Str→Option NameKind}:∀{binds:List (Str×Value)} {m:Str→Option Value},(∀v,(x,v)∉binds)→bindL kindOf binds m x=m x
 | [],_,_=>rfl
 | (n,v)::r,m,h=>by
  unfold bindL
  rw[IY fun w hw=>h w (jt _ hw)]
  split
  ·have:x≠n:=by rintro rfl;exact h v j4
   simp[this]
  ·rfl
theorem IZ{kindOf:Str→Option NameKind}:∀{binds:List (Str×Value)} {m:Str→Option Value},(∀v,(x,v)∉binds)→bindC kindOf binds m x=m x
 | [],_,_=>rfl
 | (n,v)::r,m,h=>by
  unfold bindC
  rw[IZ fun w hw=>h w (jt _ hw)]
  split
  ·rfl
  ·have:x≠n:=by rintro rfl;exact h v j4
   simp[this]
theorem Ia{kindOf:Str→Option NameKind}:∀{P:List Str} {vs:List Value} {i:Nat} {m:Str→Option Value},P.Nodup→P[i]?=some x→vs[i]?=some v→kindOf x=some .local→
  bindL kindOf (P.zip vs) m x=some v
 | [],_,_,_,_,h,_,_=>by simp at h
 |_::_,[],_,_,_,_,h,_=>by simp at h
 |p::P,w::vs,0,m,nd,h1,h2,hk=>by
  simp at h1 h2;subst h1;subst h2
  show bindL kindOf ((p,w)::P.zip vs) m p=_
  unfold bindL
  rw[IY fun v hv=> (mE.mp nd).1 (qE hv).1,if_pos hk]
  simp
 |p::P,w::vs,i+1,m,nd,h1,h2,hk=>by
  show bindL kindOf ((p,w)::P.zip vs) m x=_
  unfold bindL
  exact Ia (i:=i) (mE.mp nd).2 (by simpa using h1) (by simpa using h2) hk
theorem Ib{kindOf:Str→Option NameKind}:∀{P:List Str} {vs:List Value} {i:Nat} {m:Str→Option Value},P.Nodup→P[i]?=some x→vs[i]?=some v→kindOf x≠some .local→
  bindC kindOf (P.zip vs) m x=some v
 | [],_,_,_,_,h,_,_=>by simp at h
 |_::_,[],_,_,_,_,h,_=>by simp at h
 |p::P,w::vs,0,m,nd,h1,h2,hk=>by
  simp at h1 h2;subst h1;subst h2
  show bindC kindOf ((p,w)::P.zip vs) m p=_
  unfold bindC
  rw[IZ fun v hv=> (mE.mp nd).1 (qE hv).1,if_neg hk]
  simp
 |p::P,w::vs,i+1,m,nd,h1,h2,hk=>by
  show bindC kindOf ((p,w)::P.zip vs) m x=_
  unfold bindC
  exact Ib (i:=i) (mE.mp nd).2 (by simpa using h1) (by simpa using h2) hk
noncomputable def start(N:List Str)(vs:List V):St:=vs.map some++j0 (N.length-vs.length) none
noncomputable def CM(CX:RJ)(P:Program)(w:World)(K:a8)(mg:Str→Option Value)(base:Heap)(N:List Str)(qual:Str)(scope:Scope)(f:Addr)(cd:Value)(A:j6)(outer:List Env)(s:Shared)(H:Hp)(E:XK):Cx where
 prog:=P
 w:=w
 K:=K
 mg:=mg
 base:=base
 A:=A.deeper (nI qual scope s.heap.objs.size f cd)
 N:=N
 s₀:=s
 H₀:=H
 env:=nI qual scope s.heap.objs.size f cd
 outer:=outer
 stack:=nI qual scope s.heap.objs.size f cd::outer
 ex:=[]
 calm:=true
 fn:=fun _=>true
 pn:=[]
 xe:=fun e s'=>wpAny (model P w) (A.deeper (nI qual scope s.heap.objs.size f cd)) (leaving (nI qual scope s.heap.objs.size f cd) e) (fun _ s''=>CX outer H s E e s'') (fun e' s''=>CX outer H s E e' s'') s'
theorem Kc{sc:Scope}(h:sc.names.lookup x=some .cell):∃c,(mH n sc.names []).lookup x=some c:=by
 have q:=pY sc.names n [] (.inl h)
 exact pD.mp q
theorem Ic{K:a8}
  (S:FnScope N ps scope) (hd:A.handled=none) (e0:Env0 P w K mg base A outer s H) (hl:vs.length=ps.length) (r:Vals vs us)
  (x:InCallC s s.heap.objs.size (bindL (nI qual scope s.heap.objs.size f cd).kindOf (ps.zip us) fun _=>none) (mH (s.heap.objs.size+1) scope.names []) (bindC (nI qual scope s.heap.objs.size f cd).kindOf (ps.zip us) fun _=>none) s1):
  Inv (CM CX P w K mg base N qual scope f cd A outer s H E) [] (start N vs) H s1:=by
 have hpl:ps.length≤N.length:=by have:=congrArg List.length S.pre;rw[kH] at this;omega
 obtain⟨h1,tk,rfl,hk⟩:=x.done
 have noA:∀b:Addr,b∉(CM CX P w K mg base N qual scope f cd A outer s H E).ex:=fun b z=>absurd (show b∈([]:List Addr) from z) (by simp)
 refine⟨⟨e0.mod,S.kind,rfl,rfl,jm _,fun y z c h1 h2=>?_,fun y hy=>?_,fun y c _ h=>?_,fun _=>hd,j6.frames_deeper e0.frames,.inr ⟨rfl,rfl⟩,fun b z=>absurd z (noA b),e0.bs,e0.bsz,fun b _ _=>noA b,fun b z=>absurd z (noA b),e0.funs,e0.frf⟩,
  rfl,e0.bare,Un.kept hk,⟨_,x.toInCall.ns,fun i y v h1 h2 h3=>?_⟩,fun y c h=> ⟨_,x.cell y c h⟩,e0.hok.fresh (jm _),fun y c h=>?_,fun p hp=>absurd (show p∈([]:List (Addr×Obj)) from hp) (by simp),e0.hok.kept hk,?_⟩
 ·exact name_of_addr x.apart (oq h1) (oq h2)
 ·have hy:scope.names.lookup y=some .cell∨scope.names.lookup y=some .free:=hy
  rcases hy with hy|hy
  ·exact Kc hy
  ·exact absurd rfl (S.nofree _ (oq hy))
 ·exact nq (x.above y c (oq h))
 ·have hi:i<vs.length:=by
   unfold start at h2
   by_cases hi:i<vs.length
   ·exact hi
   ·rw[ku (by simpa using hi)] at h2
    rw[mx] at h2
    split at h2<;>cases h2
  have ha:vs[i]?=some v:=by
   unfold start at h2
   rw[kX (by simpa using hi),i6] at h2
   cases e:vs[i]? with
   |none=>rw[e] at h2;cases h2
   |some a=>rw[e] at h2;cases h2;rfl
  obtain⟨u,hu,rv⟩:=r.get ha
  have hp:ps[i]?=some y:=by
   rw[←S.pre,oj (by omega)];exact h1
  have ndP:ps.Nodup:=by rw[←S.pre];exact S.nd.sublist (List.take_sublist _ _)
  refine⟨u,rv,?_⟩
  rcases S.par y (i7 hp) with k|k
  ·exact .inl ⟨k,Ia ndP hp hu k⟩
  ·obtain⟨c,e⟩:=Kc (n:=s.heap.objs.size+1) k
   refine .inr ⟨.inl k,c,e,?_⟩
   have q:=x.cell y c e
   rw[Ib ndP hp hu (by show scope.names.lookup y≠_;rw[k];decide)] at q
   exact q
 ·exact e0.hok.fresh (nq (x.above y c (oq h)))
 ·unfold start
  show _=N.length
  rw[j8,b9,ml]
  omega
theorem bu{K:a8}{kV:Value}
  (lk:K.lookup f=some ⟨oc,od,.func (pf name qual params body scope dV kV doc pm an cdv ct),osl⟩) (hcd:sX K cdv qual=true) (S:FnScope N ps scope)
  (len:∀vs H Q E,sp vs H Q E→vs.length=ps.length)
  (hbody:∀(A:j6) (outer:List Env) (s:Shared) (H:Hp) (vs:List V) (Q:VK) (E:XK),Room k (A.deeper (nI qual scope s.heap.objs.size f cdv))→sp vs H Q E→
   ∃t,PSs (CM CX P w K mg base N qual scope f cdv A outer s H E) body t∧t {nx:=fun _ H'=>Q .non H',rt:=Q} (start N vs) H):
  FnOk P w K mg base CX (k+1) f (pf name qual params body scope dV kV doc pm an cdv ct) ps sp:=by
 refine⟨len,fun A outer s H args us vs Q E hr e0 hb r hsp=>?_⟩
 have hl:=len _ _ _ _ hsp
 have KX:K.In s.heap:=e0.mod.kin.keeps fun b o e=> (e0.bs b o e).1
 have lim:s.heap.NoLimit:=e0.mod.nolimit.keeps fun b o e=> (e0.bs b o e).1
 have hkind:∀y∈ps.zip us,scope.names.lookup y.1=some .local∨(scope.names.lookup y.1=some .cell∧((mH (s.heap.objs.size+1) scope.names []).lookup y.1).isSome=true):=fun⟨n,v⟩ hy=>by
  rcases S.par n (qE hy).1 with q|q
  ·exact .inl q
  ·exact .inr ⟨q,pY _ _ _ (.inl q)⟩
 refine codeAny_call_function hr.depth (KX _ _ lk) rfl S.co S.gen rfl (PySem.W.codeRec_of KX hcd) (hb _ _ _ _ ?_)
 refine wpAny_newFunctionEnv_cells S.kind hkind fun env he s1 x=>?_
 subst he
 refine⟨lim.keeps x.toInCall.keep,codeAny_func ?_⟩
 obtain⟨t,ht,hq⟩:=hbody A outer s H vs Q E (hr.deeper _) hsp
 have I:Inv (CM CX P w K mg base N qual scope f cdv A outer s H E) [] (start N vs) H s1:=Ic S hr.hd e0 hl r x
 refine nz (ht [] s1 (start N vs) H _ I hq) (fun fl s' hs=>?_) fun e s' hs=>hs
 have fin:∀{σ':St} {H':Hp} {v:V} {u:Value},Inv (CM CX P w K mg base N qual scope f cdv A outer s H E) [] σ' H' s'→RelV v u→Q v H'→CE outer P w H s Q u s':=
  fun{σ' H' v u} J rv q=> ⟨v,H',J.os,J.bare,J.base,J.hok,rv,q⟩
 cases fl with
 |ret u=>
  obtain⟨v,σ',H',J,rv,q⟩:=hs
  exact fin J rv q
 |next=>
  obtain⟨σ',H',J,q⟩:=hs
  exact fin (v:=V.non) (u:=nU) J rfl q
 |brk=>
  obtain⟨_,_,_,q⟩:=hs
  exact lG q
 |cont=>
  obtain⟨_,_,_,q⟩:=hs
  exact lG q
section
variable {X:Cx} {x:Str} {p pos:Pos} {e:Expr} {es:List Expr} {t:TA} {id T:String} {r:List V→Hp→VK→Prop}
noncomputable def iO(r:List V→Hp→VK→Prop)(t:TA):TE:=fun σ H Q=>t σ H fun vs H1=>r vs H1 Q
theorem BA(hc:Bb X (.builtin id) r)(hg:Gl X x)(hm:X.mg x=none)(hv:kS x=some (.builtin id))(ha:PA X (e::es) t)(hn:x≠"__name__":=by decide)(hdb:(x==("__debug__" :Str))=false:=by decide)
  (he:i5 (e::es) X.env=(false,eval e X.env)::i5 es X.env:=by rfl) (hpl:(mS pos (i5 es X.env)).any (·.1)=false:=by rfl):PE X (.Call (.Name x p) (e::es) [] pos) (iO r t):=by
 intro pins s σ H Q I h
 refine nT (Fc I hg hm hv ?_ hn hdb)
 exact PyProof.Rows.callWith_builtin1 (Az (ha pos pins s σ H _ I h) fun us s1 ⟨vs,H1,I1,r1,q1⟩=>hc pins s1 σ H1 vs us Q I1 r1 q1) he hpl
theorem Fe(hc:Bb X (.type T) r)(hg:Gl X x)(hm:X.mg x=none)(hv:kS x=some (.type T))(ha:PA X (e::es) t)(hn:x≠"__name__":=by decide)(hdb:(x==("__debug__" :Str))=false:=by decide)
  (he:i5 (e::es) X.env=(false,eval e X.env)::i5 es X.env:=by rfl) (hpl:(mS pos (i5 es X.env)).any (·.1)=false:=by rfl):PE X (.Call (.Name x p) (e::es) [] pos) (iO r t):=by
 intro pins s σ H Q I h
 refine nT (Fc I hg hm hv ?_ hn hdb)
 exact oT (Az (ha pos pins s σ H _ I h) fun us s1 ⟨vs,H1,I1,r1,q1⟩=>hc pins s1 σ H1 vs us Q I1 r1 q1) he hpl
end
end L2
namespace HT
open PySem PyProof.Rows
section
open PySem.SeqAt
open PySem.AutoSeq1 (wpAny_loadPart')
open PySem.MeetsSeq PySem.MeetsSeq2 PySem.MeetsSeq3
end
theorem VE(ht:IsTup s.heap t vs.toArray)(hb:IsTup s.heap b ws.toArray)(hv:vs≠[])
  (h1:ws=[]→Q (.ref t) s) (h2:ws≠[]→Q (.ref s.heap.objs.size) {s with heap:=s.heap.push {cls:=.type "tuple",data:=.seq (vs++ws).toArray}})
  (hsz:vs.length+ws.length≤sizeLine):wpAny (model prog w) A (nE .Add (.ref t) (.ref b)) Q E s:=by
 obtain⟨⟨cls,dd,data,sl⟩,ho,hc,n,hd⟩:=id ht
 obtain⟨⟨cls2,dd2,data2,sl2⟩,ho2,hc2,n2,hd2⟩:=id hb
 simp only at hc hd hc2 hd2
 subst hc hd hc2 hd2
 have e:vs.toArray++ws.toArray=(vs++ws).toArray:=by simp
 by_cases hw:ws=[]
 ·exact tY ⟨_,ho,rfl⟩ ⟨_,ho2,rfl⟩ rR tH pZ pR (pC _ _)
   (tuple_addW1 t b vs.toArray ws.toArray n n2 dd dd2 sl sl2 (by simpa using hv) (by simp[hw])) ⟨ho,ho2,h1 hw⟩
 ·refine tY ⟨_,ho,rfl⟩ ⟨_,ho2,rfl⟩ rR tH pZ pR (pC _ _)
   (tuple_addW2 t b vs.toArray ws.toArray n n2 dd dd2 sl sl2 (by simpa using hv) (by simpa using hw) (by rw[jy,jy];exact hsz)) ⟨ho,ho2,?_⟩
  rw[e]
  exact h2 hw
noncomputable def BX(n d:Nat):Option Int→Nat
 |none=>d
 |some v=>if v<0 then(v+(n:Int)).toNat else min v.toNat n
theorem Yr(n d:Nat)(hd:d≤n)(o:Option Int):BX n d o≤n:=by
 cases o with
 |none=>exact hd
 |some v=>
  show(if v<0 then(v+(n:Int)).toNat else min v.toNat n)≤n
  by_cases hv:v<0
  ·rw[if_pos hv];omega
  ·rw[if_neg hv];exact Nat.min_le_right _ _
theorem Nu(v:Int)(n d:Nat):(if v<0 then max (v+(n:Int)) 0 else min v (n:Int))=((BX n d (some v):Nat):Int):=by
 show(if v<0 then max (v+(n:Int)) 0 else min v (n:Int))=(((if v<0 then(v+(n:Int)).toNat else min v.toNat n):Nat):Int)
 by_cases hv:v<0
 ·simp only[if_pos hv];omega
 ·simp only[if_neg hv];omega
theorem MU(lo hi:Option Int)(n:Nat):lP lo hi 1 (n:Int)=(((BX n 0 lo:Nat):Int),((BX n n hi:Nat):Int)):=by
 have h1:¬((1:Int)<0):=by omega
 unfold lP
 simp only[h1,if_false]
 refine mz ?_ ?_
 ·cases lo with
  |none=>rfl
  |some v=>exact Nu v n 0
 ·cases hi with
  |none=>rfl
  |some v=>exact Nu v n n
theorem MV(i j:Nat):l7 (i:Int) (j:Int) 1=j-i:=by
 unfold l7
 have h1:(1:Int)>0:=by omega
 simp only[h1,if_true,Int.ediv_one]
 split<;>omega
theorem Gv(p:sr v o)(h:Q o s):wpAny (model prog w) A (Builtin.Slice.slicePartIndex v) Q E s:=by
 cases p with
 |none=>exact qR h
 |int i t=>exact slicePart_int h
theorem DA{lo:Option Int}{Q:Int×Int×Nat→Shared→Prop}(hs:s.heap.IsSliceOf sl vl vu .none)(pl:sr vl lo)(pu:sr vu hi)
  (h:Q (((BX n 0 lo:Nat):Int),1,BX n n hi-BX n 0 lo) s):wpAny (model prog w) A (o7 (.ref sl) (pure (n:Int))) Q E s:=by
 obtain⟨os,hos,hcs,hds⟩:=id hs
 unfold o7 Builtin.Slice.sliceFields
 refine a9 (a9 (qw hos hds (x:=vl) rfl (a9 (qw hos hds (x:=vu) rfl (a9 (qw hos hds (x:=.none) rfl (b8 ?_)))))))
 refine a9 (qR ?_)
 show wpAny _ _ (if((1:Int)==0)=true then _ else _) _ _ s
 rw[if_neg (by decide)]
 refine a9 (Gv pl (a9 (Gv pu (a9 (b8 ?_)))))
 show wpAny _ _ (match lP lo hi 1 (n:Int) with| (lo,hi)=>pure (lo,(1:Int),l7 lo hi 1)) _ _ s
 rw[MU lo hi n]
 show wpAny _ _ (pure (((BX n 0 lo:Nat):Int),(1:Int),l7 ((BX n 0 lo:Nat):Int) ((BX n n hi:Nat):Int) 1)) _ _ s
 rw[MV]
 exact b8 h
theorem RL(xs:Array Value)(i k:Nat):((jr k).filterMap fun(m:Nat)=>xs[((i:Int)+(m:Int)*1).toNat]?).toArray=((xs.toList.drop i).take k).toArray:=by
 have e:(fun(m:Nat)=>xs[((i:Int)+(m:Int)*1).toNat]?)=fun m=>xs[i+m]?:=by
  funext m
  have:((i:Int)+(m:Int)*1).toNat=i+m:=by omega
  rw[this]
 rw[e]
 have:=pick_run xs i k
 rw[List.filterMap_map] at this
 have e2:((fun x=>xs[x]?)∘fun x=>i+x)=fun m=>xs[i+m]?:=rfl
 rw[e2] at this
 rw[this]
theorem Ep{lo:Option Int}(ht:IsTup s.heap t items)(hs:s.heap.IsSliceOf sl vl vu .none)(pl:sr vl lo)(pu:sr vu hi)
  (hw:¬(BX items.size 0 lo=0∧BX items.size items.size hi=items.size))
  (h:Q (.ref s.heap.objs.size) {s with heap:=s.heap.push {cls:=.type "tuple",data:=.seq ((items.toList.drop (BX items.size 0 lo)).take (BX items.size items.size hi-BX items.size 0 lo)).toArray}})
  (hsz:items.size≤sizeLine):wpAny (model prog w) A (rE (.ref t) (.ref sl)) Q E s:=by
 have htake:sizeOk (.seq ((items.toList.drop (BX items.size 0 lo)).take (BX items.size items.size hi-BX items.size 0 lo)).toArray):=by
  show((items.toList.drop (BX items.size 0 lo)).take (BX items.size items.size hi-BX items.size 0 lo)).toArray.size≤sizeLine
  rw[jy,kH,m8,i8]
  omega
 have hj:BX items.size items.size hi≤items.size:=Yr _ _ (jm _) hi
 obtain⟨os,hos,hcs,hds⟩:=id hs
 have hTs:s.TypeIs (.ref sl) "slice":=⟨os,hos,hcs⟩
 unfold rE
 try with_reducible refine ko ?_
 first|refine a9 (b8 ?_)|skip
 refine a9 (rA ht.typeIs (by decide) ?_)
 refine a9 (nG (name:=qJ "__getitem__") ht.typeIs kQ
  (mG kQ ht.typeIs qF ?_ (qW _ _)))
 show wpAny _ _ (oZ (.ref t)>>=_) _ _ s
 refine a9 (tE ht ?_)
 refine a9 (pT hTs ?_)
 rw[if_pos (by decide)]
 refine a9 (DA hs pl pu ?_)
 have hno:¬((((BX items.size 0 lo:Nat):Int)==0&&(1:Int)==1&&(BX items.size items.size hi-BX items.size 0 lo)==items.size)=true):=by
  intro q
  rw[ki,ki] at q
  have q1:((BX items.size 0 lo:Nat):Int)=0:=eq_of_beq q.1.1
  have q2:BX items.size items.size hi-BX items.size 0 lo=items.size:=eq_of_beq q.2
  exact hw ⟨by omega,by omega⟩
 show wpAny _ _ (if(((BX items.size 0 lo:Nat):Int)==0&&(1:Int)==1&&(BX items.size items.size hi-BX items.size 0 lo)==items.size)=true then _ else _) _ _ s
 rw[if_neg hno,RL]
 first
  |exact a9 (m:=mj _) (lK (b8 ⟨_,rfl,b8 h⟩) htake)
  |exact a9 (m:=mj _) (lK (a9 (b8 (b8 ⟨_,rfl,b8 h⟩))) htake)
  |exact a9 (a9 (m:=mj _) (lK (b8 (b8 ⟨_,rfl,b8 h⟩)) htake))
  |exact a9 (a9 (m:=mj _) (lK (b8 ⟨_,rfl,b8 h⟩) htake))
end HT
namespace L2
open PySem PySem.Spec PyProof.Rows
noncomputable abbrev TO:=St→Hp→(Option Int→Hp→Prop)→Prop
noncomputable def PO(X:Cx)(e:Option Expr)(t:TO):Prop:=
 ∀(pins:List (Addr×Obj)) (s:Shared) (σ:St) (H:Hp) (Q:Option Int→Hp→Prop),Inv X pins σ H s→t σ H Q→
  wpAny (model X.prog X.w) X.A (evalPart e X.env) (fun u s'=>∃o H',Inv X pins σ H' s'∧sr u o∧Q o H') X.xe s
noncomputable def VF:TO:=fun _ H Q=>Q none H
noncomputable def bw(t:TE):TO:=fun σ H Q=>t σ H fun x H1=>∃i,x=.int i∧Q (some i) H1
theorem MW:∀{us:List Value},Vals (ns.map V.int) us→oU us ns:=by
 induction ns with
 |nil=>intro us r;rw[pj] at r;cases r;exact .nil
 |cons n ns ih=>
  intro us r
  rw[kg] at r
  cases r with
  |cons r1 r2=>
   obtain⟨t,e⟩:=r1
   subst e
   exact .cons n t (ih r2)
section
variable {X:Cx} {e:Expr} {te:TE} {lo hi:Option Expr} {tl th:TO}
theorem JN:PO X none VF:=by
 intro pins s σ H Q I h
 rw[tI]
 exact b8 ⟨none,H,I,.none,h⟩
theorem Er(h:PE X e te):PO X (some e) (bw te):=by
 intro pins s σ H Q I hw
 rw[evalPart_some]
 refine Az (h pins s σ H _ I hw) fun u s1 ⟨x,H1,I1,r1,q1⟩=>?_
 obtain⟨i,rfl,q⟩:=q1
 obtain⟨t,rfl⟩:=r1
 exact⟨some i,H1,I1,.int i t,q⟩
noncomputable def fD(X:Cx)(r:V→Option Int→Option Int→Hp→VK→Prop):Prop:=
 ∀(pins:List (Addr×Obj)) (s:Shared) (σ:St) (H:Hp) (x:V) (v vl vu:Value) (lo hi:Option Int) (sl:Addr) (Q:VK),Inv X pins σ H s→RelV x v→s.heap.IsSliceOf sl vl vu .none→sr vl lo→sr vu hi→r x lo hi H Q→
  ∃T id,typeLookup (.type T) "__getitem__" =pure (some (.builtin id))∧s.TypeIs v T∧wpAny (model X.prog X.w) X.A (rE v (.ref sl)) (EP X pins σ Q) X.xe s
noncomputable def iq(r:V→Option Int→Option Int→Hp→VK→Prop)(te:TE)(tl th:TO):TE:=fun σ H Q=>te σ H fun x H1=>tl σ H1 fun l H2=>th σ H2 fun u H3=>r x l u H3 Q
theorem Et(hr:fD X r)(he:PE X e te)(hl:PO X lo tl)(hu:PO X hi th):PE X (.Subscript e (.Slice lo hi none p2) pos) (iq r te tl th):=by
 intro pins s σ H Q I h
 refine Subscript_ (Az (he pins s σ H _ I h) fun v s1 ⟨x,H1,I1,r1,q1⟩=>?_)
 refine wpAny_Slice (Az (hl pins s1 σ H1 _ I1 q1) fun vl s2 ⟨l,H2,I2,pl,q2⟩=>Az (hu pins s2 σ H2 _ I2 q2) fun vu s3 ⟨u,H3,I3,pu,q3⟩=>?_)
 rw[tI]
 refine b8 ?_
 have I4:Inv X pins σ H3 {s3 with heap:=s3.heap.push {cls:=.type "slice",data:=.fields #[vl,vu,.none]}}:=I3.kept (t':=s3.toks) fun b ob q=>c9 _ q
 obtain⟨T,id,hT,ht,hg⟩:=hr pins {s3 with heap:=s3.heap.push {cls:=.type "slice",data:=.fields #[vl,vu,.none]}} σ H3 x v vl vu l u s3.heap.objs.size Q I4 r1 (Heap.IsSliceOf.new ..) pl pu q3
 show wpAny (model X.prog X.w) X.A (tF e (.Slice lo hi none p2) v (.ref s3.heap.objs.size)) (EP X pins σ Q) X.xe {s3 with heap:=s3.heap.push {cls:=.type "slice",data:=.fields #[vl,vu,.none]}}
 exact tail_any (ops:=[.ref s3.heap.objs.size,v]) ht hT hg (by with_unfolding_all rfl)
noncomputable def Ff(xs:List V)(lo hi:Option Int):List V:=(xs.drop (HT.BX xs.length 0 lo)).take (HT.BX xs.length xs.length hi-HT.BX xs.length 0 lo)
theorem GI(xs:List V)(lo hi:Option Int):(Ff xs lo hi).length≤xs.length:=by
 unfold Ff
 rw[kH,m8]
 omega
noncomputable def gB(K:a8):V→Option Int→Option Int→Hp→VK→Prop:=fun x lo hi H Q=>∃a xs,x=.ref a∧GG K H a xs∧
 ¬(HT.BX xs.length 0 lo=0∧HT.BX xs.length xs.length hi=xs.length)∧∀p,H p=none→Q (.ref p) (upd H p (.tup (Ff xs lo hi)))
theorem Ys:fD X (gB X.K):=by
 intro pins s σ H x v vl vu lo hi sl Q I rx hs pl pu h
 obtain⟨a,xs,rfl,hx,hw,q⟩:=h
 cases rx
 obtain⟨its,r,ht,hz⟩:=I.tuple hx
 have hlen:its.toArray.size=xs.length:=by rw[jy];exact r.length.symm
 refine⟨"tuple",_,kQ.lookup,ht.typeIs,?_⟩
 refine HT.Ep ht hs pl pu (by rw[hlen];exact hw) ?_ (by rw[hlen];exact hz)
 rw[hlen]
 refine⟨.ref s.heap.objs.size,_,I.laid (t':=s.toks) (o:=.tup (Ff xs lo hi)) (fun b ob q=>c9 _ q) (jm _) ?_,rfl,q _ (I.hok.fresh (jm _))⟩
 exact⟨kO (GI xs lo hi) hz,_,(r.drop (HT.BX xs.length 0 lo)).take (HT.BX xs.length xs.length hi-HT.BX xs.length 0 lo),IsTup.new _ _⟩
noncomputable def bz(K:a8):R2:=fun x y H Q=>∃a b xs ys,x=.ref a∧y=.ref b∧GG K H a xs∧GG K H b ys∧xs≠[]∧xs.length+ys.length≤sizeLine∧
 (ys=[]→Q (.ref a) H)∧(ys≠[]→∀p,H p=none→Q (.ref p) (upd H p (.tup (xs++ys))))
theorem Vals.nil_iff(r:Vals xs us):us=[]↔xs=[]:=by
 cases r with
 |nil=>simp
 |cons _ _=>simp
theorem VG:Cy X (nE .Add) (bz X.K):=by
 intro pins s σ H x y v u Q I rx ry h
 obtain⟨a,b,xs,ys,rfl,rfl,ha,hb,hx,hz,q1,q2⟩:=h
 cases rx
 cases ry
 obtain⟨its,r1,p1,_⟩:=I.tuple ha
 obtain⟨its2,r2,p2,_⟩:=I.tuple hb
 refine HT.VE p1 p2 (fun z=>hx (r1.nil_iff.mp z)) (fun z=> ⟨.ref a,H,I,rfl,q1 (r2.nil_iff.mp z)⟩) (fun z=>?_) (by rw[←r1.length,←r2.length];exact hz)
 refine⟨.ref s.heap.objs.size,_,I.laid (t':=s.toks) (o:=.tup (xs++ys)) (fun b ob q=>c9 _ q) (jm _) ?_,rfl,q2 (fun w=>z (r2.nil_iff.mpr w)) _ (I.hok.fresh (jm _))⟩
 exact⟨by rw[j8];exact hz,_,r1.append r2,IsTup.new _ _⟩
end
noncomputable def RM(n:Nat)(i:Int):Option Nat:=if 0≤i then(if i<n then some i.toNat else none) else if-(n:Int)≤i then some (i+n).toNat else none
noncomputable def atI{α:Type}(xs:List α)(i:Int):Option α:=(RM xs.length i).bind fun j=>xs[j]?
theorem Nv(h:RM n i=some j):seqIndex? i n=some j∧j<n∧-(n:Int)≤i∧i<n:=by
 unfold RM at h
 by_cases h0:0≤i
 ·rw[if_pos h0] at h
  by_cases h1:i<n
  ·rw[if_pos h1] at h
   have e:i.toNat=j:=lu.inj h
   exact⟨by rw[uc h0 h1,e],by omega,by omega,h1⟩
  ·rw[if_neg h1] at h;cases h
 ·rw[if_neg h0] at h
  by_cases h1: -(n:Int)≤i
  ·rw[if_pos h1] at h
   have e:(i+n).toNat=j:=lu.inj h
   exact⟨by rw[seqIndex_neg (by omega) h1,e],by omega,h1,by omega⟩
  ·rw[if_neg h1] at h;cases h
theorem DJ{v:α}(h:atI xs i=some v):∃j,seqIndex? i xs.length=some j∧xs[j]?=some v∧j<xs.length∧-(xs.length:Int)≤i∧i<xs.length:=by
 unfold atI at h
 cases e:RM xs.length i with
 |none=>rw[e] at h;cases h
 |some j=>
  rw[e] at h
  obtain⟨h1,h2,h3,h4⟩:=Nv e
  exact⟨j,h1,h,h2,h3,h4⟩
theorem An{j:Nat}{v:α}(h:xs[j]?=some v):atI xs (j:Int)=some v:=by
 have hj:j<xs.length:=(jn.mp h).1
 have e:RM xs.length (j:Int)=some j:=by
  unfold RM
  rw[if_pos (by omega),if_pos (by omega)];simp
 unfold atI;rw[e];exact h
noncomputable def DL(b:Expr):Prop:=∀o i,subscripted b false o i=operate [o,i] (rE o i)
noncomputable def bG(X:Cx)(r:R2):Prop:=
 ∀(value slice:Expr) (pins:List (Addr×Obj)) (s:Shared) (σ:St) (H:Hp) (x y:V) (v u:Value) (Q:VK),Inv X pins σ H s→RelV x v→RelV y u→r x y H Q→
  subscripted slice false v u=operate [v,u] (rE v u)→wpAny (model X.prog X.w) X.A (tF value slice v u) (EP X pins σ Q) X.xe s
noncomputable def iP(X:Cx)(id:String)(r:V→List V→Hp→VK→Prop):Prop:=
 ∀(pins:List (Addr×Obj)) (s:Shared) (σ:St) (H:Hp) (x:V) (xs:List V) (v:Value) (us:List Value) (Q:VK),Inv X pins σ H s→RelV x v→Vals xs us→r x xs H Q→
  wpAny (model X.prog X.w) X.A (call (.builtin id) (v::us)) (EP X pins σ Q) X.xe s
section
theorem Nw(hr:bG X r)(ha:PE X a ta)(hb:PE X b tb)(hs:DL b):PE X (.Subscript a b pos) (bh r ta tb):=by
 intro pins s σ H Q I h
 exact Subscript_ (Ye ha hb I h fun v u s2 x y H2 I2 rx ry q=>hr a b pins s2 σ H2 x y v u Q I2 rx ry q (hs _ _))
noncomputable def Yt(K:a8):R2:=fun x y H Q=>∃p xs i v,x=.ref p∧y=.int i∧SqL K H p xs∧atI xs i=some v∧Q v H
noncomputable def cA(K:a8):R2:=fun x y H Q=>∃p xs i v,x=.ref p∧y=.int i∧GG K H p xs∧atI xs i=some v∧Q v H
theorem Bz:bG X (Yt X.K):=by
 intro value slice pins s σ H x y v u Q I rx ry h hs
 obtain⟨p,xs,i,z,rfl,rfl,hq,he,q⟩:=h
 cases rx
 obtain⟨t,rfl⟩:=ry
 obtain⟨its,r,pl,hz⟩:=I.list hq
 obtain⟨j,h1,h2,h3,h4,h5⟩:=DJ he
 obtain⟨w,ew,rw'⟩:=r.get h2
 have hl:=r.length
 have hn:=Fd
 have fin:EP X pins σ Q w s:=⟨z,H,I,rw',q⟩
 by_cases h0:0≤i
 ·have hj:i.toNat=j:=by
   rw[uc h0 h5] at h1
   exact lu.inj h1
  exact item_listR pl.isList h0 (by omega) (by rw[hj];simpa using ew) fin hs
 ·have hj:(i+(its.toArray.size:Int)).toNat=j:=by
   rw[seqIndex_neg (by omega) h4] at h1
   rw[jy,←hl]
   exact lu.inj h1
  exact pX (x:=w) pl.isList.typeIs slot_list_getitem.lookup
   (wpAny_getItem_list_neg (Q:=fun r s'=>r=w∧EP X pins σ Q r s') pl.isList (by omega) (by rw[jy]<;>omega) (by omega) (by rw[hj];simpa using ew) ⟨rfl,fin⟩) hs
theorem Yu:bG X (cA X.K):=by
 intro value slice pins s σ H x y v u Q I rx ry h hs
 obtain⟨p,xs,i,z,rfl,rfl,hq,he,q⟩:=h
 cases rx
 obtain⟨t,rfl⟩:=ry
 obtain⟨its,r,pl,hz⟩:=I.tuple hq
 obtain⟨j,h1,h2,h3,h4,h5⟩:=DJ he
 obtain⟨w,ew,rw'⟩:=r.get h2
 have hl:=r.length
 have hn:=Fd
 have fin:EP X pins σ Q w s:=⟨z,H,I,rw',q⟩
 exact pX (x:=w) pl.typeIs slot_tuple_getitem.lookup
  (getItem_tuple (j:=j) (Q:=fun r s'=>r=w∧EP X pins σ Q r s') pl (by omega) (by omega) (by rw[jy,←hl];exact h1) (by simpa using ew) ⟨rfl,fin⟩) hs
theorem MX(its:List Value)(n j:Nat)(u:Value):mB (·.setIfInBounds j u) {cls:=.type "list",data:=.seq its.toArray n}={cls:=.type "list",data:=.seq (its.set j u).toArray n}:=by
 simp[mB]
theorem Inv.lst{σ:St}(I:Inv X pins σ H s)(h:H p=some (.lst xs)):
  ∃(its:List Value) (n:Nat),Vals xs its∧s.heap.get? p=some {cls:=.type "list",data:=.seq its.toArray n}∧xs.length≤sizeLine:=by
 obtain⟨z,its,n,r,e⟩:=I.hok p _ h
 exact⟨its,n,r,e,z⟩
theorem Inv.lstUpd{σ:St}{its:List Value}(I:Inv X pins σ H s)(h:H p=some (.lst xs))
  (ho:s.heap.get? p=some {cls:=.type "list",data:=.seq its.toArray n}) (hf:f {cls:=.type "list",data:=.seq its.toArray n}={cls:=.type "list",data:=.seq its'.toArray n'}) (r:Vals ys its') (hz:ys.length≤sizeLine) (t:Nat):
  Inv X pins σ (upd H p (.lst ys)) {s with heap:=s.heap.update p f,toks:=t}:=by
 have e:(s.heap.update p f).get? p=some {cls:=.type "list",data:=.seq its'.toArray n'}:=by
  rw[oP f ho (by rw[hf]<;>rfl),hf]
 refine I.write (x:=p) (e:=p) (by rw[h];trivial) (.inl rfl) (fun b u hb q=> (mM _ _ (Ne.symm hb)).trans q) ⟨_,e⟩ ?_
 exact⟨hz,its',n',r,e⟩
noncomputable def cB:V→V→V→Hp→(Hp→Prop)→Prop:=fun o i v H Q=>∃p xs k j,o=.ref p∧i=.int k∧H p=some (.lst xs)∧RM xs.length k=some j∧Q (upd H p (.lst (xs.set j v)))
theorem RN:bV X cB:=by
 intro pins s σ H o i v ov iv u Q I ro ri rv h
 obtain⟨p,xs,k,j,rfl,rfl,hp,hj,q⟩:=h
 cases ro
 obtain⟨t,rfl⟩:=ri
 obtain⟨its,n,r,ho,hz⟩:=I.lst hp
 obtain⟨h1,h2,h3,h4⟩:=Nv hj
 have hl:=r.length
 have hn:=Fd
 have I':Inv X pins σ (upd H p (.lst (xs.set j v))) {s with heap:=s.heap.update p (mB (·.setIfInBounds j u))}:=
  I.lstUpd hp ho (MX its n j u) (r.set rv j) (by rw[nJ];exact hz) s.toks
 by_cases h0:0≤k
 ·have hk:k.toNat=j:=by
   rw[uc h0 h4] at h1
   exact lu.inj h1
  exact PySem.W.ki_setAt ho h0 (by omega) (by rw[jy,←hl];exact h4) (by rw[hk];exact⟨_,I',q⟩)
 ·have hk:(k+(its.toArray.size:Int)).toNat=j:=by
   rw[seqIndex_neg (by omega) h3] at h1
   rw[jy,←hl]
   exact lu.inj h1
  exact PySem.W.ki_setBack ho (by omega) (by rw[jy,←hl];exact h3) (by omega) (by rw[hk];exact⟨_,I',q⟩)
theorem JO(lo hi:Option Int)(n:Nat):(pP lo hi none n).1=((HT.BX n 0 lo:Nat):Int)∧(pP lo hi none n).2.1=((HT.BX n n hi:Nat):Int)∧(pP lo hi none n).2.2=1:=by
 refine⟨?_,?_,rfl⟩
 ·cases lo with
  |none=>simp[pP,HT.BX]
  |some i=>
   simp only[pP,HT.BX,Option.getD_none,show(1:Int)>0 by decide,if_true]
   by_cases h:i<0
   ·simp only[h,if_true]<;>omega
   ·simp only[h,if_false]<;>omega
 ·cases hi with
  |none=>simp[pP,HT.BX]
  |some i=>
   simp only[pP,HT.BX,Option.getD_none,show(1:Int)>0 by decide,if_true]
   by_cases h:i<0
   ·simp only[h,if_true]<;>omega
   ·simp only[h,if_false]<;>omega
theorem IH(its:List Value)(lo hi:Option Int):slicePick its.toArray lo hi none=((its.drop (HT.BX its.length 0 lo)).take (HT.BX its.length its.length hi-HT.BX its.length 0 lo)).toArray:=by
 obtain⟨h1,h2,h3⟩:=JO lo hi its.toArray.size
 unfold slicePick
 rw[h1,h2,h3]
 simp only[sliceRange_one,pick_run,jy]<;>rfl
noncomputable def gC(K:a8):V→Option Int→Option Int→Hp→VK→Prop:=fun x lo hi H Q=>∃a xs,x=.ref a∧SqL K H a xs∧∀p,H p=none→Q (.ref p) (upd H p (.lst (Ff xs lo hi)))
theorem Nx:fD X (gC X.K):=by
 intro pins s σ H x v vl vu lo hi sl Q I rx hs pl pu h
 obtain⟨a,xs,rfl,hx,q⟩:=h
 cases rx
 obtain⟨its,r,ht,hz⟩:=I.list hx
 have hlen:=r.length
 refine⟨"list",_,slot_list_getitem.lookup,ht.isList.typeIs,?_⟩
 refine wpAny_getItem_list_slice ht.isList hs pl pu .none (by simp) ?_ (by rw[jy]<;>omega)
 rw[IH,←hlen]
 refine⟨.ref s.heap.objs.size,_,I.laid (t':=s.toks) (o:=.lst (Ff xs lo hi)) (fun b ob q=>c9 _ q) (jm _) ?_,rfl,q _ (I.hok.fresh (jm _))⟩
 exact⟨kO (GI xs lo hi) hz,_,0,(r.drop (HT.BX xs.length 0 lo)).take (HT.BX xs.length xs.length hi-HT.BX xs.length 0 lo),kb _ rfl⟩
noncomputable def Di:V→Bool
 | .non=>true
 | .bl _=>true
 | .int _=>true
 | .str _=>true
 |_=>false
noncomputable def Ke:V→V→Bool
 | .non,.non=>true
 | .bl a,.bl b=>a==b
 | .bl a,.int b=> (if a then 1 else 0)==b
 | .int a,.bl b=>a==(if b then 1 else 0)
 | .int a,.int b=>a==b
 | .str a,.str b=>a==b
 |_,_=>false
theorem Yv(ry:RelV y u)(rx:RelV x v)(fy:Di y=true)(fx:Di x=true):l8 A s u v (Ke y x):=by
 cases y with
 |non=>
  cases ry
  cases x with
  |non=>cases rx;exact l8.same _
  |bl b=>cases rx;exact l8.none_bool b
  |int b=>obtain⟨t,rfl⟩:=rx;exact l8.none_int b t
  |str b=>obtain⟨t,rfl⟩:=rx;exact l8.none_str b t
  |_=>exact absurd (show false=true from fx) e8
 |bl a=>
  cases ry
  cases x with
  |non=>cases rx;exact l8.bool_none a
  |bl b=>cases rx;exact l8.bool_bool a b
  |int b=>obtain⟨t,rfl⟩:=rx;exact l8.bool_int a b t
  |str b=>obtain⟨t,rfl⟩:=rx;exact l8.bool_str a b t
  |_=>exact absurd (show false=true from fx) e8
 |int a=>
  obtain⟨t',rfl⟩:=ry
  cases x with
  |non=>cases rx;exact l8.int_none a t'
  |bl b=>cases rx;exact l8.int_bool a t' b
  |int b=>obtain⟨t,rfl⟩:=rx;exact l8.int_int a t' b t
  |str b=>obtain⟨t,rfl⟩:=rx;exact l8.int_str a t' b t
  |_=>exact absurd (show false=true from fx) e8
 |str a=>
  obtain⟨t',rfl⟩:=ry
  cases x with
  |non=>cases rx;exact l8.str_none a t'
  |bl b=>cases rx;exact l8.str_bool a t' b
  |int b=>obtain⟨t,rfl⟩:=rx;exact l8.str_int a t' b t
  |str b=>obtain⟨t,rfl⟩:=rx;exact l8.str_str a t' b t
  |_=>exact absurd (show false=true from fx) e8
 |_=>exact absurd (show false=true from fy) e8
noncomputable def bH(x:V)(u:Value):Bool:=match u with
 | .none=>Ke .non x
 | .bool b=>Ke (.bl b) x
 | .int i _=>Ke (.int i) x
 | .str z _=>Ke (.str z) x
 |_=>false
theorem MY(r:RelV y u)(f:Di y=true):bH x u=Ke y x:=by
 cases y with
 |non=>cases r;rfl
 |bl b=>cases r;rfl
 |int i=>obtain⟨t,rfl⟩:=r;rfl
 |str z=>obtain⟨t,rfl⟩:=r;rfl
 |_=>exact absurd (show false=true from f) e8
theorem Gx(rx:RelV x v)(fx:Di x=true):∀{xs:List V} {us:List Value},Vals xs us→xs.all Di=true→∀u∈us,l8 A s u v (bH x u)
 |_,_,.nil,_=>fun u hu=>by cases hu
 |y::xs,u::us,.cons r t,f=>fun u' hu=>by
  rw[tM,ki] at f
  rcases ju.mp hu with rfl|hu
  ·rw[MY r f.1];exact Yv r rx f.1 fx
  ·exact Gx rx fx t f.2 u' hu
theorem DM:Bb X (.builtin "len") (fun xs H Q=>∃p ys,xs=[.ref p]∧(SqL X.K H p ys∨GG X.K H p ys)∧Q (.int ys.length) H):=by
 intro pins s σ H xs us Q I r h
 obtain⟨p,ys,rfl,hq,q⟩:=h
 obtain⟨u,rfl,rx⟩:=GH r
 cases rx
 have hn:=Fd
 rcases hq with hq|hq
 ·obtain⟨its,r',pl,hz⟩:=I.list hq
  have hlen:=r'.length
  exact Calls.call_len_list pl.isList (by simp only[jy]<;>omega) ⟨.int ys.length,H,I.tok _,⟨s.toks+1,by rw[jy,hlen]⟩,q⟩
 ·obtain⟨its,r',pl,hz⟩:=I.tuple hq
  have hlen:=r'.length
  exact len_tuple pl (by simp only[jy]<;>omega) ⟨.int ys.length,H,I.tok _,⟨s.toks+1,by rw[jy,hlen]⟩,q⟩
noncomputable def gD(K:a8)(T:String)(x:V)(H:Hp):Prop:=match x with
 | .str _=>T= "str"
 | .int _=>T= "int"
 | .ref p=> (T= "list"∧∃xs,SqL K H p xs)∨(T= "tuple"∧∃o,K.lookup p=some o∧o.cls=.type "tuple"∧o.dict=none)∨
   (T= "dict"∧((∃kvs,H p=some (.dK kvs))∨∃kvs,H p=some (.dT kvs)))∨(T= "set"∧∃S n,H p=some (.set S n))
 |_=>False
theorem Yw{σ:St}(I:Inv X pins σ H s)(r:RelV x v)(ty:gD X.K T x H):
  s.TypeIs v T∧∀a,v=.ref a→∃ob,s.heap.get? a=some ob∧ob.dict=none:=by
 cases x with
 |str z=>
  obtain⟨t,rfl⟩:=r
  cases(show T= "str" from ty)
  exact⟨typeIs_str s z t,fun _ e=>nomatch e⟩
 |int i=>
  obtain⟨t,rfl⟩:=r
  cases(show T= "int" from ty)
  exact⟨typeIs_int s i t,fun _ e=>nomatch e⟩
 |ref p=>
  cases r
  rcases ty with⟨rfl,xs,hq⟩| ⟨rfl,o,hk,hc,hd⟩| ⟨rfl,hk⟩| ⟨rfl,S,n,hk⟩
  ·obtain⟨its,_,pl,_⟩:=I.list hq
   refine⟨pl.isList.typeIs,fun a e=>?_⟩
   cases e
   obtain⟨o,n,e,c,hd,_⟩:=pl
   exact⟨o,e,hd⟩
  ·refine⟨⟨o,I.kIn p o hk,hc⟩,fun a e=>?_⟩
   cases e
   exact⟨o,I.kIn _ o hk,hd⟩
  ·have z:∃o,s.heap.get? p=some o∧o.ExactDict:=by
    rcases hk with⟨kvs,hk⟩| ⟨kvs,hk⟩
    ·obtain⟨_,_,_,_,o,_,_,e,ex,_⟩:=I.hok p _ hk
     exact⟨o,e,ex⟩
    ·obtain⟨_,_,_,_,o,_,_,e,ex,_⟩:=I.hok p _ hk
     exact⟨o,e,ex⟩
   obtain⟨o,e,ex⟩:=z
   refine⟨⟨o,e,ex.1⟩,fun a e2=>?_⟩
   cases e2
   exact⟨o,e,ex.2.1⟩
  ·obtain⟨o,_,_,_,e,ex,_⟩:=I.hok p _ hk
   refine⟨⟨o,e,ex.1⟩,fun a e2=>?_⟩
   cases e2
   exact⟨o,e,ex.2.1⟩
 |_=>exact lG ty
noncomputable def ir(K:a8)(T:String)(r:V→List V→Hp→VK→Prop)(to:TE)(t:TA):TE:=fun σ H Q=>to σ H fun x H1=>gD K T x H1∧t σ H1 fun xs H2=>r x xs H2 Q
variable {apos cpos:Pos} {id:String}
theorem RO(pa:PlainAttrs T)(slot:Slot T name id)(hty:typeOf (.builtin id)=pure (.type "method_descriptor"))(hm:iP X id r)(ho:PE X o to)(ha:PA X (e::es) t)
  (hbase:oJ o name X.env (eval o X.env)=eval o X.env:=by rfl)
  (hfew:((mS cpos (i5 (e::es) X.env)).all (fun x=>!x.1)&&(rT cpos (pQ [] X.env)).all (fun x=>x.1.isSome)
   &&decide ((e::es).length+([]:List qt).length+(if([]:List qt).isEmpty then 0 else 1)<30))=true:=by rfl)
  (hline:(apos.endLine==cpos.line)=true:=by rfl) (hs:i5 (e::es) X.env=(false,eval e X.env)::i5 es X.env:=by rfl) (hplain:(mS cpos (i5 es X.env)).any (·.1)=false:=by rfl):
  PE X (.Call (.Attribute o name apos) (e::es) [] cpos) (ir X.K T r to t):=by
 intro pins s σ H Q I h
 refine wpAny_Call_method_late hbase hfew hline rfl (Az (ho pins s σ H _ I h) fun v s1 ⟨x,H1,I1,r1,ty,q1⟩=>?_)
 obtain⟨h1,h2⟩:=Yw I1 r1 ty
 refine⟨T,id,pa,slot,hty,h1,h2,?_⟩
 have hA:=ha cpos pins s1 σ H1 _ I1 q1
 rw[hs] at hA ⊢
 refine Calls.callWith_builtin (by show(false|| (mS cpos (i5 es X.env)).any (·.1))=false;rw[hplain]<;>rfl) (Calls.evalArgs_plain ?_)
 exact Az hA fun us s2 ⟨vs,H2,I2,r2,q2⟩=>hm pins s2 σ H2 x vs v us Q I2 r1 r2 q2
end
noncomputable def fE(X:Cx)(id:String)(r:V→List V→Hp→VK→Prop):Prop:=
 ∀(pins:List (Addr×Obj)) (s:Shared) (σ:St) (H:Hp) (x:V) (xs:List V) (v:Value) (us:List Value) (Q:VK),Inv X pins σ H s→RelV x v→Vals xs us→r x xs H Q→
  wpAny (model X.prog X.w) X.A (call (.builtin id) (v::us)) (EP X pins σ Q) X.xe s
theorem Vals.one:∀{x:V} {us:List Value},Vals [x] us→∃u,us=[u]∧RelV x u
 |_,_,.cons r .nil=> ⟨_,rfl,r⟩
section
variable {σ:St}
theorem Inv.lset{its:List Value}(I:Inv X pins σ H s)(hH:H l=some (.lst xs))
  (e:s.heap.get? l=some {cls:=.type "list",data:=.seq its.toArray n}) (hf:f its.toArray=its'.toArray) (hv:Vals ys its') (hz:ys.length≤sizeLine):
  Inv X pins σ (upd H l (.lst ys)) {s with heap:=s.heap.update l (mB f),toks:=t'}:=by
 have q:=PySem.IsL.update e f
 rw[hf] at q
 refine I.write (x:=l) (e:=l) (by rw[hH];exact trivial) (.inl rfl) (fun b' u hb hu=> (mM s.heap (mB f) (Ne.symm hb)).trans hu) ⟨_,q⟩ ?_
 exact⟨hz,its',_,hv,q⟩
theorem Inv.lnew(I:Inv X pins σ H s)(hv:Vals ys its)(hz:ys.length≤sizeLine):
  Inv X pins σ (upd H s.heap.objs.size (.lst ys)) {s with heap:=s.heap.push {cls:=.type "list",data:=.seq its.toArray},toks:=t'}:=
 I.laid (fun _ _ q=>c9 _ q) (jm _) ⟨hz,its,0,hv,kb _ rfl⟩
theorem Inv.fresh(I:Inv X pins σ H s):H s.heap.objs.size=none:=I.hok.fresh (jm _)
theorem Inv.lstM(I:Inv X pins σ H s)(hH:H l=some (.lst xs)):xs.length≤sizeLine∧∃(its:List Value) (n:Nat),Vals xs its∧xs.length=its.length∧s.heap.get? l=some {cls:=.type "list",data:=.seq its.toArray n}:=by
 obtain⟨z,its,n,r,e⟩:=I.hok l _ hH
 exact⟨z,its,n,r,r.length,e⟩
theorem RQ(h:n≤sizeLine):om n=false:=by
 unfold om
 exact decide_eq_false (by omega)
end
noncomputable def Ny:V→List V→Hp→VK→Prop:=fun x vs H Q=>∃l xs y,x=.ref l∧vs=[y]∧H l=some (.lst xs)∧xs.length<sizeLine∧Q .non (upd H l (.lst (xs++[y])))
theorem Ie:fE X "list.append" Ny:=by
 intro pins s σ H x vs v us Q I rx rv h
 obtain⟨l,xs,y,rfl,rfl,hH,hz,q⟩:=h
 cases rx
 obtain⟨u,rfl,ru⟩:=rv.one
 obtain⟨z,its,n,r,hl,e⟩:=I.lstM hH
 refine qU F.slot_list_append ⟨_,e,rfl⟩ F.entry_list_append (F.args_list_append_2 _ _) (PySem.list_append l its.toArray n u (by rw[jy];omega)) ⟨e,?_⟩
 refine⟨.non,_,I.lset (its':=its++[u]) hH e (by simp) (r.append (.cons ru .nil)) ?_,rfl,q⟩
 rw[j8,List.length_singleton]
 omega
noncomputable def VH:V→List V→Hp→VK→Prop:=fun x vs H Q=>∃l b xs zs,x=.ref l∧vs=[.ref b]∧H l=some (.lst xs)∧H b=some (.lst zs)∧xs.length+zs.length≤sizeLine∧Q .non (upd H l (.lst (xs++zs)))
theorem Pk:fE X "list.extend" VH:=by
 intro pins s σ H x vs v us Q I rx rv h
 obtain⟨l,b,xs,zs,rfl,rfl,hH,hB,hz,q⟩:=h
 cases rx
 obtain⟨u,rfl,ru⟩:=rv.one
 cases ru
 obtain⟨z,its,n,r,hl,e⟩:=I.lstM hH
 obtain⟨z2,its2,n2,r2,hl2,e2⟩:=I.lstM hB
 have hsz:its.toArray.size+its2.toArray.size≤sizeLine:=by rw[jy,jy];omega
 have hlong:¬(!its.toArray.isEmpty&&om (its.toArray.size+its2.toArray.size))=true:=by
  rw[RQ hsz,rq]
  exact e8
 refine qU F.slot_list_extend ⟨_,e,rfl⟩ F.entry_list_extend (F.args_list_extend_2 _ _)
  (AutoSeq1.list_extend_list_list_0 l its.toArray n b its2.toArray n2 hlong (by rw[jy];omega) (by omega)) ⟨e,e2,?_⟩
 refine⟨.non,_,I.lset (its':=its++its2) hH e (by simp) (r.append r2) ?_,rfl,q⟩
 rw[j8]
 omega
noncomputable def cC:R2:=fun x y H Q=>∃l b xs zs,x=.ref l∧y=.ref b∧H l=some (.lst xs)∧H b=some (.lst zs)∧xs.length+zs.length≤sizeLine∧∀p,H p=none→Q (.ref p) (upd H p (.lst (xs++zs)))
theorem MZ:Cy X (nE .Add) cC:=by
 intro pins s σ H x y v u Q I rx ry h
 obtain⟨l,b,xs,zs,rfl,rfl,hH,hB,hz,q⟩:=h
 cases rx
 cases ry
 obtain⟨z,its,n,r,hl,e⟩:=I.lstM hH
 obtain⟨z2,its2,n2,r2,hl2,e2⟩:=I.lstM hB
 refine PySem.P.add_list e e2 ?_ (by rw[jy,jy];omega)
 have ea:its.toArray++its2.toArray=(its++its2).toArray:=by simp
 rw[ea]
 exact⟨.ref _,_,I.lnew (t':=s.toks) (r.append r2) (by rw[j8];omega),rfl,q _ I.fresh⟩
end L2
namespace Att
open PySem PySem.W PySem.Calls PyProof.Rows
theorem GO:∀(ns:List Int) (vs:List Value),WellAll P h vs (ns.map WData.int)→oU vs ns:=by
 intro ns
 induction ns with
 |nil=>
  intro vs w
  rw[pj] at w
  cases w
  exact .nil
 |cons n ns ih=>
  intro vs w
  rw[kg] at w
  cases w with
  |cons a b=>
   cases a
   exact .cons _ _ (ih _ b)
theorem Pl{l:sG}(hn:l.most=some n)
  (hpre:l.row.toRowW.claim.pre args=true) (hwl:WellAll P h vals args):
  ∃a vs ns,vals=[Value.ref a]∧args=[WData.list (ns.map WData.int)]∧h.get? a=some {cls:=.type "list",data:=.seq vs.toArray}∧oU vs ns∧ns.length≤n:=by
 have hsh:WShape.hasAll [] args [.list .int]=true:=(pre_splitW hpre).1
 have hc:l.pre.holds [] {args:=args}=true:=(pre_splitW hpre).2
 obtain⟨d,r,rfl,h1,h2⟩:=hasAllW_cons hsh
 obtain rfl:=hasAllW_nil h2
 obtain⟨xs,rfl,h3⟩:=hasW_list h1
 obtain⟨ns,rfl⟩:=items_int h3
 have hlen:ns.length≤n:=by
  unfold sG.pre at hc
  have h4:(WTm.not (.lt (.lit (.int (n:Int))) (.len (.arg 0)))).holds [] {args:=[.list (ns.map .int)]}=true:=by
   have h4:=(holds_andW hc).1
   rw[hn] at h4
   exact h4
  have h5:=condW_of h4 (w_not (w_lt w_lit (w_len_list (w_arg rfl))))
  rw[b9] at h5
  refine qi fun q=>?_
  have q':(n:Int)< ((ns.length:Nat):Int):=by omega
  first
   | (rw[decide_eq_true q'] at h5;exact absurd h5 (by decide))
   | (simp at h5;omega)
 cases hwl with
 |cons w1 w2=>
  cases w2
  cases w1 with
  |list ho hall=>exact⟨_,_,ns,rfl,rfl,ho,GO ns _ hall,hlen⟩
theorem Pm(l:sG)(args:List WData):l.row.toRowW.claim.post args (.bool true) args=true:=
 postW_of (r:=l.row.toRowW) (X:=(true==true))
  (show WShape.has [] (.bool true) .bool=true by first|rfl|decide|simp[WShape.has,WShape.arms,WShape.armsAll])
  (show(WTm.eq .res (.lit (.bool true))).value [] {args:=args,res:=some (.bool true),after:=args}=some (.bool (true==true)) from w_eq_bool (w_res rfl) w_lit) rfl
theorem Kf{l:sG}
  (hn:l.most=some n) (hdf:d.params.defaults=[])
  (call:∀(w:World) (s₀ s₁:Shared) (mg mb:Str→Option Value) (fa:Addr) (o:Obj) (pm cd doc:Value) (a:Addr) (vs:List Value) (ns:List Int),
   Ground q loose [] XP w s₀ mg mb s₁.heap→YP w s₁.heap→
   s₁.heap.get? fa=some o→o.data=.func (docDef d.name d.params d.body d.scope pm cd doc)→s₁.heap.CodeRec cd d.name→mg d.name=some (.ref fa)→
   s₁.heap.get? a=some {cls:=.type "list",data:=.seq vs.toArray}→oU vs ns→ns.length≤n→s₁.gens= #[]→
   oF (model l.prog w) tu (.call (.ref fa) ⟨[.ref a],[]⟩) (fun r s'=>r=.ok (.ret (.bool true))∧OldK s₁.heap s'.heap∧s'.os=s₁.os∧qN s'.gens) s₁):
  WalkO q loose XP YP l.row.toRowW d [] (fun f vs=>PySem.call f vs):=by
 intro w s₀ s₁ mg mb G Y fa o pm cd doc dV kV ho hd hcd hD hmg hg args vals as hpre hlay hrd hwl hlo
 obtain rfl:dV=.none:=Dflts.none hD hdf
 obtain rfl:kV=.none:=Dflts.noKw hD
 obtain⟨a,vs,ns,rfl,rfl,hobj,hints,hlen⟩:=Pl hn hpre hwl
 refine enter_call (oD (call w s₀ s₁ mg mb fa o pm cd doc a vs ns G Y ho (fd_plain hd) hcd hmg hobj hints hlen hg) fun r s' hq=>?_)
 obtain⟨rfl,h2,h3,h4⟩:=hq
 exact⟨.inl ⟨.bool true,.bool true,[],rfl,fun _=>rfl,.bool true,Pm l _,fun _=> ⟨lD.nil,fun _ hm=> (nomatch hm)⟩⟩,h2,h3,h4⟩
end Att
namespace L2
open PySem PySem.Spec PyProof.Rows
theorem Fg:∀{vs:List Value} {ns:List Int},oU vs ns→Vals (ns.map V.int) vs
 |_,_,.nil=> .nil
 |_,_,.cons n t h=> .cons ⟨t,rfl⟩ (Fg h)
noncomputable def Yx(H:Hp):Prop:=∀b,H b=none∨∃o xs,H b=some (.frz o (.lst xs))
theorem RS{K:a8}
  (KX:K.In s₁.heap) (hns:s₁.heap.Ns lE mg) (hb:s₁.heap.Ns tO mb) (hbb:∀x:Str,x≠"__name__"→mb x=kS x) (hlim:s₁.heap.NoLimit) (hg:s₁.gens= #[])
  (ha:s₁.heap.get? a=some {cls:=.type "list",data:=.seq vs.toArray}) (hi:oU vs ns) (hl:ns.length≤sizeLine) (hr:Room k tu)
  (F:∀base:Heap,K.In base→base.Ns lE mg→FnOk P w K mg base CX k fa fd [x] sp) (hbind:∀(s:Shared) (u:Value),tD s fd ⟨[u],[]⟩ [(x,u)])
  (hsp:∀H:Hp,Yx H→SqL K H a (ns.map V.int)→sp [.ref a] H (fun v _=>v=.bl true) fun _ _ _=>False)
  (hCX:∀H e s',CX [] H s₁ (fun _ _ _=>False) e s'→False):
  oF (model P w) tu (.call (.ref fa) ⟨[.ref a],[]⟩) (fun r s'=>r=.ok (.ret (.bool true))∧OldK s₁.heap s'.heap∧s'.os=s₁.os∧qN s'.gens) s₁:=by
 have rv:=Fg hi
 have lenV:=hi.length
 have core:∀H:Hp,Yx H→SqL K H a (ns.map V.int)→HOk P w H s₁.heap→(∀b,H b≠none→b=a)→(H a≠none→K.lookup a=none)→
   oF (model P w) tu (.call (.ref fa) ⟨[.ref a],[]⟩) (fun r s'=>r=.ok (.ret (.bool true))∧OldK s₁.heap s'.heap∧s'.os=s₁.os∧qN s'.gens) s₁:=by
  intro H hO hS hok hA hK
  have base_of:∀{b:Addr} {o:Obj},s₁.heap.get? b=some o→H b=none→(JI s₁.heap H).get? b=some o:=fun e n=>Qp e n
  have noA:∀{b:Addr} {o:Obj} {es:Array DictEntry} {ep:Nat},s₁.heap.get? b=some o→o.data=.dict es ep→H b=none:=fun{b o es ep} e d=>by
   cases q:H b with
   |none=>rfl
   |some u=>
    have e':b=a:=hA b (by rw[q];simp)
    subst e'
    rw[ha] at e;cases e
    have d':Data.seq vs.toArray _=Data.dict es ep:=d
    cases d'
  have nsK:∀{b:Addr} {m:Str→Option Value},s₁.heap.Ns b m→(JI s₁.heap H).Ns b m:=fun{b m} ⟨o,es,ep,e,d,r⟩=> ⟨o,es,ep,base_of e (noA e d),d,r⟩
  have hKb:K.In (JI s₁.heap H):=fun b o e=>base_of (KX b o e) (by
   cases q:H b with
   |none=>rfl
   |some u=>
    have e':b=a:=hA b (by rw[q];simp)
    subst e'
    rw[hK (by rw[q];simp)] at e;cases e)
  have hM:Mod K mg (JI s₁.heap H):=⟨hKb,nsK hns,⟨mb,nsK hb,hbb⟩,let⟨mc,h1,h2⟩:=hlim;⟨mc,nsK h1,h2⟩⟩
  have e0:Env0 P w K mg (JI s₁.heap H) tu [] s₁ H:=⟨rfl,hM,fun b o e=>Us e,Nat.le_of_eq (PZ _ _),trivial,fun b hb=>absurd (show b∈([]:List Addr) from hb) (by simp),hok,.of_eq hg⟩
  refine oD ((F _ hKb (nsK hns)).run tu [] s₁ H ⟨[.ref a],[]⟩ [.ref a] [.ref a] _ _ hr e0 (hbind s₁ (.ref a)) (.cons rfl .nil) (hsp H hO hS)) fun r s' h=>?_
  cases r with
  |error e=>exact(hCX H e s' h).elim
  |ok fl=>
   cases fl with
   |next=>exact lG h
   |brk=>exact lG h
   |cont=>exact lG h
   |ret u=>
    obtain⟨v,H',os,bare,un,hok',r',q⟩:=h
    have q':v=.bl true:=q
    subst q'
    obtain rfl:u=qf true:=r'
    refine⟨rfl,OldK.of_keep fun b o e=>?_,os,bare⟩
    cases q:H b with
    |none=>exact un.keep b o e q (by intro z;exact absurd (show b∈([]:List Addr) from z) (by simp)) (by simp)
    |some u=>
     rcases hO b with z| ⟨ob,xs,z⟩
     ·rw[q] at z;cases z
     ·have z2:=un.frzs b ob _ z
      obtain⟨e1,_⟩:=hok b _ z
      obtain⟨e2,_⟩:=hok' b _ z2
      rw[e] at e1;cases e1
      exact e2
 cases hk:K.lookup a with
 |some o=>
  have e:=KX a o hk
  rw[ha] at e
  cases e
  refine core (fun _=>none) (fun _=> .inl rfl) (.inr ⟨_,vs.toArray,_,hk,rfl,rfl,rfl,by rw[jy,lenV];exact hl,by simpa using rv⟩) (fun b u z=>by have z':(none:Option HO)=some u:=z;cases z') (fun b z=>absurd rfl z) fun z=>absurd rfl z
 |none=>
  refine core (fun b=>if b=a then some (.frz {cls:=.type "list",data:=.seq vs.toArray} (.lst (ns.map V.int))) else none) (fun b=>?_) (.inl (.inr ⟨{cls:=.type "list",data:=.seq vs.toArray},if_pos rfl⟩)) (fun b u z=>?_) (fun b z=>?_) fun _=>hk
  ·by_cases hb:b=a
   ·exact .inr ⟨_,_,if_pos hb⟩
   ·exact .inl (if_neg hb)
  ·by_cases hb:b=a
   ·have z':=(if_pos hb).symm.trans z
    cases z'
    subst hb
    exact⟨ha,by rw[b9];exact hl,vs,_,rv,ha⟩
   ·have z':=(if_neg hb).symm.trans z
    cases z'
  ·by_cases hb:b=a
   ·exact hb
   ·exact absurd (if_neg hb) z
theorem VI{l:sG}{K:Params→a8}{CX:World→RJ}{sp:World→Sp}
  (hn:l.most=some n) (hn2:n≤sizeLine) (hdf:d.params.defaults=[]) (hr:Room k tu)
  (hY:∀(w:World) (h:Heap),YP w h→(K w.params).In h)
  (F:∀(w:World) (mg:Str→Option Value) (fa:Addr) (h:Heap),(K w.params).In h→h.Ns lE mg→mg d.name=some (.ref fa)→
   ∃fd:j5,(∀(s:Shared) (u:Value),tD s fd ⟨[u],[]⟩ [(x,u)])∧
    ∀base:Heap,(K w.params).In base→base.Ns lE mg→FnOk l.prog w (K w.params) mg base (CX w) k fa fd [x] (sp w))
  (hsp:∀(w:World) (H:Hp) (a:Addr) (ns:List Int),ns.length≤n→Yx H→SqL (K w.params) H a (ns.map V.int)→sp w [.ref a] H (fun v _=>v=.bl true) fun _ _ _=>False)
  (hCX:∀(w:World) (H:Hp) (s:Shared) (e:Value) (s':Shared),CX w [] H s (fun _ _ _=>False) e s'→False):
  PySem.W.WalkO q loose XP YP l.row.toRowW d [] (fun f vs=>PySem.call f vs):=by
 refine Att.Kf hn hdf fun w s₀ s₁ mg mb fa o pm cd doc a vs ns G Y ho hd hcd hmg hobj hints hlen hg=>?_
 have KX:=hY w _ Y
 obtain⟨fd,hb,hF⟩:=F w mg fa _ KX G.T.g hmg
 exact RS KX G.T.g G.T.b G.T.builtins G.T.nolimit hg hobj hints (kO hlen hn2) hr hF hb (fun H hO hS=>hsp w H a ns hlen hO hS) fun H e s'=>hCX w H s₁ e s'
noncomputable def Eu(s:Stmt):Arguments:=match s with
 | .FunctionDef _ a _ _ _ _ _ _ _ _=>a
 |_=> {posonlyargs:=[],args:=[],vararg:=none,kwonlyargs:=[],kw_defaults:=[],kwarg:=none,defaults:=[]}
noncomputable def Ae(s:Stmt):List Stmt:=match s with
 | .FunctionDef _ _ b _ _ _ _ _ _ _=>b
 |_=> []
noncomputable def AA(s:Stmt):Scope:=match s with
 | .FunctionDef _ _ _ _ _ _ sc _ _ _=>sc
 |_=> {kind:=.function,names:=[],isGenerator:=false,isCoroutine:=false}
noncomputable abbrev gE:RJ:=fun _ _ _ _ _ _=>False
noncomputable abbrev E0:XK:=fun _ _ _=>False
structure Fun(K:a8)(x qual:Str)(st:Stmt)(f:Addr)(fd:j5):Prop where
 ex:∃(oc:Value) (od:Option Addr) (kV doc pm:Value) (an:Option Addr) (cdv ct:Value) (osl:Array (Option Value)),
  fd=pf x qual (Eu st) (Ae st) (AA st) .none kV doc pm an cdv ct∧K.lookup f=some ⟨oc,od,.func fd,osl⟩∧sX K cdv qual=true
 kp:lF K (.ref f)=true
section
variable {K:a8}
theorem Fun.binds{st:Stmt}(F:Fun K x qual st f fd)
  (h:∀(kV doc pm:Value) (an:Option Addr) (cdv ct:Value) (us:List Value),us.length=ps.length→bindArgs (pf x qual (Eu st) (Ae st) (AA st) .none kV doc pm an cdv ct) ⟨us,[]⟩=pure (ps.zip us)):Binds K fd ps []:=by
 obtain⟨oc,od,kV,doc,pm,an,cdv,ct,osl,rfl,lk,hcd⟩:=F.ex
 exact .all (h kV doc pm an cdv ct)
end
section
variable {X:Cx}
theorem pv(i:Nat){pos:Pos}(hN:X.N[i]?=some x:=by rfl)(hv:Ut X.env.scope x:=by first|exact nv rfl|exact nW (nv rfl)|exact nW (nW rfl))(hd:(x==("__debug__" :Str))=false:=by decide)
  (hcd:(x==("__classdict__" :Str))=false:=by decide):PE X (.Name x pos) (bO i):=Qq hN hv hd hcd
end
theorem GP{B:Prop}(h:B):if false=true then A else B:=by
 rw[if_neg e8]
 exact h
theorem JP{B:Prop}(h:A):if true=true then A else B:=by
 rw[if_pos rfl]
 exact h
theorem gF{B:Prop} [Decidable c](h1:c→A)(h2:¬c→B):if c then A else B:=by
 by_cases h:c
 ·rw[if_pos h]
  exact h1 h
 ·rw[if_neg h]
  exact h2 h
noncomputable def Same(H H':Hp):Prop:=∀b o,H b=some o→H' b=some o
theorem Same.refl(H:Hp):Same H H:=fun _ _ h=>h
end L2
set_option maxHeartbeats 4000000
namespace K40
open PySem L2
noncomputable def kE(P:Params)(x:Str)(n:Tok)(v:Value):DictEntry:=⟨PyData.keyHash P x,.str x n,v⟩
noncomputable def tp(i:Nat):Stmt:=kz.main.body.getD i (.Pass ⟨0,0,0,0⟩)
noncomputable def kF(x:Str)(i:Nat)(m:Str)(t:Tok)(c:Addr):Obj:=⟨.type "function",none,.func (pf x x (Eu (tp i)) (Ae (tp i)) (AA (tp i)) .none .none .none (.str m t) none (.ref c) .none),#[]⟩
noncomputable def kC(x:Str)(a b c:Tok)(vs:List Value):Obj:=⟨.type "code",none,.fields ((qd x a::.str x b::.str "/claim/cut.py" c::vs).toArray),#[]⟩
noncomputable def kD(x:Str)(a b c:Tok)(l n:Int)(r:Addr)(g:Int)(q:Addr)(z:Int)(k:Tok)(vs:List Value):Obj:=kC x a b c (.int l 0::.int n 0::.int 0 0::.int 0 0::.int 3 0::.ref r::.bool true::.int g 0::.ref q::(vs++[.int z 0,.int l 0,.str "/claim/cut.py" k]))
noncomputable def Kk:Params→a8:=fun P=> (nat_lit 3,⟨(.type "dict"),none,(.dict #[kE P "__name__" 165 (.str "law_noshortring_k40_kinds_counted" 553),kE P "__doc__" 166 .none,kE P "__package__" 167 .none,kE P "__loader__" 168 (.builtin "__main__.__loader__#opaque"),kE P "__spec__" 169 .none,kE P "__annotations__" 170 (.ref 6),kE P "__builtins__" 171 (.ref 4),kE P "__file__" 173 (.str "/claim/cut.py" 172),kE P "__cached__" 174 .none,kE P "RingError" 206 (.ref 24),kE P "NoPlace" 222 (.ref 37),kE P "NoNumber" 238 (.ref 49),kE P "NoLine" 254 (.ref 61),kE P "NoRing" 270 (.ref 73),kE P "NotEven" 286 (.ref 85),kE P "NoWeb" 311 (.ref 104),kE P "NoText" 336 (.ref 123),kE P "TooGreat" 363 (.ref 142),kE P "is_whole" 374 (.ref 151),kE P "least_told" 380 (.ref 156),kE P "MOST_PLACES" 384 (.int 16 383),kE P "ties_of" 390 (.ref 161),kE P "nears_of" 396 (.ref 166),kE P "fars_from" 402 (.ref 171),kE P "even_by" 408 (.ref 176),kE P "ring_by_tie" 414 (.ref 181),kE P "shortest" 420 (.ref 186),kE P "OF_ONE_NUMBER" 441 (.ref 193),kE P "LEAST_SPOKES" 443 (.int 3 442),kE P "MOST_SPOKES" 445 (.int 8 444),kE P "all_kinds" 451 (.ref 198),kE P "kind_good" 457 (.ref 203),kE P "need_kind" 464 (.ref 210),kE P "cube_pairs" 470 (.ref 215),kE P "two_pairs" 476 (.ref 220),kE P "full_pairs" 482 (.ref 225),kE P "ring_pairs" 488 (.ref 230),kE P "across_pairs" 494 (.ref 235),kE P "spokes_pairs" 500 (.ref 240),kE P "lines_pairs" 506 (.ref 245),kE P "places_and_pairs" 515 (.ref 252),kE P "web_of_kind" 523 (.ref 259),kE P "web_by" 530 (.ref 266),kE P "kind_counts" 538 (.ref 273),kE P "kind_even" 545 (.ref 280),kE P "kind_ring" 552 (.ref 287),kE P "_law_cell_at" 562 (.ref 294),kE P "_law_next" 569 (.ref 301),kE P "_law_pen_of" 577 (.ref 308),kE P "_law_draw" 586 (.ref 315),kE P "_law_whole" 593 (.ref 322),kE P "_law_kind_of" 601 (.ref 329),kE P "_law_refused" 609 (.ref 336),kE P "_law_near" 615 (.ref 341),kE P "_law_fars" 621 (.ref 346),kE P "_law_through" 627 (.ref 351),kE P "_law_shortest" 633 (.ref 356),kE P "_law_even_of" 639 (.ref 361),kE P "_law_kind_like" 645 (.ref 366),kE P "_law_kind_tie" 651 (.ref 371),kE P "_law_kind_web" 657 (.ref 376),kE P "_law_all_kinds" 663 (.ref 381),kE P "_law_bent_kind" 675 (.ref 388),kE P "_law_told" 684 (.ref 395),kE P "_law_is_of" 692 (.ref 402),kE P "_law_right" 698 (.ref 407),kE P "law" 704 (.ref 412)] 67),#[]⟩)::
  (nat_lit 23,⟨(.type "dict"),none,(.dict #[kE P "__module__" 196 (.str "noshortring.errors" 187),kE P "__firstlineno__" 200 (.int 2 199),kE P "__static_attributes__" 201 (.ref 22),kE P "__weakref__" 203 (.ref 25),kE P "__doc__" 204 .none] 3),#[]⟩)::
  (nat_lit 24,⟨(.type "type"),none,(.cls ⟨"RingError",[(.type "ValueError")],[(.ref 24),(.type "ValueError"),(.type "Exception"),(.type "BaseException"),(.type "object")],23,"RingError",true,[],[(.ref 37),(.ref 49),(.ref 61),(.ref 73),(.ref 85),(.ref 104),(.ref 123),(.ref 142)],false,none,false⟩),#[(some (.ref 15)),none,(some (.str "RingError" 189)),(some (.str "RingError" 197)),(some (.builtin "ValueError.__new__")),(some (.bool true))]⟩)::
  (nat_lit 37,⟨(.type "type"),none,(.cls ⟨"NoPlace",[(.ref 24)],[(.ref 37),(.ref 24),(.type "ValueError"),(.type "Exception"),(.type "BaseException"),(.type "object")],36,"NoPlace",true,[],[],false,none,false⟩),#[(some (.ref 28)),none,(some (.str "NoPlace" 207)),(some (.str "NoPlace" 215)),(some (.builtin "ValueError.__new__")),(some (.bool true))]⟩)::
  (nat_lit 49,⟨(.type "type"),none,(.cls ⟨"NoNumber",[(.ref 24)],[(.ref 49),(.ref 24),(.type "ValueError"),(.type "Exception"),(.type "BaseException"),(.type "object")],48,"NoNumber",true,[],[],false,none,false⟩),#[(some (.ref 40)),none,(some (.str "NoNumber" 223)),(some (.str "NoNumber" 231)),(some (.builtin "ValueError.__new__")),(some (.bool true))]⟩)::
  (nat_lit 60,⟨(.type "dict"),none,(.dict #[kE P "__module__" 246 (.str "noshortring.errors" 187),kE P "__firstlineno__" 250 (.int 8 249),kE P "__static_attributes__" 251 (.ref 59),kE P "__doc__" 252 .none] 2),#[]⟩)::
  (nat_lit 61,⟨(.type "type"),none,(.cls ⟨"NoLine",[(.ref 24)],[(.ref 61),(.ref 24),(.type "ValueError"),(.type "Exception"),(.type "BaseException"),(.type "object")],60,"NoLine",true,[],[],false,none,false⟩),#[(some (.ref 52)),none,(some (.str "NoLine" 239)),(some (.str "NoLine" 247)),(some (.builtin "ValueError.__new__")),(some (.bool true))]⟩)::
  (nat_lit 73,⟨(.type "type"),none,(.cls ⟨"NoRing",[(.ref 24)],[(.ref 73),(.ref 24),(.type "ValueError"),(.type "Exception"),(.type "BaseException"),(.type "object")],72,"NoRing",true,[],[],false,none,false⟩),#[(some (.ref 64)),none,(some (.str "NoRing" 255)),(some (.str "NoRing" 263)),(some (.builtin "ValueError.__new__")),(some (.bool true))]⟩)::
  (nat_lit 85,⟨(.type "type"),none,(.cls ⟨"NotEven",[(.ref 24)],[(.ref 85),(.ref 24),(.type "ValueError"),(.type "Exception"),(.type "BaseException"),(.type "object")],84,"NotEven",true,[],[],false,none,false⟩),#[(some (.ref 76)),none,(some (.str "NotEven" 271)),(some (.str "NotEven" 279)),(some (.builtin "ValueError.__new__")),(some (.bool true))]⟩)::
  (nat_lit 104,⟨(.type "type"),none,(.cls ⟨"NoWeb",[(.ref 24)],[(.ref 104),(.ref 24),(.type "ValueError"),(.type "Exception"),(.type "BaseException"),(.type "object")],103,"NoWeb",true,[],[],false,none,false⟩),#[(some (.ref 88)),none,(some (.str "NoWeb" 287)),(some (.str "NoWeb" 295)),(some (.builtin "ValueError.__new__")),(some (.bool true))]⟩)::
  (nat_lit 123,⟨(.type "type"),none,(.cls ⟨"NoText",[(.ref 24)],[(.ref 123),(.ref 24),(.type "ValueError"),(.type "Exception"),(.type "BaseException"),(.type "object")],122,"NoText",true,[],[],false,none,false⟩),#[(some (.ref 107)),none,(some (.str "NoText" 312)),(some (.str "NoText" 320)),(some (.builtin "ValueError.__new__")),(some (.bool true))]⟩)::
  (nat_lit 142,⟨(.type "type"),none,(.cls ⟨"TooGreat",[(.ref 24)],[(.ref 142),(.ref 24),(.type "ValueError"),(.type "Exception"),(.type "BaseException"),(.type "object")],141,"TooGreat",true,[],[],false,none,false⟩),#[(some (.ref 126)),none,(some (.str "TooGreat" 337)),(some (.str "TooGreat" 345)),(some (.builtin "ValueError.__new__")),(some (.bool true))]⟩)::
  (nat_lit 150,kD "is_whole" 366 367 368 28 3 145 181 146 372 373 [.none,(.ref 147),(.ref 148),(.ref 149)])::
  (nat_lit 151,kF "is_whole" 11 "noshortring.common" 364 150)::
  (nat_lit 155,kD "least_told" 375 376 377 32 1 152 181 153 378 379 [.none,.none,.none,(.ref 154)])::
  (nat_lit 156,kF "least_told" 12 "noshortring.common" 364 155)::
  (nat_lit 160,kD "ties_of" 385 386 387 36 1 157 181 158 388 389 [.none,.none,.none,(.ref 159)])::
  (nat_lit 161,kF "ties_of" 15 "noshortring.webs" 381 160)::
  (nat_lit 165,kD "nears_of" 391 392 393 38 1 162 181 163 394 395 [.none,.none,.none,(.ref 164)])::
  (nat_lit 166,kF "nears_of" 16 "noshortring.webs" 381 165)::
  (nat_lit 170,kD "fars_from" 397 398 399 44 2 167 181 168 400 401 [.none,.none,.none,(.ref 169)])::
  (nat_lit 171,kF "fars_from" 17 "noshortring.webs" 381 170)::
  (nat_lit 175,kD "even_by" 403 404 405 60 1 172 181 173 406 407 [.none,.none,.none,(.ref 174)])::
  (nat_lit 176,kF "even_by" 18 "noshortring.webs" 381 175)::
  (nat_lit 180,kD "ring_by_tie" 409 410 411 63 3 177 181 178 412 413 [.none,.none,.none,(.ref 179)])::
  (nat_lit 181,kF "ring_by_tie" 19 "noshortring.webs" 381 180)::
  (nat_lit 185,kD "shortest" 415 416 417 68 1 182 181 183 418 419 [.none,.none,.none,(.ref 184)])::
  (nat_lit 186,kF "shortest" 20 "noshortring.webs" 381 185)::
  (nat_lit 187,⟨(.type "tuple"),none,(.seq #[(.str "cube" 423),(.int 0 424),(.int 4 425)] 0),#[]⟩)::
  (nat_lit 188,⟨(.type "tuple"),none,(.seq #[(.str "full" 426),(.int 1 427),(.int 16 428)] 0),#[]⟩)::
  (nat_lit 189,⟨(.type "tuple"),none,(.seq #[(.str "ladder" 429),(.int 3 430),(.int 8 431)] 0),#[]⟩)::
  (nat_lit 190,⟨(.type "tuple"),none,(.seq #[(.str "lines" 432),(.int 7 433),(.int 7 434)] 0),#[]⟩)::
  (nat_lit 191,⟨(.type "tuple"),none,(.seq #[(.str "ring" 435),(.int 3 436),(.int 16 437)] 0),#[]⟩)::
  (nat_lit 192,⟨(.type "tuple"),none,(.seq #[(.str "twisted" 438),(.int 2 439),(.int 8 440)] 0),#[]⟩)::
  (nat_lit 193,⟨(.type "tuple"),none,(.seq #[(.ref 187),(.ref 188),(.ref 189),(.ref 190),(.ref 191),(.ref 192)] 0),#[]⟩)::
  (nat_lit 197,kD "all_kinds" 446 447 448 75 0 194 181 195 449 450 [.none,.none,.none,(.ref 196)])::
  (nat_lit 198,kF "all_kinds" 25 "noshortring.kinds" 421 197)::
  (nat_lit 202,kD "kind_good" 452 453 454 84 1 199 181 200 455 456 [.none,.none,.none,(.ref 201)])::
  (nat_lit 203,kF "kind_good" 26 "noshortring.kinds" 421 202)::
  (nat_lit 209,kD "need_kind" 458 459 460 88 1 204 181 205 462 463 [.none,(.ref 206),(.ref 207),(.ref 208)])::
  (nat_lit 210,kF "need_kind" 27 "noshortring.kinds" 421 209)::
  (nat_lit 214,kD "cube_pairs" 465 466 467 91 1 211 181 212 468 469 [.none,.none,.none,(.ref 213)])::
  (nat_lit 215,kF "cube_pairs" 28 "noshortring.kinds" 421 214)::
  (nat_lit 219,kD "two_pairs" 471 472 473 96 2 216 181 217 474 475 [.none,.none,.none,(.ref 218)])::
  (nat_lit 220,kF "two_pairs" 29 "noshortring.kinds" 421 219)::
  (nat_lit 224,kD "full_pairs" 477 478 479 101 1 221 181 222 480 481 [.none,.none,.none,(.ref 223)])::
  (nat_lit 225,kF "full_pairs" 30 "noshortring.kinds" 421 224)::
  (nat_lit 229,kD "ring_pairs" 483 484 485 106 1 226 181 227 486 487 [.none,.none,.none,(.ref 228)])::
  (nat_lit 230,kF "ring_pairs" 31 "noshortring.kinds" 421 229)::
  (nat_lit 234,kD "across_pairs" 489 490 491 108 1 231 181 232 492 493 [.none,.none,.none,(.ref 233)])::
  (nat_lit 235,kF "across_pairs" 32 "noshortring.kinds" 421 234)::
  (nat_lit 239,kD "spokes_pairs" 495 496 497 110 2 236 181 237 498 499 [.none,.none,.none,(.ref 238)])::
  (nat_lit 240,kF "spokes_pairs" 33 "noshortring.kinds" 421 239)::
  (nat_lit 244,kD "lines_pairs" 501 502 503 112 1 241 181 242 504 505 [.none,.none,.none,(.ref 243)])::
  (nat_lit 245,kF "lines_pairs" 34 "noshortring.kinds" 421 244)::
  (nat_lit 251,kD "places_and_pairs" 507 508 509 117 1 246 181 247 513 514 [.none,(.ref 248),(.ref 249),(.ref 250)])::
  (nat_lit 252,kF "places_and_pairs" 35 "noshortring.kinds" 421 251)::
  (nat_lit 258,kD "web_of_kind" 516 517 518 135 1 253 181 254 521 522 [.none,(.ref 255),(.ref 256),(.ref 257)])::
  (nat_lit 259,kF "web_of_kind" 36 "noshortring.kinds" 421 258)::
  (nat_lit 265,kD "web_by" 524 525 526 138 1 260 181 261 528 529 [.none,(.ref 262),(.ref 263),(.ref 264)])::
  (nat_lit 266,kF "web_by" 37 "noshortring.kinds" 421 265)::
  (nat_lit 272,kD "kind_counts" 531 532 533 141 1 267 181 268 536 537 [.none,(.ref 269),(.ref 270),(.ref 271)])::
  (nat_lit 273,kF "kind_counts" 38 "noshortring.kinds" 421 272)::
  (nat_lit 279,kD "kind_even" 539 540 541 144 1 274 181 275 543 544 [.none,(.ref 276),(.ref 277),(.ref 278)])::
  (nat_lit 280,kF "kind_even" 39 "noshortring.kinds" 421 279)::
  (nat_lit 286,kD "kind_ring" 546 547 548 146 1 281 181 282 550 551 [.none,(.ref 283),(.ref 284),(.ref 285)])::
  (nat_lit 287,kF "kind_ring" 40 "noshortring.kinds" 421 286)::
  (nat_lit 293,kD "_law_cell_at" 555 556 557 149 2 288 181 289 560 561 [.none,(.ref 290),(.ref 291),(.ref 292)])::
  (nat_lit 294,kF "_law_cell_at" 42 "law_noshortring_k40_kinds_counted" 553 293)::
  (nat_lit 300,kD "_law_next" 563 564 565 153 1 295 181 296 567 568 [.none,(.ref 297),(.ref 298),(.ref 299)])::
  (nat_lit 301,kF "_law_next" 43 "law_noshortring_k40_kinds_counted" 553 300)::
  (nat_lit 307,kD "_law_pen_of" 570 571 572 156 1 302 181 303 575 576 [.none,(.ref 304),(.ref 305),(.ref 306)])::
  (nat_lit 308,kF "_law_pen_of" 44 "law_noshortring_k40_kinds_counted" 553 307)::
  (nat_lit 314,kD "_law_draw" 578 579 580 159 2 309 181 310 584 585 [.none,(.ref 311),(.ref 312),(.ref 313)])::
  (nat_lit 315,kF "_law_draw" 45 "law_noshortring_k40_kinds_counted" 553 314)::
  (nat_lit 321,kD "_law_whole" 587 588 589 166 1 316 181 317 591 592 [.none,(.ref 318),(.ref 319),(.ref 320)])::
  (nat_lit 322,kF "_law_whole" 46 "law_noshortring_k40_kinds_counted" 553 321)::
  (nat_lit 328,kD "_law_kind_of" 594 595 596 168 1 323 181 324 599 600 [.none,(.ref 325),(.ref 326),(.ref 327)])::
  (nat_lit 329,kF "_law_kind_of" 47 "law_noshortring_k40_kinds_counted" 553 328)::
  (nat_lit 335,kD "_law_refused" 602 603 604 174 1 330 181 331 607 608 [.none,(.ref 332),(.ref 333),(.ref 334)])::
  (nat_lit 336,kF "_law_refused" 48 "law_noshortring_k40_kinds_counted" 553 335)::
  (nat_lit 340,kD "_law_near" 610 611 612 181 2 337 181 338 613 614 [.none,.none,.none,(.ref 339)])::
  (nat_lit 341,kF "_law_near" 49 "law_noshortring_k40_kinds_counted" 553 340)::
  (nat_lit 345,kD "_law_fars" 616 617 618 183 2 342 181 343 619 620 [.none,.none,.none,(.ref 344)])::
  (nat_lit 346,kF "_law_fars" 50 "law_noshortring_k40_kinds_counted" 553 345)::
  (nat_lit 350,kD "_law_through" 622 623 624 196 2 347 181 348 625 626 [.none,.none,.none,(.ref 349)])::
  (nat_lit 351,kF "_law_through" 51 "law_noshortring_k40_kinds_counted" 553 350)::
  (nat_lit 355,kD "_law_shortest" 628 629 630 200 1 352 181 353 631 632 [.none,.none,.none,(.ref 354)])::
  (nat_lit 356,kF "_law_shortest" 52 "law_noshortring_k40_kinds_counted" 553 355)::
  (nat_lit 360,kD "_law_even_of" 634 635 636 203 1 357 181 358 637 638 [.none,.none,.none,(.ref 359)])::
  (nat_lit 361,kF "_law_even_of" 53 "law_noshortring_k40_kinds_counted" 553 360)::
  (nat_lit 365,kD "_law_kind_like" 640 641 642 206 1 362 181 363 643 644 [.none,.none,.none,(.ref 364)])::
  (nat_lit 366,kF "_law_kind_like" 54 "law_noshortring_k40_kinds_counted" 553 365)::
  (nat_lit 370,kD "_law_kind_tie" 646 647 648 219 3 367 181 368 649 650 [.none,.none,.none,(.ref 369)])::
  (nat_lit 371,kF "_law_kind_tie" 55 "law_noshortring_k40_kinds_counted" 553 370)::
  (nat_lit 375,kD "_law_kind_web" 652 653 654 237 1 372 181 373 655 656 [.none,.none,.none,(.ref 374)])::
  (nat_lit 376,kF "_law_kind_web" 56 "law_noshortring_k40_kinds_counted" 553 375)::
  (nat_lit 380,kD "_law_all_kinds" 658 659 660 245 0 377 181 378 661 662 [.none,.none,.none,(.ref 379)])::
  (nat_lit 381,kF "_law_all_kinds" 57 "law_noshortring_k40_kinds_counted" 553 380)::
  (nat_lit 387,kD "_law_bent_kind" 664 665 666 253 2 382 181 383 673 674 [.none,(.ref 384),(.ref 385),(.ref 386)])::
  (nat_lit 388,kF "_law_bent_kind" 58 "law_noshortring_k40_kinds_counted" 553 387)::
  (nat_lit 394,kD "_law_told" 676 677 678 260 2 389 181 390 682 683 [.none,(.ref 391),(.ref 392),(.ref 393)])::
  (nat_lit 395,kF "_law_told" 59 "law_noshortring_k40_kinds_counted" 553 394)::
  (nat_lit 401,kD "_law_is_of" 685 686 687 265 2 396 181 397 690 691 [.none,(.ref 398),(.ref 399),(.ref 400)])::
  (nat_lit 402,kF "_law_is_of" 60 "law_noshortring_k40_kinds_counted" 553 401)::
  (nat_lit 406,kD "_law_right" 693 694 695 267 1 403 181 404 696 697 [.none,.none,.none,(.ref 405)])::
  (nat_lit 407,kF "_law_right" 61 "law_noshortring_k40_kinds_counted" 553 406)::
  (nat_lit 411,kD "law" 699 700 701 273 1 408 181 409 702 703 [.none,.none,.none,(.ref 410)])::
  (nat_lit 412,kF "law" 62 "law_noshortring_k40_kinds_counted" 553 411)::[]
noncomputable def ka:List Addr:=[3,23,24,37,49,60,61,73,85,104,123,142,150,151,155,156,160,161,165,166,170,171,175,176,180,181,185,186,187,188,189,190,191,192,193,197,198,202,203,209,210,214,215,219,220,224,225,229,230,234,235,239,240,244,245,251,252,258,259,265,266,272,273,279,280,286,287,293,294,300,301,307,308,314,315,321,322,328,329,335,336,340,341,345,346,350,351,355,356,360,361,365,366,370,371,375,376,380,381,387,388,394,395,401,402,406,407,411,412]
noncomputable abbrev kq:Program:=PySem.W.view kz [1,2,3,4,5,6,7,8,9,11,12,14,15,16,17,18,19,20,22,23,24,25,26,27,28,29,30,31,32,33,34,35,36,37,38,39,40,42,43,44,45,46,47,48,49,50,51,52,53,54,55,56,57,58,59,60,61,62]
theorem gG:(fun(_:Params→a8) (_:Program)=>true) Kk kz=true:=by k_qdec
noncomputable abbrev oS(s:Shared):=PySem.W.openSeen kq [] (importedModules kz.main.body) (fun s=>t7 kq [] s&&tK [] s) true s
noncomputable abbrev oE(w:World):=PySem.W.openEnds treeTable kz w 6814
theorem cD(w:World):(oE w).map (fun s=> ((oS s).1,(oS s).2.2.2.2.1))=some ((lJ kq []).1,(lJ kq []).2.2.2.2.1):=by
 delta oE oS kq
 rw[PySem.W.Fast.te14374621333171338184,lX,me]
 delta md lJ
 dsimp only
 kernel_rfl
theorem cE(w:World):(oE w).map (fun s=> ((oS s).2.1,(oS s).2.2.1,(oS s).2.2.2.2.2.2.1,(oS s).2.2.2.2.2.2.2.2))=some ((lJ kq []).2.1,(lJ kq []).2.2.1,(lJ kq []).2.2.2.2.2.2.1,(lJ kq []).2.2.2.2.2.2.2.2):=by
 delta oE oS kq
 rw[PySem.W.Fast.te14374621333171338184,lX,me,PySem.W.Fast.te5923862056798008813]
 delta md lJ
 dsimp only
 kernel_rfl
theorem cF(w:World):(oE w).map (fun s=> ((oS s).2.2.2.1))=some ((lJ kq []).2.2.2.1):=by
 delta oE oS kq
 rw[PySem.W.Fast.te14374621333171338184,lX,me]
 delta md lJ
 dsimp only
 kernel_rfl
theorem cG(w:World):(oE w).map (fun s=> ((oS s).2.2.2.2.2.1))=some ((lJ kq []).2.2.2.2.2.1):=by
 delta oE oS kq
 rw[PySem.W.Fast.te14374621333171338184,lX,me]
 delta md lJ
 dsimp only
 kernel_rfl
theorem cH(w:World):(oE w).map (fun s=> ((oS s).2.2.2.2.2.2.2.1,ka.map s.heap.get?))=some ((lJ kq []).2.2.2.2.2.2.2.1,(Kk w.params).map fun(p:Addr×Obj)=>some p.2):=by
 delta oE oS kq
 rw[PySem.W.Fast.te6437657081921248949,PySem.W.Fast.te14374621333171338184,lX,me]
 delta md lJ
 dsimp only
 kernel_rfl
theorem left:PySem.W.LeftO kz kq [] (fun s=>t7 kq [] s&&tK [] s) (fun s=>ka.map s.heap.get?) (fun w=> (Kk w.params).map fun(p:Addr×Obj)=>some p.2) 6814:=by
 intro w
 have h0:=cD w
 have h1:=cE w
 have h2:=cF w
 have h3:=cG w
 have h4:=cH w
 show(oE w).map (fun s=> (oS s,ka.map s.heap.get?))=_
 revert h0 h1 h2 h3 h4
 cases oE w with
 |none=>intro h;cases h
 |some s=>
  intro h0 h1 h2 h3 h4
  have h0:=lu.inj h0
  simp only[rO] at h0
  have h1:=lu.inj h1
  simp only[rO] at h1
  have h2:=lu.inj h2
  have h3:=lu.inj h3
  have h4:=lu.inj h4
  simp only[rO] at h4
  exact congrArg some (mz (mz (h0.1) (mz (h1.1) (mz (h1.2.1) (mz (h2) (mz (h0.2) (mz (h3) (mz (h1.2.2.1) (mz (h4.1) (h1.2.2.2))))))))) (h4.2))
end K40
namespace L2
open PySem PySem.Spec PyProof.Rows
theorem JQ:∀(l:List (Str×NameKind)) (acc:List (Str×Addr)),(∀y∈l,y.2=.free→∃c,env.cells.lookup y.1=some c)→
  (∀x c,acc.lookup x=some c→env.cells.lookup x=some c)→
  ∃cl,(forIn l acc (fun(x:Str×NameKind) (r:List (Str×Addr))=> (match x with
   | (name,kind)=>if(kind==NameKind.free)=true then(do let a←cellOf env name;pure (nr ((name,a)::r))) else pure (nr r):Sem (ForInStep (List (Str×Addr))))))=(pure cl:Sem _)∧
   (∀x c,cl.lookup x=some c→env.cells.lookup x=some c)∧(∀x,(acc.lookup x).isSome=true→(cl.lookup x).isSome=true)∧∀y∈l,y.2=.free→(cl.lookup y.1).isSome=true
 | [],acc,_,ha=> ⟨acc,rfl,ha,fun _ h=>h,fun _ h=>nomatch h⟩
 | (n,k)::r,acc,h,ha=>by
  have hr:∀y∈r,y.2=.free→∃c,env.cells.lookup y.1=some c:=fun y hy=>h y (jt _ hy)
  by_cases hk:k=.free
  ·subst hk
   obtain⟨c,hc⟩:=h (n,.free) j4 rfl
   have hc:env.cells.lookup n=some c:=hc
   have ha':∀x c',((n,c)::acc).lookup x=some c'→env.cells.lookup x=some c':=fun x c' e=>by
    rw[lh] at e
    cases hx:x==n with
    |true=>rw[hx] at e;cases e;rw[beq_iff_eq.mp hx];exact hc
    |false=>rw[hx] at e;exact ha x c' e
   obtain⟨cl,e,h1,h2,h3⟩:=JQ r ((n,c)::acc) hr ha'
   refine⟨cl,?_,h1,fun x hx=>h2 x ?_,fun y hy hf=>?_⟩
   ·rw[sI]
    simp only[cellOf,hc,beq_self_eq_true,if_true]
    exact e
   ·rw[lh]
    cases x==n with
    |true=>rfl
    |false=>exact hx
   ·rcases ju.mp hy with rfl|hy
    ·exact h2 n (by rw[lh,beq_self_eq_true];rfl)
    ·exact h3 y hy hf
  ·have hb:(k==NameKind.free)=false:=by simpa using hk
   obtain⟨cl,e,h1,h2,h3⟩:=JQ r acc hr ha
   refine⟨cl,?_,h1,h2,fun y hy hf=>?_⟩
   ·rw[sI]
    simp only[hb,j9,if_false]
    exact e
   ·rcases ju.mp hy with rfl|hy
    ·exact absurd hf hk
    ·exact h3 y hy hf
theorem VJ(h:∀y∈csc.names,y.2=.free→∃c,env.cells.lookup y.1=some c):
  ∃cl,closureFor csc env=pure cl∧(∀x c,cl.lookup x=some c→env.cells.lookup x=some c)∧∀y∈csc.names,y.2=.free→(cl.lookup y.1).isSome=true:=by
 obtain⟨cl,e,h1,_,h3⟩:=JQ csc.names [] h (fun x c e=>by cases e)
 refine⟨cl,?_,h1,h3⟩
 unfold closureFor
 have e':=congrArg (fun m:Sem (List (Str×Addr))=>m>>=fun r=>pure r) e
 exact e'
theorem Ew{env:Env}:∀{names:List (Str×NameKind)} {x:Str},names.lookup x=some .free→
  (names.map fun(n,k)=>if(k==NameKind.free&&env.scope.kind==.function&&env.kindOf n==some .cell) then(n,oM) else(n,k)).lookup x=some .cell∨
  (names.map fun(n,k)=>if(k==NameKind.free&&env.scope.kind==.function&&env.kindOf n==some .cell) then(n,oM) else(n,k)).lookup x=some .free
 | [],_,h=>by simp at h
 | (n,k)::r,x,h=>by
  have ih:=@Ew env r x
  rw[kg]
  show List.lookup x ((if(k==NameKind.free&&env.scope.kind==.function&&env.kindOf n==some .cell)=true then(n,oM) else(n,k))::_)=_∨List.lookup x ((if(k==NameKind.free&&env.scope.kind==.function&&env.kindOf n==some .cell)=true then(n,oM) else(n,k))::_)=_
  cases hx:x==n with
  |true=>
   simp only[lh,hx] at h
   cases h
   split
   ·exact .inl (by rw[lh,hx])
   ·exact .inr (by rw[lh,hx])
  |false=>
   simp only[lh,hx] at h
   split
   ·simp only[lh,hx];exact ih h
   ·simp only[lh,hx];exact ih h
noncomputable def Nz:Option NameKind→Bool
 |some .cell=>true
 |_=>false
theorem Kg(h:Nz k=true):k=some .cell:=by
 cases k with
 |none=>cases h
 |some k=>cases k<;>first|rfl|cases h
noncomputable def VL(X:Cx)(csc:Scope)(cl:List (Str×Addr))(N':List Str)(s:Shared)(H:Hp)(fp:List Addr):Cx:=
 {X with N:=N',s₀:=s,H₀:=H,env:=tZ csc cl s.heap.objs.size X.env,outer:=X.stack,ex:=fp,fn:=fun x=>Nz (csc.names.lookup x),pn:=[],xe:=fun _ _=>False}
structure LcCx(X:Cx)(csc:Scope)(N':List Str)(X':Cx):Prop where
 is:∃cl s H fp,X'=VL X csc cl N' s H fp
noncomputable def Ci(σ:St)(cap:List (Str×Nat)):St:=cap.map fun p=> (σ[p.2]?).join
structure LcOk(X:Cx)(csc:Scope)(nc:List Str)(cap:List (Str×Nat)):Prop where
 kind:csc.kind=.function
 cells:∀y∈csc.names,y.2=.cell→csc.names.lookup y.1=some .cell
 locals:∀y∈csc.names,y.2=.local→csc.names.lookup y.1=some .local
 free:∀y∈csc.names,y.2=.free→X.env.scope.names.lookup y.1=some .cell∨X.env.scope.names.lookup y.1=some .free
 caps:∀p∈cap,X.N[p.2]?=some p.1∧csc.names.lookup p.1=some .free
noncomputable abbrev Ah(nc:List Str)(cap:List (Str×Nat)):List Str:=nc++cap.map (·.1)
noncomputable abbrev II(nc:List Str)(σ:St)(cap:List (Str×Nat)):St:=j0 nc.length none++Ci σ cap
theorem BB{α:Type}:∀{l:List (Str×α)} {x:Str} {v:α},l.lookup x=some v→(x,v)∈l
 | [],_,_,h=>by simp at h
 | (n,k)::r,x,v,h=>by
  rw[lh] at h
  cases hx:x==n with
  |true=>rw[hx] at h;cases h;rw[beq_iff_eq.mp hx];exact j4
  |false=>rw[hx] at h;exact jt _ (BB h)
theorem Ma:∀(names:List (Str×NameKind)) (L:Nat) (a acc:List (Str×Addr)),mH L names (a++acc)=mH L names a++acc
 | [],_,_,_=>rfl
 | (n,k)::r,L,a,acc=>by
  unfold mH
  split
  ·exact Ma r (L+1) ((n,L)::a) acc
  ·exact Ma r L a acc
theorem Yy(names:List (Str×NameKind))(L:Nat)(acc:List (Str×Addr)):mH L names acc=mH L names []++acc:=Ma names L [] acc
theorem Mb:∀(names:List (Str×NameKind)) (L:Nat) (acc:List (Str×Addr)) (x:Str) (c:Addr),(x,c)∈mH L names acc→(x,.cell)∈names∨(x,c)∈acc
 | [],_,_,_,_,h=> .inr h
 | (n,k)::r,L,acc,x,c,h=>by
  unfold mH at h
  split at h
  ·rename_i hk
   rcases Mb r (L+1) _ x c h with h|h
   ·exact .inl (jt _ h)
   ·rcases ju.mp h with h|h
    ·cases h
     rw[eq_of_beq hk]
     exact .inl j4
    ·exact .inr h
  ·rcases Mb r L _ x c h with h|h
   ·exact .inl (jt _ h)
   ·exact .inr h
theorem JR:∀(names:List (Str×NameKind)) (L:Nat) (acc:List (Str×Addr)) (x:Str),((x,.cell)∈names∨(acc.lookup x).isSome=true)→((mH L names acc).lookup x).isSome=true
 | [],_,_,_,h=>h.elim (fun z=>by cases z) id
 | (n,k)::r,L,acc,x,h=>by
  unfold mH
  split
  ·refine JR r (L+1) _ x ?_
   rcases h with h|h
   ·rcases ju.mp h with h|h
    ·cases h
     exact .inr (by rw[lh,beq_self_eq_true];rfl)
    ·exact .inl h
   ·refine .inr ?_
    rw[lh]
    cases x==n with
    |true=>rfl
    |false=>exact h
  ·rename_i hk
   refine JR r L acc x ?_
   rcases h with h|h
   ·rcases ju.mp h with h|h
    ·cases h;exact absurd rfl hk
    ·exact .inl h
   ·exact .inr h
theorem Ea{α:Type}:∀{l m:List (Str×α)} {x:Str},(l++m).lookup x=match l.lookup x with|some v=>some v|none=>m.lookup x
 | [],_,_=>rfl
 | (n,k)::r,m,x=>by
  rw[List.cons_append,lh,lh]
  cases x==n with
  |true=>rfl
  |false=>exact Ea
structure LcCells(X:Cx)(csc:Scope)(cs:List (Str×Addr))(s:Shared)(h1:Heap):Prop where
 at_:∀x c,cs.lookup x=some c→(csc.names.lookup x=some .cell∧s.heap.objs.size≤c∧h1.IsCell c none)∨(csc.names.lookup x≠some .cell∧X.env.cells.lookup x=some c)
 has:∀x,csc.names.lookup x=some .free∨csc.names.lookup x=some .cell→∃c,cs.lookup x=some c
 inj:∀x y c,cs.lookup x=some c→cs.lookup y=some c→x=y
theorem VM{σ:St}
  (ok:LcOk X csc nc cap) (I:Inv X pins σ H s) (hc1:∀x c,cl.lookup x=some c→X.env.cells.lookup x=some c) (hc2:∀y∈csc.names,y.2=.free→(cl.lookup y.1).isSome=true):
  LcCells X csc (mH (s.heap.objs.size+1) csc.names cl) s (tm (s.heap.push o) csc.names):=by
 have nk:=cellsFrom_ok csc.names (s.heap.push o) (s.heap.objs.size+1) [] ⟨fun _ _ hm=> (nomatch hm),lD.nil⟩ (by rw[lU];exact jm _)
 rw[lU] at nk
 rw[Yy]
 have split:∀x c,(mH (s.heap.objs.size+1) csc.names []++cl).lookup x=some c→((x,c)∈mH (s.heap.objs.size+1) csc.names []∧csc.names.lookup x=some .cell)∨(csc.names.lookup x≠some .cell∧cl.lookup x=some c):=fun x c e=>by
  rw[Ea] at e
  cases hx:(mH (s.heap.objs.size+1) csc.names []).lookup x with
  |some v=>
   rw[hx] at e
   cases e
   have m:=BB hx
   refine .inl ⟨m,?_⟩
   rcases Mb _ _ _ _ _ m with z|z
   ·exact ok.cells _ z rfl
   ·cases z
  |none=>
   rw[hx] at e
   refine .inr ⟨fun z=>?_,e⟩
   have:=JR csc.names (s.heap.objs.size+1) [] x (.inl (BB z))
   rw[hx] at this
   cases this
 refine⟨fun x c e=>?_,fun x hx=>?_,fun x y c e1 e2=>?_⟩
 ·rcases split x c e with⟨m,k⟩| ⟨k,e⟩
  ·exact .inl ⟨k,rJ (nk.empty x c m).2,(nk.empty x c m).1⟩
  ·exact .inr ⟨k,hc1 x c e⟩
 ·refine pD.mp ?_
  rw[Ea]
  cases hn:(mH (s.heap.objs.size+1) csc.names []).lookup x with
  |some v=>rfl
  |none=>
   rcases hx with hx|hx
   ·exact hc2 _ (BB hx) rfl
   ·have:=JR csc.names (s.heap.objs.size+1) [] x (.inl (BB hx))
    rw[hn] at this
    cases this
 ·have old:∀z,cl.lookup z=some c→c<s.heap.objs.size:=fun z e=>by
   obtain⟨v,hv⟩:=I.cell z c (hc1 z c e)
   exact hv.lt
  rcases split x c e1 with⟨m1,_⟩| ⟨_,g1⟩<;>rcases split y c e2 with⟨m2,_⟩| ⟨_,g2⟩
  ·exact name_of_addr nk.apart m1 m2
  ·exact absurd (kh (old y g2) (rJ (nk.empty x c m1).2)) (lH _)
  ·exact absurd (kh (old x g1) (rJ (nk.empty y c m2).2)) (lH _)
  ·exact I.ok.inj x y c (hc1 x c g1) (hc1 y c g2)
theorem RU
  (hQ:Q (newEnv scope s.heap.objs.size globals (mH (s.heap.objs.size+1) scope.names closure) qual none .none (some env) tO) {s with heap:=tm (s.heap.push {cls:=.type "dict",data:=.dict #[]}) scope.names}):
  wpAny M A (sR scope globals closure [] qual none .none (some env)) Q E s:=by
 simp only[sR,Option.isSome_some,if_true]
 refine a9 (wpAny_alloc ?_)
 refine a9 (wpAny_layCells _ (fun name kind cells=>by cases hkc:kind==oM<;>simp[hkc]) _ _ _ _ ?_)
 rw[show({s with heap:=s.heap.push {cls:=.type "dict",data:=.dict #[]}}:Shared).heap.objs.size=s.heap.objs.size+1 from lU ..]
 refine a9 ?_
 rw[List.forIn_nil]
 exact b8 (b8 hQ)
theorem Yz{σ:St}
  (ok:LcOk X csc nc cap) (I:Inv X pins σ H s) (C:LcCells X csc cl s h1)
  (hf:∀b∈fp,IG X pins H b) (ho:∀b∈fp,∃o,s.heap.get? b=some o)
  (hn:h1.Ns s.heap.objs.size (fun _=>none)) (kept:∀b o,s.heap.get? b=some o→h1.get? b=some o):
  Inv (VL X csc cl (Ah nc cap) s H fp) [] (II nc σ cap) H {s with heap:=h1}:=by
 have frel:∀x,csc.names.lookup x=some .free→(tZ csc cl s.heap.objs.size X.env).kindOf x=some .cell∨(tZ csc cl s.heap.objs.size X.env).kindOf x=some .free:=fun x h=>Ew h
 have back:∀{names:List (Str×NameKind)} {x:Str},((names.map fun(n,k)=>if(k==NameKind.free&&X.env.scope.kind==.function&&X.env.kindOf n==some .cell) then(n,oM) else(n,k)).lookup x=some .cell∨
   (names.map fun(n,k)=>if(k==NameKind.free&&X.env.scope.kind==.function&&X.env.kindOf n==some .cell) then(n,oM) else(n,k)).lookup x=some .free)→
   names.lookup x=some .free∨names.lookup x=some .cell:=by
  intro names
  induction names with
  |nil=>intro x h;simp at h
  |cons p r ih=>
   obtain⟨n,k⟩:=p
   intro x h
   rw[kg] at h
   cases hx:x==n with
   |true=>
    rw[lh,hx]
    have e:∀(kk:NameKind) (l:List (Str×NameKind)),((n,kk)::l).lookup x=some kk:=fun kk l=>by rw[lh,hx]
    by_cases hcnd:(k==NameKind.free&&X.env.scope.kind==.function&&X.env.kindOf n==some .cell)=true
    ·left
     have:(k==NameKind.free)=true:=by
      revert hcnd;cases(k==NameKind.free)<;>simp
     show some k=some .free
     rw[eq_of_beq this]
    ·simp only[if_neg hcnd] at h
     rw[e,] at h
     exact h.symm
   |false=>
    have e:∀(kk:NameKind) (l:List (Str×NameKind)),((n,kk)::l).lookup x=l.lookup x:=fun kk l=>by rw[lh,hx]
    by_cases hcnd:(k==NameKind.free&&X.env.scope.kind==.function&&X.env.kindOf n==some .cell)=true
    ·simp only[if_pos hcnd] at h
     rw[e] at h
     rw[e]
     exact ih h
    ·simp only[if_neg hcnd] at h
     rw[e] at h
     rw[e]
     exact ih h
 refine⟨⟨I.ok.mod,ok.kind,I.ok.glob,I.ok.blt,jm _,C.inj,fun x hx=>C.has x (back hx),fun x c e1 e2=>?_,I.ok.hd,I.ok.frames,.inl rfl,fun b hb=> ⟨?_,fun x c e=>?_⟩,
  I.bs,kO I.ok.bsz I.sz,fun b o e hb=>?_,fun b hb z=>?_,I.stack,I.stkFree⟩,rfl,I.bare,⟨fun b o e _ _ _=>kept b o e,fun b o e _ _ _=> ⟨o.slots,kept b o e⟩,fun b o e n _=>n,fun b o e _=> ⟨o,kept b o e⟩,fun _ _ e=>e,fun _ _ _ e=>e,fun b ps e=> ⟨#[],by rw[show H b=some (HO.tbl ps) from e];simp⟩⟩,
  ⟨_,hn,fun i x v e1 e2 e3=>?_⟩,fun x c e=>?_,I.hok.fresh (jm _),fun x c e=> (C.at_ x c e).elim (fun z=>I.hok.fresh z.2.1) (fun z=>I.freeC x c z.2),fun p hp=>absurd (show p∈([]:List (Addr×Obj)) from hp) (by simp),I.hok.kept kept,?_⟩
 ·rcases C.at_ x c e2 with z|z
  ·exact z.2.1
  ·exact absurd (Kg e1) z.1
 ·obtain⟨o,e⟩:=ho b hb
  exact ke (jo e)
 ·rcases C.at_ x c e with z|z
  ·obtain⟨o,e⟩:=ho b hb
   exact p7 (kh (jo e) z.2.1)
  ·exact(hf b hb).2.2.2.2.1 x c z.2
 ·have h1:=(hf b hb).2.2.2.1
  rcases h1 with z|z
  ·exact I.ok.noex b o e z
  ·exact absurd (kh (jo e) (kO I.ok.bsz z)) (lH _)
 ·have h1:=(hf b hb).2.1
  have h2:=(hf b hb).2.2.1
  exact(ju.mp (I.stkSub b z)).elim h1 h2
 ·--the names
  have hlen:nc.length≤i:=by
   by_cases hi:i<nc.length
   ·have e2':(j0 nc.length (none:Option V)++Ci σ cap)[i]?=some (some v):=e2
    rw[kX (by simpa using hi),mx] at e2'
    split at e2'<;>cases e2'
   ·omega
  have e1':(nc++cap.map (·.1))[i]?=some x:=e1
  have e2':(j0 nc.length (none:Option V)++Ci σ cap)[i]?=some (some v):=e2
  rw[ku hlen,i6] at e1'
  rw[ku (by simpa using hlen)] at e2'
  simp only[ml] at e2'
  unfold Ci at e2'
  rw[i6] at e2'
  cases hp:cap[i-nc.length]? with
  |none=>rw[hp] at e1';cases e1'
  |some p=>
   rw[hp] at e1' e2'
   have e1'':p.1=x:=lu.inj e1'
   have e2'':(σ[p.2]?).join=some v:=lu.inj e2'
   subst e1''
   obtain⟨c1,c2⟩:=ok.caps p (i7 hp)
   have hσ:σ[p.2]?=some (some v):=by
    cases q:σ[p.2]? with
    |none=>rw[q] at e2'';cases e2''
    |some w'=>rw[q] at e2'';exact congrArg some e2''
   have vis:X.env.scope.names.lookup p.1=some .cell∨X.env.scope.names.lookup p.1=some .free:=ok.free _ (BB c2) rfl
   obtain⟨m,_,hl⟩:=I.loc
   obtain⟨u,r,l⟩:=hl p.2 p.1 v c1 hσ (vis.elim (fun z=> .inr (.inl z)) fun z=> .inr (.inr z))
   refine⟨u,r,.inr ⟨frel p.1 c2,?_⟩⟩
   rcases l with⟨k,_⟩| ⟨_,c,e,z⟩
   ·have k:X.env.scope.names.lookup p.1=some .local:=k
    rcases vis with q|q<;> (rw[q] at k;cases k)
   ·obtain⟨c',e''⟩:=C.has p.1 (.inl c2)
    have q:X.env.cells.lookup p.1=some c':=by
     rcases C.at_ _ _ e'' with z|z
     ·rw[c2] at z;cases z.1
     ·exact z.2
    rw[e] at q;cases q
    obtain⟨o,z1,z2⟩:=z
    exact⟨c,e'',o,kept c o z1,z2⟩
 ·rcases C.at_ x c e with z|z
  ·exact⟨none,z.2.2⟩
  ·obtain⟨v,o,z1,z2⟩:=I.cell x c z.2
   exact⟨v,o,kept c o z1,z2⟩
 ·show(j0 nc.length (none:Option V)++Ci σ cap).length=(nc++cap.map (·.1)).length
  unfold Ci
  simp
noncomputable abbrev VN:Value→Shared→Prop:=fun _ _=>False
theorem Dj(I:Nat→Shared→Prop)
  (turn:∀n s,I n s→wpAny (model prog w) A (pk it) (fun r s₁=>match r with
   |none=>R (.ok .next) s₁
   |some v=>wpAny (model prog w) A (qB target it v) (fun _ s₂=>wpAny (model prog w) A (assign target env v) (fun _ s₃=>
     wpAny (model prog w) A (forIn ifs true fun c r=>if r=true then do let ok←isTrue c env (eval c env);pure (nr ok) else pure (nr r)) (fun ok s₄=>
      if ok=true then wpAny (model prog w) A (eval elt env) (fun x s₅=>
       wpAny (model prog w) A (call (.builtin "list.append") [acc,x]) (fun _ s₆=>∃m,m<n∧I m s₆) VN s₅) VN s₄
      else∃m,m<n∧I m s₄) VN s₃) VN s₂) VN s₁) VN s)
  (n:Nat) (h:I n s):
  oF (model prog w) A (.compLoop (.ListComp elt [⟨target,iter,ifs,0⟩] scope pos) 0 it acc env) R s:=by
 refine codeAny_loop rfl I (fun n s hI=>?_) n h
 show wpAny _ A ((compTurn (.ListComp elt [⟨target,iter,ifs,0⟩] scope pos) 0 it acc env).onRaise (fun x=>do ua x env;theTreesLotGoes x)) _ _ s
 refine wpAny_noted (wpAny_noRaise ?_)
 rw[compTurn_list]
 refine a9 (oI (a9 (Az (turn n s hI) fun r s₁ h₁=>?_)))
 cases r with
 |none=>exact b8 h₁
 |some v=>
  refine a9 (Az h₁ fun _ s₂ h₂=>a9 (Az h₂ fun _ s₃ h₃=>a9 (Az h₃ fun ok s₄ h₄=>?_)))
  cases ok with
  |true=>
   rw[if_pos rfl] at h₄ ⊢
   exact a9 (a9 (Az h₄ fun x s₅ h₅=>a9 (Az h₅ fun _ s₆ h₆=>b8 (b8 ⟨rfl,h₆⟩))))
  |false=>
   rw[if_neg e8] at h₄ ⊢
   exact a9 (b8 (b8 ⟨rfl,h₄⟩))
noncomputable def ZA(X:Cx)(ifs:List Expr)(t:TT):Prop:=
 ∀(pins:List (Addr×Obj)) (s:Shared) (σ:St) (H:Hp) (Q:Bool→Hp→Prop),Inv X pins σ H s→t σ H Q→
  wpAny (model X.prog X.w) X.A (forIn ifs true fun c r=>if r=true then do let ok←isTrue c X.env (eval c X.env);pure (nr ok) else pure (nr r)) (TP X pins σ Q) X.xe s
noncomputable def cI:TT:=fun _ H Q=>Q true H
theorem VO:ZA X [] cI:=fun _ _ _ H _ I h=>wpAny_tests_nil ⟨H,I,h⟩
theorem VP(h:PT X c t):ZA X [c] t:=fun pins s σ H Q I q=>wpAny_tests_one (h pins s σ H Q I q)
noncomputable def Xd(nc:List Str)(cap:List (Str×Nat))(g:TG)(tt:TT)(te:TE)(σ:St)(J:It)(p:Addr)(H:Hp)(Q:Hp→Prop):Prop:=
 ∃W:Nat→Nat→Hp→Prop,(∃m,W 0 m (upd H p (.lst [])))∧∀i m H2,W i m H2→
  (J.stop i H2∧Q H2)∨(J.go i H2∧∃N:Hp→Prop,(∀H',N H'→∃m',m'<m∧W (i+1) m' H')∧∀x H3,J.yld i H2 x H3→g x (II nc σ cap) H3 fun σ4 H4=> (∃pre:St,pre.length=nc.length∧σ4=pre++Ci σ cap)∧tt σ4 H4 fun b H5=>
   if b=true then te σ4 H5 fun y H6=>∃ys,H6 p=some (.lst ys)∧ys.length<sizeLine∧N (upd H6 p (.lst (ys++[y])))
   else N H5)
noncomputable def fF(wi:TI)(nc:List Str)(cap:List (Str×Nat))(g:TG)(tt:TT)(te:TE):TE:=fun σ H Q=>wi σ H fun J H1=>∀p,H1 p=none→Xd nc cap g tt te σ J p H1 (Q (.ref p))
theorem Kh{σ:St}{RR:Value→Addr→tP→Shared→Prop}
  (hc:X.calm=true) (ok:LcOk X csc nc cap) (hg:∀X',LcCx X csc (Ah nc cap) X'→PG X' tg g) (ht:∀X',LcCx X csc (Ah nc cap) X'→ZA X' ifs tt) (he:∀X',LcCx X csc (Ah nc cap) X'→PE X' elt te)
  (hc1:∀x c,cl.lookup x=some c→X.env.cells.lookup x=some c) (hc2:∀y∈csc.names,y.2=.free→(cl.lookup y.1).isSome=true)
  (I2:Inv X pins σ H2 s2) (T:Turn X.prog X.w X.K tg J fp it tn) (st2:tn 0 s2.heap) (f2:∀b∈fp,IG X pins H2 b) (run:Xd nc cap g tt te σ J s2.heap.objs.size H2 Q)
  (out:∀(C:Addr) (H':Hp) (s':Shared),Inv X pins σ H' s'→(∃m,s'.heap.Ns C m)→H' C=none→C≠X.env.locals→X.s₀.heap.objs.size≤C→(∀x c,X.env.cells.lookup x=some c→c≠C)→(∀p∈X.pn++pins,p.1≠C)→Q H'→RR (.ref s2.heap.objs.size) C (.ok .next) s'):
  wpAny (model X.prog X.w) X.A (newList []) (fun acc s₃=>wpAny (model X.prog X.w) X.A (sR csc X.env.globals cl [] X.env.qual none .none (some X.env)) (fun cenv s₄=>
   oF (model X.prog X.w) X.A (.compStart (.ListComp elt [⟨tg,iter,ifs,0⟩] csc pos) 0 (.ref it) acc {cenv with scope:=relabel csc X.env}) (RR acc cenv.locals) s₄) E s₃) E s2:=by
 refine lK ?_
 have hp:H2 s2.heap.objs.size=none:=I2.hok.fresh (jm _)
 have I3:Inv X pins σ (upd H2 s2.heap.objs.size (.lst [])) {s2 with heap:=s2.heap.push {cls:=.type "list",dict:=none,data:=.seq ([]:List Value).toArray}}:=
  I2.laid (t':=s2.toks) (fun b u e=>c9 _ e) (jm _) ⟨kZ _,[],0,.nil,kb _ rfl⟩
 generalize hs3:({s2 with heap:=s2.heap.push {cls:=.type "list",dict:=none,data:=.seq ([]:List Value).toArray}}:Shared)=s3 at I3
 have hk3:∀b o,s2.heap.get? b=some o→s3.heap.get? b=some o:=fun b o e=>by rw[←hs3];exact c9 _ e
 generalize hp0:s2.heap.objs.size=p at*
 have hlt:∀b∈fp,b<p:=fun b hb=>by
  obtain⟨o,e,_⟩:=T.obj 0 _ st2 b hb
  rw[←hp0];exact jo e
 have f3:∀b∈fp,IG X pins (upd H2 p (.lst [])) b:=fun b hb=> ⟨by rw[AR (ke (hlt b hb))];exact(f2 b hb).1,(f2 b hb).2⟩
 have st3:tn 0 s3.heap:=T.keep 0 _ _ st2 fun b _ o e=>hk3 b o e
 refine RU ?_
 have LC:=VM (o:={cls:=.type "dict",data:=.dict #[]}) ok I3 hc1 hc2
 have hns:(tm (s3.heap.push {cls:=.type "dict",data:=.dict #[]}) csc.names).Ns s3.heap.objs.size (fun _=>none):=(Heap.Ns.new s3.heap (.type "dict")).keeps (pushCells_keeps _ _)
 have kept4:∀b o,s3.heap.get? b=some o→(tm (s3.heap.push {cls:=.type "dict",data:=.dict #[]}) csc.names).get? b=some o:=fun b o e=>pushCells_keeps _ _ b o (c9 _ e)
 generalize hcs:mH (s3.heap.objs.size+1) csc.names cl=cs at LC ⊢
 generalize hh1:tm (s3.heap.push {cls:=.type "dict",data:=.dict #[]}) csc.names=h₁ at LC hns kept4 ⊢
 have hcc:∀x c,cs.lookup x=some c→X.env.cells.lookup x=some c∨s3.heap.objs.size≤c:=fun x c e=> (LC.at_ x c e).elim (fun z=> .inr z.2.1) (fun z=> .inl z.2)
 have I4:Inv (VL X csc cs (Ah nc cap) s3 (upd H2 p (.lst [])) fp) [] (II nc σ cap) (upd H2 p (.lst [])) {s3 with heap:=h₁}:=
  Yz ok I3 LC f3 (fun b hb=> (T.obj 0 _ st3 b hb).imp fun o q=>q.1) hns kept4
 have st4:tn 0 h₁:=T.keep 0 _ _ st3 fun b _ o e=>kept4 b o e
 generalize hX':VL X csc cs (Ah nc cap) s3 (upd H2 p (.lst [])) fp=X' at I4
 have is':LcCx X csc (Ah nc cap) X':=⟨_,_,_,_,hX'.symm⟩
 have hP:X'.prog=X.prog:=by rw[←hX'];rfl
 have hw:X'.w=X.w:=by rw[←hX'];rfl
 have hK:X'.K=X.K:=by rw[←hX'];rfl
 have hA:X'.A=X.A:=by rw[←hX'];rfl
 have hcal:X'.calm=true:=by rw[←hX'];exact hc
 have hE:X'.env=tZ csc cs s3.heap.objs.size X.env:=by rw[←hX'];rfl
 have hxe:X'.xe=VN:=by rw[←hX'];rfl
 have hfs:X'.fs=Fb X.stack:=by rw[←hX'];rfl
 have hex:X'.ex=fp:=by rw[←hX'];rfl
 have hs0:X'.s₀=s3:=by rw[←hX'];rfl
 have hH0:X'.H₀=upd H2 p (.lst []):=by rw[←hX'];rfl
 have hpn:X'.pn=[]:=by rw[←hX'];rfl
 have stat:∀{H':Hp},(∀b∈fp,H' b=none)→∀b∈fp,IG X' [] H' b:=fun{H'} hn b hb=>by
  obtain⟨_,q2,q3,q4,q5,q6⟩:=f3 b hb
  obtain⟨o,e,_⟩:=T.obj 0 _ st3 b hb
  refine⟨hn b hb,?_,?_,?_,?_,?_⟩
  ·rw[hE];exact ke (jo e)
  ·rw[hfs];exact fun z=> (ju.mp (I3.stkSub b z)).elim q2 q3
  ·rw[hex];exact .inl hb
  ·rw[hE];exact fun x c e'=> (hcc x c e').elim (fun z=>q5 x c z) fun z=>p7 (kh (jo e) z)
  ·rw[hpn];intro p hp;simp at hp
 obtain⟨W,⟨m0,w0⟩,turn⟩:=run
 have loop:∀s4:Shared,s4={s3 with heap:=h₁}→oF (model X.prog X.w) X.A (.compLoop (.ListComp elt [⟨tg,iter,ifs,0⟩] csc pos) 0 (.ref it) (.ref p) (tZ csc cs s3.heap.objs.size X.env)) (RR (.ref p) s3.heap.objs.size) s4:=by
  rintro s4 rfl
  refine Dj (fun n s'=>∃i H',Inv X' [] (II nc σ cap) H' s'∧tn i s'.heap∧(∀b∈fp,H' b=none)∧W i n H') ?_ m0 ⟨0,_,I4,st4,fun b hb=> (f3 b hb).1,w0⟩
  rintro n s5 ⟨i,H5,I5,st5,fr5,w5⟩
  rcases turn i n H5 w5 with⟨stop,qn⟩| ⟨go,N,hN,step⟩
  ·have q:=T.done X' hP hw hK hcal i [] s5 (II nc σ cap) H5 VN I5 (stat fr5) st5 stop
   rw[hA] at q
   refine Az q fun r s6 ⟨hr,I6⟩=>?_
   subst hr
   have B:=I6.base
   rw[hfs,hex,hs0,hH0] at B
   have I7:Inv X pins σ H5 s6:=by
    refine I3.call' (ch:=fp) (by rw[I6.os,hs0]) B (by have:=I6.hok;rw[hP,hw] at this;exact this) I6.bare fun b hb=>?_
    obtain⟨_,q2,q3,q4,q5,q6⟩:=f3 b hb
    exact⟨q4,q2,q5,q6⟩
   obtain⟨m,hm,_⟩:=I6.loc
   have hCf:=I6.free
   rw[hE] at hm hCf
   refine out _ H5 s6 I7 ⟨m,hm⟩ hCf (p7 I3.lt) I3.sz (fun x c e z=>?_) (fun p hp z=>?_) qn
   ·obtain⟨v,hv⟩:=I3.cell x c e
    exact absurd hv.lt (by rw[z];exact lH _)
   ·exact absurd (jo (I3.pin p hp).1) (by rw[z];exact lH _)
  ·have q:=T.item X' hP hw hK hcal i [] s5 (II nc σ cap) H5 VN I5 (stat fr5) st5 go
   rw[hA] at q
   refine Az q fun r s6 ⟨u,hr,h6⟩=>?_
   subst hr
   refine Az h6 fun _ s7 ⟨x,H7,I7,r7,y7,st7,fr7⟩=>?_
   have I7':=I7.pinned (stat fr7) (T.obj _ _ st7)
   have q8:=hg X' is' _ s7 _ H7 x u _ I7' r7 (step x H7 y7)
   rw[hP,hw,hA,hE,hxe] at q8
   refine Az q8 fun _ s8 ⟨σ8,H8,I8,⟨pre,hpl,hσ8⟩,q8⟩=>?_
   have q9:=ht X' is' _ s8 σ8 H8 _ I8 q8
   rw[hP,hw,hA,hE,hxe] at q9
   have wk:∀{s':Shared} {H':Hp} {pl:List (Addr×Obj)},Inv X' pl σ8 H' s'→Inv X' pl (II nc σ cap) H' s':=fun{s' H' pl} J'=>by
    refine J'.weak (by rw[J'.len,I4.len]) fun j v e=>?_
    rw[hσ8]
    by_cases hj:j<nc.length
    ·have e:(j0 nc.length (none:Option V)++Ci σ cap)[j]?=some (some v):=e
     rw[kX (by simpa using hj),mx] at e
     split at e<;>cases e
    ·have e:(j0 nc.length (none:Option V)++Ci σ cap)[j]?=some (some v):=e
     rw[ku (by simpa using hj)] at e
     rw[ku (by omega),hpl]
     simpa using e
   have again:∀{s':Shared} {H':Hp} {m':Nat},Inv X' ([]++Gk fp s7.heap) σ8 H' s'→m'<n→W (i+1) m' H'→
     ∃m,m<n∧∃i H',Inv X' [] (II nc σ cap) H' s'∧tn i s'.heap∧(∀b∈fp,H' b=none)∧W i m H':=fun{s' H' m'} J' hm hW=>by
    refine⟨m',hm,i+1,H',wk J'.unpinned,T.keep _ _ _ st7 fun b hb o e=> (J'.pin (b,o) (k8 _ (k8 _ (DI hb e)))).1,fun b hb=>?_,hW⟩
    obtain⟨o,e,d⟩:=T.obj _ _ st7 b hb
    exact(J'.pin (b,o) (k8 _ (k8 _ (DI hb e)))).2.1
   refine Az q9 fun b s9 ⟨H9,I9,q9⟩=>?_
   cases b with
   |false=>
    rw[if_neg e8] at q9 ⊢
    obtain⟨m',hm,hW⟩:=hN _ q9
    exact again I9 hm hW
   |true=>
    rw[if_pos rfl] at q9 ⊢
    have qe:=he X' is' _ s9 σ8 H9 _ I9 q9
    rw[hP,hw,hA,hE,hxe] at qe
    refine Az qe fun u s10 ⟨y,H10,I10,ry,ys,hys,hlen,hNn⟩=>?_
    obtain⟨m',hm,hW⟩:=hN _ hNn
    have qa:=Ie (X:=X') _ s10 σ8 H10 (.ref p) [y] (.ref p) [u] (fun _ H'=>H'=upd H10 p (.lst (ys++[y]))) I10 rfl (.cons ry .nil) ⟨p,ys,y,rfl,rfl,hys,hlen,rfl⟩
    rw[hP,hw,hA,hxe] at qa
    refine Az qa fun _ s11 ⟨_,H11,I11,_,e11⟩=>?_
    subst e11
    exact again I11 hm hW
 have st5:=loop _ rfl
 exact codeAny_compStart_list (loop _ rfl) (T.self X.A 0 _ _ _ st4 (loop _ rfl))
section
variable {te:TE}
theorem LcOk.clos{σ:St}(ok:LcOk X csc nc cap)(I:Inv X pins σ H s):
  ∃cl,closureFor csc X.env=pure cl∧(∀x c,cl.lookup x=some c→X.env.cells.lookup x=some c)∧∀y∈csc.names,y.2=.free→(cl.lookup y.1).isSome=true:=
 VJ fun y hy hf=>I.ok.has y.1 (ok.free y hy hf)
theorem cJ(hc:X.calm=true)(ok:LcOk X csc nc cap)(hi:PI X tg iter wi)(hg:∀X',LcCx X csc (Ah nc cap) X'→PG X' tg g)(ht:∀X',LcCx X csc (Ah nc cap) X'→ZA X' ifs tt)(he:∀X',LcCx X csc (Ah nc cap) X'→PE X' elt te)
  (hs:∀x,lW iter X.env x=pure x:=by intro _;rfl):PE X (.ListComp elt [⟨tg,iter,ifs,0⟩] csc pos) (fF wi nc cap g tt te):=by
 intro pins s σ H Q I h
 obtain⟨cl,hcl,hc1,hc2⟩:=ok.clos I
 rw[eval_ListComp]
 refine wpAny_comprehension_free (use:=none) rfl hs hcl ok.kind ok.locals (Az (hi pins s σ H _ I h) fun v s1 h1=>Az h1 fun itv s2 h2=>?_)
 obtain⟨it,fp,tn,J,H2,e,I2,T,st2,f2,run⟩:=h2
 subst e
 refine Kh (RR:=fun acc C=>compPost (model X.prog X.w) X.A X.xe none (EP X pins σ Q) acc C) hc ok hg ht he hc1 hc2 I2 T st2 f2 (run _ (I2.hok.fresh (jm _))) ?_
 intro C H' s' I' hn h1 h2 h3 h4 h5 q
 obtain⟨m,hn⟩:=hn
 refine⟨m,hn,fun h' sb=> ⟨.ref s2.heap.objs.size,H',?_,rfl,q⟩⟩
 exact I'.turned (t':=s'.toks) (fun b o hb e=> (sb.2 b hb).trans e) h1 h2 (.inr h3) h4 h5
noncomputable def ZC(i:Nat)(te:TE):TS:=fun D σ H=>te σ H fun v H1=>D.nx (σ.set i (some v)) H1
theorem Ki(hN:X.N.Nodup)(hx:X.N[i]?=some x)(hk:X.env.scope.names.lookup x=some .local)(hsw:pe (.ListComp elt [⟨tg,iter,ifs,0⟩] csc pos) (some (.Name x px)) spos.line X.env=pure true)
  (hc:X.calm=true) (ok:LcOk X csc nc cap) (hi:PI X tg iter wi) (hg:∀X',LcCx X csc (Ah nc cap) X'→PG X' tg g) (ht:∀X',LcCx X csc (Ah nc cap) X'→ZA X' ifs tt) (he:∀X',LcCx X csc (Ah nc cap) X'→PE X' elt te)
  (hs:∀x,lW iter X.env x=pure x:=by intro _;rfl):PS X (.Assign [.Name x px] (.ListComp elt [⟨tg,iter,ifs,0⟩] csc pos) spos) (ZC i (fF wi nc cap g tt te)):=by
 intro pins s σ H D I h
 obtain⟨cl,hcl,hc1,hc2⟩:=ok.clos I
 rw[exec_Assign_Name_used _ _ _ _ hsw]
 refine a9 (oI (a9 ?_))
 show wpAny _ X.A (do let _←comprehension (.ListComp elt [⟨tg,iter,ifs,0⟩] csc pos) csc X.env _ (newList []) false (eval iter X.env) (some (assign (.Name x px) X.env))) _ _ s
 refine a9 (Az (wpAny_comprehension_free (use:=some (assign (.Name x px) X.env)) (Q:=fun _ s'=>SP X pins D .next s') rfl hs hcl ok.kind ok.locals
  (Az (hi pins s σ H _ I h) fun v s1 h1=>Az h1 fun itv s2 h2=>?_)) fun _ s' hq=>b8 (b8 hq))
 obtain⟨it,fp,tn,J,H2,e,I2,T,st2,f2,run⟩:=h2
 subst e
 refine Kh (RR:=fun acc C=>compPost (model X.prog X.w) X.A X.xe (some (assign (.Name x px) X.env)) (fun _ s'=>SP X pins D .next s') acc C) hc ok hg ht he hc1 hc2 I2 T st2 f2 (run _ (I2.hok.fresh (jm _))) ?_
 intro C H' s' I' hn h1 h2 h3 h4 h5 q
 obtain⟨m,hn⟩:=hn
 show wpAny _ X.A (assign (.Name x px) X.env (.ref s2.heap.objs.size)) _ _ _
 refine wpAny_assign_Name (IX I' hN hx (.inl hk) (v:=.ref s2.heap.objs.size) rfl (fun s'' I'' ha=>?_) (.inr hk))
 obtain⟨a,sb,ha⟩:=ha
 have hCa:C≠a:=by
  rcases ha with ha|ha
  ·rw[ha];exact h2
  ·exact fun z=>h4 x a ha z.symm
 refine⟨m,hn.sameBut sb hCa,fun h' sb'=> ⟨_,H',?_,q⟩⟩
 exact I''.turned (t':=s''.toks) (fun b o hb e=> (sb'.2 b hb).trans e) h1 h2 (.inr h3) h4 h5
end
noncomputable def DK(h h':Heap):Prop:=h.objs.size≤h'.objs.size∧∀e,e<h.objs.size→(h'.objs[e]?).map (·.dict)=(h.objs[e]?).map (·.dict)
theorem DK.refl(h:Heap):DK h h:=⟨jm _,fun _ _=>rfl⟩
theorem DK.trans(x:DK a b)(y:DK b c):DK a c:=⟨kO x.1 y.1,fun e he=> (y.2 e (kh he x.1)).trans (x.2 e he)⟩
theorem DK.push:DK h (h.push o):=by
 refine⟨by rw[lU];omega,fun e he=>?_⟩
 show((h.objs.push o)[e]?).map _=_
 rw[Array.getElem?_push,if_neg (by omega)]
theorem DK.upd(hf:∀o,(f o).dict=o.dict):DK h (h.update a f):=by
 obtain⟨objs,l⟩:=h
 refine⟨by show objs.size≤(objs.modify a f).size;simp,fun e he=>?_⟩
 show((objs.modify a f)[e]?).map _=_
 rw[Array.getElem?_modify]
 split
 ·cases objs[e]? with
  |none=>rfl
  |some o=>exact congrArg some (hf o)
 ·rfl
theorem OA{h:Heap}(q:h.get? e=some o):h.objs[e]?=some o:=by
 unfold Heap.get? at q
 split at q
 ·cases q
 ·exact q
theorem DK.at_(x:DK h h')(q:h.get? e=some o)(q':h'.get? e=some o'):o'.dict=o.dict:=by
 have z:=x.2 e (jo q)
 rw[OA q,OA q'] at z
 exact lu.inj z
inductive KD{α:Type}:Sem α→Prop
 |pure (a:α):KD (.pure a)
 |raise (e:Value):KD (.raise e)
 |unsup (x:String):KD (.unsupported x)
 |load {a:Addr} {p:Option Value} {k:Obj→Sem α}:(∀o,KD (k o))→KD (.load a p k)
 |upd {a:Addr} {p:Option Value} {f:Obj→Obj} {k:Unit→Sem α}:(∀o,(f o).dict=o.dict)→KD (k ())→KD (.update a p f k)
 |alloc {o:Obj} {k:Addr→Sem α}:(∀a,KD (k a))→KD (.alloc o k)
 |stack {k:List (Code×Pos)→Sem α}:(∀l,KD (k l))→KD (.stack k)
theorem KD.bind{f:α→Sem β}(h:KD m)(hf:∀a,KD (f a)):KD (m>>=f):=by
 show KD (Sem.bind m f)
 induction h with
 |pure a=>exact hf a
 |raise e=>exact .raise e
 |unsup x=>exact .unsup x
 |load _ ih=>exact .load ih
 |upd q _ ih=>exact .upd q ih
 |alloc _ ih=>exact .alloc ih
 |stack _ ih=>exact .stack ih
theorem KD.wp{t:Sem α}(h:KD t):∀{p:Pos} {s:Shared},DK h0 s.heap→Sem.wp M Γ t Q E p s→Sem.wp M Γ t (fun a p' s'=>Q a p' s'∧DK h0 s'.heap) E p s:=by
 induction h with
 |pure a=>intro p s d q;exact⟨q,d⟩
 |raise e=>intro p s d q;exact q
 |unsup x=>intro p s d q;exact q
 |load _ ih=>intro p s d q;obtain⟨o,e,q⟩:=q;exact⟨o,e,ih o d q⟩
 |upd hf _ ih=>intro p s d q;exact⟨q.1,ih (d.trans (.upd hf)) q.2⟩
 |alloc _ ih=>intro p s d q;exact ih _ (d.trans .push) q
 |stack _ ih=>intro p s d q;exact ih _ d q
theorem KD.any{t:Sem α}(h:KD t)(q:wpAny M A t Q E s):wpAny M A t (fun a s'=>Q a s'∧DK s.heap s'.heap) E s:=
 fun Γ p g=>h.wp (.refl _) (q Γ p g)
theorem KD.ite [Decidable c]{a b:Sem α}(ha:KD a)(hb:KD b):KD (if c then a else b):=by split<;>assumption
theorem Kj(v:Value):KD (fieldsOf v):=by
 unfold fieldsOf
 split
 ·refine KD.bind (.load fun o=> .pure o) fun o=>?_
  split
  ·exact .pure _
  ·exact .unsup _
 ·exact .unsup _
theorem Ex(v:Value)(i:Nat):KD (field v i):=by
 unfold field
 refine(Kj v).bind fun vs=>?_
 split
 ·exact .pure _
 ·exact .unsup _
theorem Gy(f:Array Value→Array Value)(o:Obj):(Obj.mapFields f o).dict=o.dict:=by
 unfold Obj.mapFields;split<;>rfl
theorem Dk(v:Value)(i:Nat)(x:Value):KD (setField v i x):=by
 unfold setField
 split
 ·unfold updateField
  refine KD.bind (.load fun o=> .pure o) fun o=>?_
  split
  ·exact .ite (.upd (Gy _) (.pure _)) (.unsup _)
  ·exact .unsup _
 ·exact .unsup _
theorem DN(e:Value)(f:Option Addr):KD (setFlight e f):=by
 unfold setFlight
 exact(Ex e 1).bind fun tb=> .ite (Dk _ _ _) (.pure _)
theorem Kl:∀(l:List Env),KD (readyFrames l)
 | []=> .pure _
 |env::outer=>by
  unfold readyFrames
  split
  ·refine KD.bind (.load fun o=> .pure o) fun o=>?_
   refine .ite (.pure _) ?_
   refine KD.bind ?_ fun im=>?_
   ·unfold behindIsImport
    exact .ite (.pure _) (.ite (.pure _) ((Ex _ _).bind fun _=> .pure _))
   refine KD.bind ?_ fun bk=>?_
   ·unfold keptBack
    split
    ·refine .ite (.pure _) (KD.bind ?_ fun _=> .pure _)
     unfold underTheClaimsCaller
     exact KD.bind (.stack fun _=> .pure _) fun _=> .pure _
    ·exact .pure _
   exact KD.bind (.upd (fun _=>rfl) (.pure _)) fun _=>Kl outer
  ·exact .unsup _
theorem Mc(env:Env):KD (tJ env):=by
 unfold tJ
 refine KD.bind ?_ fun es=>?_
 ·unfold frameEnvs
  exact KD.bind (.stack fun _=> .pure _) fun _=> .pure _
 refine KD.bind ?_ fun r=>?_
 ·cases es.dropWhile (·.frame !=env.frame) with
  |nil=>exact .pure _
  |cons a b=>unfold frameObject;exact(Kl _).bind fun _=> .pure _
 split
 ·exact .pure _
 ·exact .unsup _
theorem RV(f:Addr)(b:Bool):KD (tV f b):=by
 unfold tV
 refine KD.bind (.stack fun _=> .pure _) fun _=>?_
 split<;>exact .pure _
theorem RW(h a l f i:Value)(pl:List Value):KD (qI h a l f i pl):=by
 have z:∀d,KD (newObjAsIs (.type "traceback") d):=fun d=> .alloc fun a=> .pure _
 unfold qI newFields newObj
 dsimp only
 exact .ite (KD.bind (.unsup _) fun _=>z _) (z _)
theorem OB(e:Value)(env:Env):KD (ua e env):=by
 unfold ua
 split
 ·rename_i f hf
  refine(Ex e 1).bind fun head=>?_
  have fin:KD (do setField e 1 (←qI head (←tJ env) .none (sf f) .none (←tV f (head !=.none)))):=
   (Mc env).bind fun a=> (RV _ _).bind fun pl=> (RW _ _ _ _ _ _).bind fun b=>Dk _ _ _
  refine .ite ?_ fin
  exact(Ex _ _).bind fun x=> .ite (.pure _) ((Dk _ _ _).bind fun _=>fin)
 ·exact .unsup _
theorem Gz(env:Env)(e:Value):KD (leaving env e):=(OB e env).bind fun _=>DN e none
theorem ObjOk.obj(x:ObjOk P w H h a o):∃ob,h.get? a=some ob:=by
 cases o with
 |lst xs=>obtain⟨_,_,_,_,e⟩:=x;exact⟨_,e⟩
 |tup xs=>obtain⟨_,_,_,o,e,_⟩:=x;exact⟨_,e⟩
 |dK kvs=>obtain⟨_,_,_,_,o,_,_,e,_⟩:=x;exact⟨_,e⟩
 |dT kvs=>obtain⟨_,_,_,_,o,_,_,e,_⟩:=x;exact⟨_,e⟩
 |set S n=>obtain⟨o,_,_,_,e,_⟩:=x;exact⟨_,e⟩
 |ins C dx fs=>obtain⟨_,_,_,e,_⟩:=x;exact⟨_,e⟩
 |own y=>obtain⟨_,e⟩:=x;exact⟨_,e⟩
 |xd fs=>obtain⟨_,⟨_,_,_,e,_⟩,_⟩:=x;exact⟨_,e⟩
 |rng lo hi=>obtain⟨_,_,_,e⟩:=x;exact⟨_,e⟩
 |frz ob u=>obtain⟨e,_⟩:=x;exact⟨_,e⟩
 |tbl ps=>exact⟨_,(show h.get? a=some _ from x)⟩
 |met f y=>exact⟨_,(show h.get? a=some _ from x)⟩
 |ext φ=>obtain⟨_,⟨_,e⟩,_⟩:=x;exact⟨_,e⟩
theorem HOk.none_of(x:HOk P w H h)(e:h.get? a=none):H a=none:=by
 cases q:H a with
 |none=>rfl
 |some u=>
  obtain⟨ob,e'⟩:=(x a u q).obj
  rw[e] at e';cases e'
noncomputable def fG(n:Nat):Int:=if n%2=0 then((n/2:Nat):Int) else-((n/2:Nat):Int)
noncomputable def iu:List Nat→List (Str×V)
 |0::n::_=> [("number",.int (fG n))]
 |1::n::_=> [("row",.int (fG n))]
 |2::n::m::_=> [("many",.int (fG n)),("most",.int (fG m))]
 |_=> []
noncomputable def gH(x:Str):List (Str×V):=iu x.cps.toList
noncomputable def Ig:Value→Value
 | .str _ C=> .ref C
 |v=>v
noncomputable def gI(dx:Addr)(fs:List (Str×V))(h:Heap):Prop:=∃mA,h.Ns1 dx mA∧(∀f,RelO (fs.lookup f) (mA f))∧t5 mA (fs.map (·.1))
noncomputable def gJ(dx:Addr)(fs:List (Str×V)):HO:=.ext (gI dx fs)
noncomputable def DicX(cls:Value)(x:Addr)(H:Hp)(h:Heap):Prop:=∀fs C,cls=.str fs C→∃ox dx,h.get? x=some ox∧ox.dict=some dx∧H dx=some (gJ dx (gH fs))
theorem DicX.ref:DicX (.ref C) x H h:=fun _ _ e=>nomatch e
theorem DicX.dk(q:DicX cls x H h)(d:DK h h')(e:∃o',h'.get? x=some o'):DicX cls x H h':=fun fs C z=>by
 obtain⟨ox,dx,e1,e2,e3⟩:=q fs C z
 obtain⟨o',e'⟩:=e
 exact⟨o',dx,e',(d.at_ e1 e').trans e2,e3⟩
structure Fly(P:Program)(w:World)(outer:List Env)(H:Hp)(s:Shared)(H':Hp)(x:Addr)(cls:Value)(s':Shared):Prop where
 os:s'.os=s.os
 bare:qN s'.gens
 un:Un (Fb outer) [] H H' s.heap s'.heap
 hok:HOk P w H' s'.heap
 fr:H' x=none
 fly:∃B t,(∀b,H' b≠none→∃o,B.get? b=some o)∧(∀b o,s.heap.get? b=some o→b∉Fb outer→∃o',B.get? b=some o')∧n9 B outer x (Ig cls) (.ref t) s'.heap
 dic:DicX cls x H' s'.heap
noncomputable def CXe(P:Program)(w:World):RJ:=fun outer H s E e s'=>∃x cls H',e=.ref x∧Fly P w outer H s H' x cls s'∧E cls none H'
theorem CXe.never(h:CXe P w outer H s E0 e s'):False:=by
 obtain⟨_,_,_,_,_,q⟩:=h
 exact q
structure XFly(X:Cx)(W:St→XK):Prop where
 fly:∀(pins:List (Addr×Obj)) (σ:St) (H:Hp) (s:Shared) (e:Value) (s':Shared),Inv X pins σ H s→CXe X.prog X.w X.stack H s (W σ) e s'→X.xe e s'
structure XOk(X:Cx)(W:St→XK):Prop where
 made:∀(pins:List (Addr×Obj)) (σ:St) (H:Hp) (s:Shared) (h':Heap) (x C:Addr),Inv X pins σ H s→Heap.MadeExcOf s.heap h' x (.ref C) []→W σ (.ref C) none H→X.xe (.ref x) {s with heap:=h'}
 fly:∀(pins:List (Addr×Obj)) (σ:St) (H:Hp) (s:Shared) (e:Value) (s':Shared),Inv X pins σ H s→CXe X.prog X.w X.stack H s (W σ) e s'→X.xe e s'
 own:qh (model X.prog X.w) X.A X.env X.xe
 madeF:∀(pins:List (Addr×Obj)) (σ:St) (H:Hp) (s:Shared) (x C t dx:Addr) (fs:Str),Inv X pins σ H s→H x=none→X.s₀.heap.get? x=none→s.heap.get? x=some ⟨.ref C,some dx,.fields #[.ref t,.none,.none,.none,.bool false,.none],#[]⟩→H dx=some (gJ dx (gH fs))→W σ (.str fs C) none H→X.xe (.ref x) s
theorem HOk.by_keep(x:HOk P w H h)(k:∀b o,H b≠none→h.get? b=some o→h'.get? b=some o):HOk P w H h':=fun a o e=>
 (x a o e).stay (fun b u hb q=>k b u (by
  rcases hb with rfl|hb
  ·rw[e];exact fun z=>nomatch z
  ·rw[hb];exact fun z=>nomatch z) q) (fun _ q=>q) fun _ _ q=>q
section
variable {K:a8}
theorem JS{σ:St}(hst:X.stack=X.env::X.outer)(hex:X.ex=[])(hfr:X.env.frame=some X.env.locals)(I:Inv X pins σ H1 s2)
  (hB1:∀b,H1 b≠none→∃o,B.get? b=some o) (hB2:∀b o,X.s₀.heap.get? b=some o→b∉Fb X.outer→∃o',B.get? b=some o') (hx:H1 x=none) (hs2:B.StaysIn s2.heap) (fl:n9 B X.outer x (Ig cls) (.ref t) h') (up:s2.heap.UpToSlots h') (dq:DicX cls x H1 h'):
  Fly X.prog X.w X.outer X.H₀ X.s₀ H1 x cls {s2 with heap:=h'}:=by
 have fsm:∀b o,b∈X.fs→s2.heap.get? b=some o→∃sl,h'.get? b=some {o with slots:=sl}:=fun b o hb e=>by
  obtain⟨_,o',e',hd⟩:=I.funs.mem hb
  rw[e] at e';cases e'
  exact up b o e hd
 have same:∀b o o',B.get? b=some o'→s2.heap.get? b=some o→h'.get? b=some o:=fun b o o' e1 e2=>by
  have q:=hs2 b o' e1
  rw[e2] at q;cases q
  exact fl.1 b o e1
 refine⟨I.os,I.bare,⟨fun b o e n hb _=>?_,fun b o e n hb _=>?_,fun b o e n _=>?_,fun b o e _=>?_,I.base.tups,I.base.frzs,I.base.tbls⟩,I.hok.by_keep fun b o hb e=>?_,hx,⟨B,t,hB1,hB2,fl⟩,dq⟩
 ·obtain⟨o',e'⟩:=hB2 b o e hb
  exact same b o o' e' (I.base.keep b o e n hb (by rw[hex];simp))
 ·obtain⟨sl,e1⟩:=I.base.slot b o e n hb (by rw[hex];simp)
  obtain⟨sl',e2⟩:=fsm b _ hb e1
  exact⟨sl',e2⟩
 ·exact I.base.free b o e n (by rw[hex];simp)
 ·obtain⟨o1,e1⟩:=I.base.there b o e (by rw[hex];simp)
  by_cases hb:b∈X.fs
  ·obtain⟨sl,e2⟩:=fsm b o1 hb e1
   exact⟨_,e2⟩
  ·obtain⟨o',e'⟩:=hB2 b o e hb
   exact⟨o',fl.1 b o' e'⟩
 ·obtain⟨o',e'⟩:=hB1 b hb
  exact same b o o' e' e
theorem Af:XOk (CM (CXe P w) P w K mg base N qual scope f cd A outer s H E) (fun _=>E) where
 made:=by
  intro pins σ H1 s1 h' x C I hx q
  have hin:∀env∈(CM (CXe P w) P w K mg base N qual scope f cd A outer s H E).stack,∀b,env.frame=some b→b∈Fb (CM (CXe P w) P w K mg base N qual scope f cd A outer s H E).stack:=fun env he b hb=>nA.mpr ⟨env,he,hb⟩
  have hxn:H1 x=none:=I.hok.none_of hx.new
  have I':Inv (CM (CXe P w) P w K mg base N qual scope f cd A outer s H E) pins σ H1 {s1 with heap:=h'}:=I.kept (t':=s1.toks) hx.keeps
  refine wpAny_leaves_madeW (base:=pH s1.heap (Fb (CM (CXe P w) P w K mg base N qual scope f cd A outer s H E).stack)) (h:=s1.heap) I.ok.frames rfl (fun b o q=>pM _ q) (PySem.W.funFrames_hide I.stack hin) hx fun h2 t x1 x2 x3 x4=>?_
  refine⟨x,.ref C,H1,rfl,?_,q⟩
  refine JS (X:=CM (CXe P w) P w K mg base N qual scope f cd A outer s H E) rfl rfl rfl I' (fun b hb=>?_) (fun b o e hb=>?_) hxn (fun b o e=>hx.keeps b o (pM _ e)) x1 x4 .ref
  ·cases e:H1 b with
   |none=>exact absurd e hb
   |some u=>
    obtain⟨o,eo⟩:=(I.hok b u e).obj
    exact⟨o,ot _ eo fun z=>hb (I.stkFree b z)⟩
  ·obtain⟨o1,e1⟩:=I.base.there b o e (fun z=>nomatch z)
   refine⟨o1,ot _ e1 fun z=>?_⟩
   rcases ju.mp (I.stkSub b z) with z|z
   ·exact absurd z (ke (kh (jo e) I.ok.above))
   ·exact hb z
 fly:=by
  rintro pins σ H1 s1 e s2 I ⟨x,cls,H2,rfl,F,q⟩
  obtain⟨B,t,b1,b2,fl⟩:=F.fly
  have I2:Inv (CM (CXe P w) P w K mg base N qual scope f cd A outer s H E) pins σ H2 s2:=I.call' (ch:=[]) F.os F.un F.hok F.bare (fun b z=>absurd z (by simp))
  refine nz (KD.any (Gz _ _) (wpAny_leaves_onW (E:=fun _ _=>False) (Q:=fun _ s3=>n9 B outer x (Ig cls) (.ref t) s3.heap∧s2.heap.UpToSlots s3.heap∧s3={s2 with heap:=s3.heap}) I.ok.frames rfl fl fun h' x1 x2=> ⟨x1,x2,rfl⟩)) ?_ fun _ _ z=>lG z
  rintro _ s3 ⟨⟨x1,x2,e3⟩,dk⟩
  refine⟨x,cls,H2,rfl,?_,q⟩
  rw[e3]
  refine JS (X:=CM (CXe P w) P w K mg base N qual scope f cd A outer s H E) rfl rfl rfl I2 b1 (fun b o e hb=>?_) F.fr fl.1 x1 x2 (F.dic.dk dk (let⟨o,e,_⟩:=x1.there;⟨o,e⟩))
  obtain⟨o1,e1⟩:=I.base.there b o e (fun z=>nomatch z)
  refine b2 b o1 e1 fun z=>?_
  rcases ju.mp (I.stkSub b z) with z|z
  ·exact absurd z (ke (kh (jo e) I.ok.above))
  ·exact hb z
 own:=qh.leaving
 madeF:=by
  intro pins σ H1 s1 x C t dx fs I hxn hs0 ex hdx q
  have hin:∀env∈(CM (CXe P w) P w K mg base N qual scope f cd A outer s H E).stack,∀b,env.frame=some b→b∈x::Fb (CM (CXe P w) P w K mg base N qual scope f cd A outer s H E).stack:=fun env he b hb=>jt _ (nA.mpr ⟨env,he,hb⟩)
  have hkb:Heap.StaysIn (pH s1.heap (x::Fb (CM (CXe P w) P w K mg base N qual scope f cd A outer s H E).stack)) s1.heap:=fun b o q=>pM _ q
  have hen:(pH s1.heap (x::Fb (CM (CXe P w) P w K mg base N qual scope f cd A outer s H E).stack)).get? x=none:=by
   exact PySem.W.hideAll_none _ (j4 ..)
  refine nz (KD.any (Gz _ _) (wpAny_leaving_firstW (E:=fun _ _=>False) (Q:=fun _ s3=>Heap.LeftW (pH s1.heap (x::Fb (CM (CXe P w) P w K mg base N qual scope f cd A outer s H E).stack)) _ x (.ref C) (.ref t) s1.heap s3.heap∧s3={s1 with heap:=s3.heap}) I.ok.frames (PySem.W.funFrames_hide I.stack hin) rfl ex hkb hen rfl rfl rfl fun h' hL=> ⟨hL,rfl⟩)) ?_ fun _ _ z=>lG z
  rintro _ s3 ⟨⟨⟨x1,⟨_,_,x2⟩,x3,x4⟩,e3⟩,dk⟩
  refine⟨x,.str fs C,H1,rfl,?_,q⟩
  rw[e3]
  have hth:∃o,s3.heap.get? x=some o:=by
   obtain⟨oe,_,_,_,_,he,_⟩:=x3
   exact⟨oe,he⟩
  refine JS (X:=CM (CXe P w) P w K mg base N qual scope f cd A outer s H E) rfl rfl rfl I (fun b hb=>?_) (fun b o e hb=>?_) hxn hkb ⟨x1,hen,x2,x3⟩ x4 ?_
  ·cases e:H1 b with
   |none=>exact absurd e hb
   |some u=>
    obtain⟨o,eo⟩:=(I.hok b u e).obj
    refine⟨o,ot _ eo fun z=>?_⟩
    rcases ju.mp z with z|z
    ·rw[z] at e;rw[hxn] at e;cases e
    ·exact hb (I.stkFree b z)
  ·obtain⟨o1,e1⟩:=I.base.there b o e (fun z=>nomatch z)
   refine⟨o1,ot _ e1 fun z=>?_⟩
   rcases ju.mp z with z|z
   ·rw[z] at e;rw[hs0] at e;cases e
   rcases ju.mp (I.stkSub b z) with z|z
   ·exact absurd z (ke (kh (jo e) I.ok.above))
   ·exact hb z
  ·exact DicX.dk (h:=s1.heap) (fun fs' C' z=>by cases z;exact⟨_,dx,ex,rfl,hdx⟩) dk hth
end
section
variable {X:Cx} {W:St→XK}
noncomputable def ZD(W:St→XK)(C:Addr):TS:=fun _ σ H=>W σ (.ref C) none H
noncomputable def RX(sp:Sp)(W:St→XK)(t:TA):TE:=fun σ H Q=>t σ H fun vs H1=>sp vs H1 Q (W σ)
theorem XOk.f(x:XOk X W):XFly X W:=⟨x.fly⟩
theorem Km{p pos:Pos}(xo:XFly X W)(F:FnOk X.prog X.w X.K X.mg X.base (CXe X.prog X.w) k f fd ps sp)(hr:Room k X.A)(hg:Gl X x)(hm:X.mg x=some (.ref f))(hk:lF X.K (.ref f)=true)(hb:Binds X.K fd ps [])
  (ha:PA X (e::es) t) (hdb:(x==("__debug__" :Str))=false:=by decide) (he:i5 (e::es) X.env=(false,eval e X.env)::i5 es X.env:=by rfl) (hpl:(mS pos (i5 es X.env)).any (·.1)=false:=by rfl):
  PE X (.Call (.Name x p) (e::es) [] pos) (RX sp W t):=by
 intro pins s σ H Q I h
 refine nT (EC I hg hm ?_ hdb)
 refine qY (h₀:=X.base) I.ok.mod.kin hk (Az (ha pos pins s σ H _ I h) fun us s1 ⟨vs,H1,I1,r,q⟩=> ⟨I1.kIn,?_⟩) he hpl
 have r2:Vals vs (us++[]):=by rw[mX];exact r
 have hl:(us++[]).length=ps.length:=by rw[←r2.length];exact F.len _ _ _ _ q
 refine pJ (oD (F.run X.A X.stack s1 H1 ⟨us,[]⟩ (us++[]) vs Q (W σ) hr I1.env0 (hb s1 us I1.kIn hl) r2 q) fun r s' hq=>?_)
 cases r with
 |error e=>exact xo.fly pins σ H1 s1 e s' I1 hq
 |ok fl=>
  cases fl with
  |ret u=>exact I1.after hq
  |next=>exact lG hq
  |brk=>exact lG hq
  |cont=>exact lG hq
end
open PySem.Calls
section
variable {prog:Program} {w:World} {A:j6} {E:Value→Shared→Prop} {s:Shared} {K:a8} {x D:Addr}
structure ExcCls(K:a8)(D:Addr):Prop where
 ga:nh K (.ref D) "__getattribute__" =some (some (.builtin "BaseException.__getattribute__"))
 gn:nh K (.ref D) "__getattr__" =some none
 be:m9 K D (.type "BaseException")=some true
 ob:m9 K D (.type "object")=some true
 cl:nh K (.ref D) "__class__" =some (some (.builtin "object.__class__"))
 gt:rF K (.builtin "object.__class__") "__get__" =some (some (.builtin "getset_descriptor.__get__"))
 tk:sD K (.builtin "object.__class__")=some true
noncomputable def TyAt(D x:Addr)(h:Heap):Prop:=∃ox,h.get? x=some ox∧ox.cls=.ref D
theorem TyAt.looks(p:TyAt D x h):oK M h (typeOf (.ref x)) (.ref D):=by
 obtain⟨o,h1,h2⟩:=p
 exact h2▸(oK.ld h1).andThen .now
open PySem.W Builtin Builtin.ObjectAttr Builtin.Getset_descriptor in
theorem Md {R:tP→Shared→Prop} {tp:Value} (X:K.In s.heap) (I:TyAt D x s.heap) (hm:m9 K D (.type "object")=some true) (h:R (.ok (.ret (.ref D))) s):
  oF (model prog w) A (.call (.builtin "getset_descriptor.__get__") ⟨[.builtin "object.__class__",.ref x,tp],[]⟩) R s:=by
 obtain⟨hh,gg,dd,tt,oo⟩:=s
 have L0:=I.looks (M:=model prog w)
 have L1:=qG (M:=model prog w) X hm
 refine nY
  KF.slot_gs.plain KF.entry_gs (KF.slot_gs.check _ _ _ _ _ _ _ _
   KF.type_class (KF.args_gs _ _ _) ?_)
 unfold Builtin.«getset_descriptor.__get__»
  descrGet
 rw[dga_obj]
 refine a9 (b8 ?_)
 unfold descrGetter descrCheckInstance
  descrNameAndClass isInstance
 simp only[KF.owner_class]
 repeat lk
 refine⟨Code.quiet_builtin _
  (by decide+kernel),mW KF.entry_class ?_⟩
 unfold Builtin.«object.__class__» shownTypeOf
 repeat lk
 exact h
theorem ExcCls.find(c:ExcCls K D)(X:K.In h):oK M h (Builtin.ObjectAttr.find (.ref x) (.ref D) "__class__") (.bind (.builtin "getset_descriptor.__get__") (.builtin "object.__class__")):=by
 have L1:=qy (M:=M) X c.cl
 have L2:oK M h (Builtin.ObjectAttr.getOf (some (.builtin "object.__class__"))) (some (.builtin "getset_descriptor.__get__")):=PySem.W.looks_specialIn X c.gt
 have L3:=PySem.W.looks_takesIn (M:=M) X c.tk
 refine L1.andThen (L2.andThen ?_)
 exact(show oK M h (Builtin.ObjectAttr.dataDescriptor? (some (.builtin "object.__class__")) (some (.builtin "getset_descriptor.__get__"))) (some (.builtin "getset_descriptor.__get__",.builtin "object.__class__"))
  from L3.andThen .now).andThen (oK.tag .now)
theorem Pn(c:ExcCls K D)(X:K.In s.heap)(I:TyAt D x s.heap)(h:Q (some (.ref D)) {s with toks:=s.toks+1}):wpAny (model prog w) A (getAttr? (.ref x) "__class__") Q E s:=by
 obtain⟨hh,g,d,t,os⟩:=s
 have L0:=I.looks (M:=model prog w)
 have L1:=qy (M:=model prog w) X c.ga
 have L2:=qy (M:=model prog w) X c.gn
 have L3:=qG (M:=model prog w) X c.be
 have L4:=c.find (x:=x) (M:=model prog w) X
 have hb:bindSpecial (.builtin "BaseException.__getattribute__") (.ref x)=pure (.builtin "BaseException.__getattribute__",[.ref x]):=PySem.F.excAttr_ValueError.ga.bind _
 have hk:builtinKind "BaseException.__getattribute__" =some .slot:=by decide+kernel
 have hsplit:splitId "BaseException.__getattribute__" =some ("BaseException","__getattribute__"):=by decide+kernel
 have hx2:(Value.builtin "BaseException.__getattribute__" ==Value.builtin "object.__getattribute__")=false:=by decide+kernel
 unfold getAttr? getAttrBy? getAttrBy
 refine a9 (wpAny_mkText (a9 (pA (ko (a9 (L0.at (a9 (L1.at ?_))))))))
 dsimp only
 rw[hx2,rq,if_neg e8]
 unfold getAttrByItsOwn hookBefore
 refine a9 (L2.at ?_)
 refine a9 (pA (ko ?_))
 unfold callGetattribute boundAndCalled
 rw[hb]
 show wpAny _ _ (call (.builtin "BaseException.__getattribute__") [.ref x,.str "__class__" t]) _ _ _
 refine pJ (nY PySem.F.excAttr_ValueError.ga.plain PySem.F.entry_bexc_ga ?_)
 have ha:=PySem.F.args_bexc_ga (.ref x) (.str "__class__" t)
 simp only[rS,hk,hsplit]
 refine a9 ?_
 unfold isInstance
 refine a9 (L0.at (L3.at ?_))
 rw[if_neg (by decide)]
 refine rB ha ?_
 show wpAny _ _ (typeOf (.ref x)>>=fun tp=>Builtin.ObjectAttr.find (.ref x) tp "__class__" >>=_) _ _ _
 refine a9 (L0.at (a9 (L4.at ?_)))
 show wpAny _ _ ((holding [.builtin "object.__class__"] (call (.builtin "getset_descriptor.__get__") [.builtin "object.__class__",.ref x,.ref D]))>>=ret) _ _ _
 refine a9 (ko (pJ (Md (s:=⟨hh,g,d,t+1,os⟩) X I c.ob ?_)))
 exact b8 (b8 (b8 h))
theorem ExcCls.isTy(c:ExcCls K D)(X:K.In h):oK M h (isType (.ref D)) true:=by
 obtain⟨cd,hc,_⟩:=Option.bind_eq_some_iff.mp (show(rM K D).bind _=some true from c.be)
 unfold rM at hc
 split at hc
 ·rename_i c' d' cd' sl' ho
  intro A' Q' E' s' k q
  unfold isType loadHead
  exact a9 (wpAny_loadPart (k _ _ (X _ _ ho)) (b8 q))
 ·cases hc
theorem RY(c:ExcCls K D):PySem.W.KitX K (.ref x) (.ref D) (TyAt D x) where
 ty:=fun _ _ _ I=>I.looks
 it:=fun _ _ X _=>c.isTy X
 ne:=fun h tp dd its n sl X htp=>by
  refine Bool.eq_false_iff.mpr fun q=>?_
  have e:D=tp:=Value.ref.inj (beq_iff_eq.mp q)
  subst e
  obtain⟨cd,hc,_⟩:=Option.bind_eq_some_iff.mp (show(rM K D).bind _=some true from c.be)
  unfold rM at hc
  split at hc
  ·rename_i c' d' cd' sl' ho
   have z:=(X _ _ ho).symm.trans htp
   cases z
  ·cases hc
 ca:=fun X I k=>Pn c X I k
end
noncomputable def GQ(D x:Addr):HO:=.ext (TyAt D x)
theorem OC(p:TyAt D x h):ObjOk P w H h x (GQ D x):=by
 refine⟨p,?_,fun h1 h2 q k=>?_⟩
 ·obtain⟨o,e,_⟩:=p
  exact⟨o,e⟩
 ·obtain⟨o,e,c⟩:=q
  exact⟨o,k o e,c⟩
theorem Me{σ:St}(I:Inv X pins σ H s)(hx:Rd H x (GQ D x))(k:ExcCls X.K D)
  (e:js X.K (.ref D) c=some b) (h:∀tk,Q (.bool b) {s with toks:=tk}):wpAny (model X.prog X.w) A (call (.builtin "isinstance") [.ref x,c]) Q E s:=by
 obtain⟨p,_,_⟩:=(show ObjOk X.prog X.w H s.heap x (GQ D x) from hx.ok I.hok)
 exact mh (RY k) I.kIn p e (fun z=>nomatch z) h
abbrev VQ:List Value:=[.type "ValueError",.type "Exception",.type "BaseException",.type "object"]
theorem VR{K:a8}(X:K.In h)(q:pB K C bmB newId=true):
  ∃bm N nm qn bs hdct sn sub ab col dd k0 k1 k2 k3 k5 mN,h.get? C=some (excClassObj nm qn C N bs bm hdct sn sub ab col dd k0 k1 k2 k3 k5 newId)∧h.Ns N mN∧mN "__init__" =none∧OwnTail h bmB bm:=by
 unfold pB at q
 split at q
 ·rename_i dd cd sl ho
  split at q
  ·rename_i C' bm k0 k1 k2 k3 n k5 hm hs
   simp only[ki,beq_iff_eq,
    mw] at q
   obtain⟨⟨⟨⟨⟨e1,e2⟩,hdel⟩,ht⟩,hok⟩,hni⟩:=q
   subst e1 e2
   obtain⟨nm,bs,mro,ns,qn,hd,sn,sub,ab,col,del⟩:=cd
   dsimp only at hm hdel hok hni
   subst hm hdel
   have hsl:sl= #[k0,k1,k2,k3,some (.builtin n),k5]:=by
    obtain⟨l⟩:=sl
    simp only at hs
    rw[hs]
   subst hsl
   exact⟨bm,ns,nm,qn,bs,hd,sn,sub,ab,col,dd,k0,k1,k2,k3,k5,_,X _ _ ho,
    .of_isNs (PySem.W.isNs_of_in X hok),PySem.W.nsMap_none_of_in X hok hni,PySem.W.tail_of_in X ht⟩
  ·cases q
 ·cases q
theorem Po(xo:XOk X W)(hc:X.calm=true)(hg:Gl X x)(hm:X.mg x=some (.ref C))(q:pB X.K C VQ "ValueError.__new__" =true)
  (hd:(x==("__debug__" :Str))=false:=by decide):PS X (.Raise (some (.Call (.Name x np) [] [] cpos)) none pos) (ZD W C):=by
 intro pins s σ H D I h
 obtain⟨bm,N,nm,qn,bs,hdct,sn,sub,ab,col,dd,k0,k1,k2,k3,k5,mN,hC,hN,hni,T⟩:=VR I.kIn q
 refine wpAny_Raise_call_subT (C:=C) (nm:=nm) (q:=qn) (N:=N) (bs:=bs) (bm:=bm) (hdct:=hdct) (sn:=sn) (sub:=sub) (ab:=ab) (col:=col) (dd:=dd) (k0:=k0) (k1:=k1) (k2:=k2) (k3:=k3) (k5:=k5)
  PySem.F.excBase_ValueError (mN:=mN) (T.hasType PySem.F.excBase_ValueError.hasBase) (I.ok.hd hc) rfl hni (EC I hg hm ⟨rfl,?_⟩ hd)
 exact evalArgs_empty ⟨rfl,kZ _,hC,hN,T,fun h' e hx=>xo.made pins σ H s h' e C I hx h⟩
theorem Kn{K:a8}(X:K.In s.heap)(p:TyAt C x s.heap)(k:mf K (.ref C) (.ref B)=some b)
  (hb:m9 K B (.type "BaseException")=some true) (h:Q b s):wpAny M A (excMatches (.ref x) (.ref B)) Q E s:=by
 obtain⟨L1,L2,L3⟩:=PySem.W.kit_cls (M:=M) X k
 have L4:=qG (M:=M) X hb
 have L0:=p.looks (M:=M)
 have f:=tc_notTuple
 obtain⟨hh,g,d,t,os⟩:=s
 unfold excMatches isInstance isExcClass
 refine a9 (a9 (L1.at ?_))
 rw[f]
 refine b8 ?_
 rw[if_neg e8]
 refine a9 (b8 ?_)
 simp only[sI,List.forIn_nil]
 refine a9 (a9 (a9 (a9 (L2.at ?_))))
 rw[if_pos rfl]
 refine L4.at ?_
 rw[if_neg (by decide)]
 refine b8 (b8 (a9 (L0.at (a9 (a9 (a9 (L3.at ?_)))))))
 cases b with
 |true=>
  rw[if_pos rfl]
  exact b8 (b8 (b8 h))
 |false=>
  rw[if_neg e8]
  exact b8 (b8 (b8 h))
section
variable {σ:St}
theorem Inv.track(I:Inv X pins σ H s)(hx:H x=none)(hf:∃ob,s.heap.get? x=some ob∧ob.data=.fields vs)(hs0:X.s₀.heap.get? x=none)(hp:∀p∈X.pn++pins,p.1≠x)
  (ok:ObjOk X.prog X.w (upd H x o) s.heap x o):Inv X pins σ (upd H x o) s:=by
 obtain⟨ob,eob,dob⟩:=hf
 have ne:∀b u,H b=some u→b≠x:=fun b u e z=>by rw[z,hx] at e;cases e
 have hL:X.env.locals≠x:=fun z=>by
  obtain⟨m,⟨o',es,ep,ho',hd',_⟩,_⟩:=I.loc
  rw[z,eob] at ho';cases ho';rw[dob] at hd';cases hd'
 have hC:∀y c,X.env.cells.lookup y=some c→c≠x:=fun y c e z=>by
  obtain⟨v,o',ho',hd'⟩:=I.cell y c e
  rw[z,eob] at ho';cases ho';rw[dob] at hd';cases hd'
 refine⟨I.ok,I.os,I.bare,⟨I.base.keep,I.base.slot,fun b o e n hb=>?_,I.base.there,fun b xs e=>?_,fun b o u e=>?_,fun b ps e=>?_⟩,I.loc,I.cell,?_,fun y c e=>?_,fun p hp'=>?_,fun b u e=>?_,I.len⟩
 ·have nb:b≠x:=fun z=>by rw[z,hs0] at e;cases e
  rw[AR nb]
  exact I.base.free b o e n hb
 ·have q:=I.base.tups b xs e
  rw[AR (ne b _ q)]
  exact q
 ·have q:=I.base.frzs b o u e
  rw[AR (ne b _ q)]
  exact q
 ·obtain⟨more,q⟩:=I.base.tbls b ps e
  exact⟨more,by rw[AR (ne b _ q)];exact q⟩
 ·rw[AR hL];exact I.free
 ·rw[AR (hC y c e)];exact I.freeC y c e
 ·obtain⟨e,n,r⟩:=I.pin p hp'
  exact⟨e,by rw[AR (hp p hp')];exact n,r⟩
 ·by_cases hb:b=x
  ·subst hb
   rw[AL] at e;cases e
   exact ok
  ·rw[AR hb] at e
   exact(I.hok b u e).stay (fun _ _ _ q=>q) (fun c q=>by rw[AR (ne c _ q)];exact q) fun c xs q=>by rw[AR (ne c _ q)];exact q
theorem Inv.gone(I:Inv X pins σ H s)(hN:X.N.Nodup)(hi:X.N[i]?=some n)(hk:X.env.scope.names.lookup n=some .local)
  (h:∀s',Inv X pins (σ.set i none) H s'→Q () s'):wpAny M A (do bindName X.env n .none;unbindBehindTheSuite X.env n pos) Q E s:=by
 obtain⟨m,hn,hl⟩:=id I.loc
 have hcls:(X.env.scope.kind==.class|| (X.env.scope.kind==.module&&X.env.locals !=X.env.globals))=false:=by rw[I.ok.kind];rfl
 have cne:=I.cne
 refine wpAny_nameGoes_keeps hk hn hcls fun h' v hn' hs=>?_
 obtain⟨oL,_,_,hoL,_⟩:=id hn
 have old:∀b o,X.s₀.heap.get? b=some o→b≠X.env.locals:=fun b o e=>ke (kh (jo e) I.ok.above)
 refine h _ ⟨I.ok,I.os,I.bare,⟨fun b o e n hb hx=>?_,fun b o e n hb hx=>?_,I.base.free,fun b o e hx=>?_,I.base.tups,I.base.frzs,I.base.tbls⟩,⟨_,hn',fun j y v' e1 e2 e3=>?_⟩,fun y c e=>?_,I.free,I.freeC,fun p hp=>?_,fun b u e=>?_,by simpa using I.len⟩
 ·exact(hs.2 b (old b o e)).trans (I.base.keep b o e n hb hx)
 ·obtain⟨sl,e1⟩:=I.base.slot b o e n hb hx
  exact⟨sl,(hs.2 b (old b o e)).trans e1⟩
 ·obtain⟨o',e1⟩:=I.base.there b o e hx
  exact⟨o',(hs.2 b (old b o e)).trans e1⟩
 ·by_cases hj:j=i
  ·subst hj
   have hiσ:j<σ.length:=by rw[I.len];exact(jn.mp hi).1
   rw[kB hiσ] at e2
   cases e2
  ·rw[j7 (Ne.symm hj)] at e2
   obtain⟨u',r',q⟩:=hl j y v' e1 e2 e3
   refine⟨u',r',?_⟩
   rcases q with⟨k,e⟩| ⟨k,c,e,z⟩
   ·refine .inl ⟨k,?_⟩
    have:y≠n:=fun e=>hj (Gi hN e1 (e▸hi))
    simp[this,e]
   ·exact .inr ⟨k,c,e,z.sameBut hs (cne y c e)⟩
 ·obtain⟨w',z⟩:=I.cell y c e
  exact⟨w',z.sameBut hs (cne y c e)⟩
 ·obtain⟨e,n,ne,nf,d⟩:=I.pin p hp
  exact⟨(hs.2 p.1 ne).trans e,n,ne,nf,d⟩
 ·refine(I.hok b u e).stay (fun c w' hc q=> (hs.2 c ?_).trans q) (fun _ q=>q) fun _ _ q=>q
  rintro rfl
  rcases hc with rfl|hc
  ·rw[I.free] at e;cases e
  ·rw[I.free] at hc;cases hc
end
theorem Fly.un'(F:Fly P w outer H s H' x cls s')(b1:∀b,H' b≠none→∃o,B.get? b=some o)(b2:∀b o,s.heap.get? b=some o→b∉Fb outer→∃o',B.get? b=some o')
  (fl:n9 B outer x (Ig cls) (.ref t) s'.heap) (st:B.StaysIn h') (up:s'.heap.UpToSlots h'):Un (Fb outer) [] H H' s.heap h'∧HOk P w H' h':=by
 have same:∀b o o',B.get? b=some o'→s'.heap.get? b=some o→h'.get? b=some o:=fun b o o' e1 e2=>by
  have q:=fl.1 b o' e1
  rw[e2] at q;cases q
  exact st b o e1
 have fsm:∀b o,b∈Fb outer→s'.heap.get? b=some o→∃sl,h'.get? b=some {o with slots:=sl}:=fun b o hb e=>by
  obtain⟨_,o',e',hd⟩:=fl.2.2.1.mem hb
  rw[e] at e';cases e'
  exact up b o e hd
 refine⟨⟨fun b o e n hb hx=>?_,fun b o e n hb hx=>?_,F.un.free,fun b o e hx=>?_,F.un.tups,F.un.frzs,F.un.tbls⟩,F.hok.by_keep fun b o hb e=>?_⟩
 ·obtain⟨o',e'⟩:=b2 b o e hb
  exact same b o o' e' (F.un.keep b o e n hb hx)
 ·obtain⟨sl,e1⟩:=F.un.slot b o e n hb hx
  obtain⟨sl',e2⟩:=fsm b _ hb e1
  exact⟨sl',e2⟩
 ·obtain⟨o1,e1⟩:=F.un.there b o e hx
  by_cases hb:b∈Fb outer
  ·obtain⟨sl,e2⟩:=fsm b o1 hb e1
   exact⟨_,e2⟩
  ·obtain⟨o',e'⟩:=b2 b o e hb
   exact⟨o',st b o' e'⟩
 ·obtain⟨o',e'⟩:=b1 b hb
  exact same b o o' e' e
noncomputable def CS(X:Cx)(pins:List (Addr×Obj))(E':Value→Shared→Prop):Cx:={X with pn:=X.pn++pins,xe:=E'}
structure TryIs(X X':Cx):Prop where
 is:∃pins E',X'=CS X pins E'
noncomputable def Xe(X:Cx)(x:Addr):Cx:={X with A:=X.A.mark (some (.ref x)),calm:=false,xe:=fun _ _=>False}
section
variable {σ:St}
theorem Cx.Ok.toTry(ok:X.Ok):(CS X pins E').Ok:=
 ⟨ok.mod,ok.kind,ok.glob,ok.blt,ok.above,ok.inj,ok.has,ok.cab,ok.hd,ok.frames,ok.stk,ok.exf,ok.bs,ok.bsz,ok.noex,ok.exfs,ok.funs,ok.frf⟩
theorem Cx.Ok.ofTry(ok:(CS X pins E').Ok):X.Ok:=
 ⟨ok.mod,ok.kind,ok.glob,ok.blt,ok.above,ok.inj,ok.has,ok.cab,ok.hd,ok.frames,ok.stk,ok.exf,ok.bs,ok.bsz,ok.noex,ok.exfs,ok.funs,ok.frf⟩
theorem Cx.Ok.toH(ok:X.Ok):(Xe X x).Ok:=
 ⟨ok.mod,ok.kind,ok.glob,ok.blt,ok.above,ok.inj,ok.has,ok.cab,fun(e:false=true)=> (e8 e).elim,ok.frames,ok.stk,ok.exf,ok.bs,ok.bsz,ok.noex,ok.exfs,ok.funs,ok.frf⟩
theorem Inv.toTry(I:Inv X pins σ H s):Inv (CS X pins E') [] σ H s:=
 ⟨I.ok.toTry,I.os,I.bare,I.base,I.loc,I.cell,I.free,I.freeC,fun p hp=>I.pin p (by rw[mX] at hp;exact hp),I.hok,I.len⟩
theorem Inv.ofTry(I:Inv (CS X pins E') pins' σ H s):Inv X pins σ H s:=
 ⟨I.ok.ofTry,I.os,I.bare,I.base,I.loc,I.cell,I.free,I.freeC,fun p hp=>I.pin p (lZ _ hp),I.hok,I.len⟩
theorem Inv.toH(I:Inv X pins σ H s):Inv (Xe X x) pins σ H s:=⟨I.ok.toH,I.os,I.bare,I.base,I.loc,I.cell,I.free,I.freeC,I.pin,I.hok,I.len⟩
theorem Inv.ofH(ok:X.Ok)(I:Inv (Xe X x) pins σ H s):Inv X pins σ H s:=⟨ok,I.os,I.bare,I.base,I.loc,I.cell,I.free,I.freeC,I.pin,I.hok,I.len⟩
theorem SP.ofTry(h:SP (CS X pins E') [] D f s'):SP X pins D f s':=by
 cases f with
 |next=>obtain⟨σ',H',I,q⟩:=h;exact⟨σ',H',I.ofTry,q⟩
 |brk=>obtain⟨σ',H',I,q⟩:=h;exact⟨σ',H',I.ofTry,q⟩
 |cont=>obtain⟨σ',H',I,q⟩:=h;exact⟨σ',H',I.ofTry,q⟩
 |ret u=>obtain⟨v,σ',H',I,r,q⟩:=h;exact⟨v,σ',H',I.ofTry,r,q⟩
end
noncomputable def Xf(i:Nat)(D:Ends):Ends:={nx:=fun σ H=>D.nx (σ.set i none) H,rt:=D.rt,bk:=fun σ H=>D.bk (σ.set i none) H,ct:=fun σ H=>D.ct (σ.set i none) H}
theorem KD.heap{R:Heap→Prop}(h:KD t)(q:wpAny M A t (fun _ s'=>R s'.heap∧s'={s with heap:=s'.heap}) E s)(k:∀h',R h'→DK s.heap h'→Q () {s with heap:=h'}):wpAny M A t Q E s:=
 nz (h.any q) (fun _ s' ⟨⟨r,e⟩,d⟩=>by rw[e];exact k _ r d) fun _ _ z=>z
noncomputable def HK(cls:Value)(C x:Addr)(H:Hp)(o:HO):Prop:=(cls=.ref C∧o=GQ C x)∨∃fs ox dx vs,cls=.str fs C∧o=.frz ox (GQ C x)∧ox=⟨.ref C,some dx,.fields vs,ox.slots⟩∧H dx=some (gJ dx (gH fs))
noncomputable def WT(K:a8)(B:Addr)(i:Nat)(th:TS)(D:Ends):St→XK:=fun σ cls _ H=>∃C,(cls=.ref C∨∃fs,cls=.str fs C)∧mf K (.ref C) (.ref B)=some true∧∀x o,H x=none→HK cls C x H o→th (Xf i D) (σ.set i (some (.ref x))) (upd H x o)
noncomputable def gK(tb:(St→XK)→TS)(K:a8)(B:Addr)(i:Nat)(th:TS):TS:=fun D σ H=>tb (WT K B i th D) D σ H
theorem RZ(hst:X.stack=X.env::X.outer)(hex:X.ex=[])(hfr:X.env.frame=some X.env.locals)(hN:X.N.Nodup)(hi:X.N[i]?=some n)
  (hk:X.env.scope.names.lookup n=some .local) (hg:Gl X x) (hm:X.mg x=some (.ref B)) (hbe:m9 X.K B (.type "BaseException")=some true)
  (hb:∀(W:St→XK) (X':Cx),TryIs X X'→XFly X' W→PSs X' body (tb W)) (hh:∀y,PSs (Xe X y) (b₀::suite) th) (hd:(x==("__debug__" :Str))=false:=by decide):
  PS X (.Try body [.ExceptHandler (some (.Name x np)) (some n) (b₀::suite) hpos] [] [] pos) (gK tb X.K B i th):=by
 intro pins s σ H D I h
 refine wpAny_Try_except ?_
 generalize hXE:(fun(e:Value) (s₁:Shared)=>wpAny (model X.prog X.w) X.A (ua e X.env) (fun _ s₂=>wpAny (model X.prog X.w) X.A (setFlight e none) (fun _ s₃=>wpAny (model X.prog X.w) X.A (handleBy e X.env [.ExceptHandler (some (.Name x np)) (some n) (b₀::suite) hpos]) (SP X pins D) X.xe s₃) X.xe s₂) X.xe s₁)=XE
 have xf:XFly (CS X pins XE) (WT X.K B i th D):=by
  refine⟨fun pins' σ1 H1 s1 e s2 I1 c=>?_⟩
  obtain⟨y,cls,H2,rfl,F,C,hcls,kc,hq⟩:=c
  have hco:Ig cls=.ref C:=by rcases hcls with rfl| ⟨fs,rfl⟩<;>rfl
  obtain⟨B',t,b1,b2,fl⟩:=F.fly
  rw[hco] at fl
  have flx:n9 B' (CS X pins XE).stack y (Ig cls) (.ref t) s2.heap:=by rw[hco];exact fl
  have fl':n9 B' (X.env::X.outer) y (.ref C) (.ref t) s2.heap:=hst▸(show n9 B' X.stack y (.ref C) (.ref t) s2.heap from fl)
  have frA:X.A.frames=some (X.env::X.outer):=hst▸I.ok.frames
  have inv_at:∀hp:Heap,B'.StaysIn hp→s2.heap.UpToSlots hp→Inv X pins σ1 H2 {s2 with heap:=hp}:=fun hp st up=>by
   obtain⟨u,ho⟩:=F.un' b1 b2 flx st up
   exact Inv.ofTry (I1.call' (s':={s2 with heap:=hp}) (ch:=[]) F.os u ho F.bare fun b z=>absurd z (by simp))
  show XE (.ref y) s2
  rw[←hXE]
  refine KD.heap (OB _ _) (R:=fun h4=>Heap.HeldW B' (X.env::X.outer) y (.ref C) (.ref t) X.env.locals h4∧s2.heap.UpToSlots h4) (wpAny_looks_onW frA hfr fl' fun h4 a b=> ⟨⟨a,b⟩,rfl⟩) fun h4 ⟨held4,up4⟩ dk4=>?_
  refine KD.heap (DN _ _) (R:=fun h5=>n9 B' (X.env::X.outer) y (.ref C) (.ref t) h5∧h4.UpToSlots h5) (wpAny_landsW held4 fun h5 a b=> ⟨⟨a,b⟩,rfl⟩) fun h5 ⟨fl5,up5⟩ dk5=>?_
  have up5':=up4.trans up5
  have I5:=inv_at h5 fl5.1 up5'
  refine wpAny_handleBy_cons (codeAny_handlers_test ?_) (by intro q;cases q)
  refine EC (X:=Xe X y) I5.toH hg hm ?_ hd
  refine Kn (K:=X.K) I5.kIn fl5.there kc hbe ?_
  refine codeAny_handlers_suite_as ?_
  refine KD.heap (DN _ _) (R:=fun h6=>n9 B' (X.env::X.outer) y (.ref C) (.ref t) h6∧h5.UpToSlots h6) (lands_againW fl5 fun h6 a b=> ⟨⟨a,b⟩,rfl⟩) fun h6 ⟨fl6,up6⟩ dk6=>?_
  have I6:=inv_at h6 fl6.1 (up5'.trans up6)
  have hyB:B'.get? y=none:=fl.2.1
  have nofr:∀b o,s1.heap.get? b=some o→b∉Fb X.stack→b≠y:=fun b o e hb z=>by
   obtain⟨o',e'⟩:=b2 b o e hb
   rw[z,hyB] at e';cases e'
  obtain⟨oe,vs,eoe,_,doe,_⟩:=fl.first
  have yfr:y∉Fb X.stack:=fun z=>by
   obtain⟨_,o',e',hd'⟩:=fl.2.2.1.mem (show y∈(CS X pins XE).stack.filterMap (·.frame) from z)
   rw[eoe] at e';cases e'
   exact hd' vs doe
  have hs0:X.s₀.heap.get? y=none:=by
   cases e:X.s₀.heap.get? y with
   |none=>rfl
   |some o=>
    have exf:y∉X.ex:=by rw[hex];simp
    obtain⟨o1,e1⟩:=I1.base.there y o e exf
    exact absurd rfl (nofr y o1 e1 yfr)
  obtain⟨oe6,vs6,eoe6,coe6,doe6,_⟩:=fl6.first
  have hk:∃o,HK cls C y H2 o∧ObjOk X.prog X.w (upd H2 y o) h6 y o:=by
   rcases hcls with rfl| ⟨fs,rfl⟩
   ·exact⟨_,.inl ⟨rfl,rfl⟩,OC fl6.there⟩
   ·obtain⟨ox,dx,e1,e2,e3⟩:=F.dic fs C rfl
    have z:=(DK.trans dk4 (DK.trans dk5 dk6)).at_ e1 eoe6
    refine⟨.frz oe6 (GQ C y),.inr ⟨fs,oe6,dx,vs6,rfl,rfl,?_,e3⟩,eoe6,OC fl6.there⟩
    obtain⟨c6,d6,da6,sl6⟩:=oe6
    rw[show d6=some dx from z.trans e2,show c6=.ref C from coe6,show da6=.fields vs6 from doe6]
  obtain⟨o,hk1,hk2⟩:=hk
  have I7:Inv X pins σ1 (upd H2 y o) {s2 with heap:=h6}:=I6.track F.fr ⟨oe6,eoe6,doe6⟩ hs0 (fun p hp=>by
   obtain⟨e,_,nl,nf,_⟩:=I1.pin p (lZ _ hp)
   exact nofr p.1 p.2 e fun z=> (ju.mp (I1.stkSub p.1 z)).elim nl nf) hk2
  refine Cz (X:=Xe X y) I7.toH hN hi (.inl hk) (v:=.ref y) rfl (fun s8 I8=>?_) (.inr hk)
  refine nz (hh y _ s8 _ _ (Xf i D) I8 (hq y o F.fr hk1)) (fun f s9 hf=>?_) fun _ _ z=>lG z
  cases f with
  |next=>obtain⟨σ9,H9,I9,q9⟩:=hf;exact(I9.ofH I.ok).gone hN hi hk fun s10 I10=> ⟨_,_,I10,q9⟩
  |brk=>obtain⟨σ9,H9,I9,q9⟩:=hf;exact(I9.ofH I.ok).gone hN hi hk fun s10 I10=> ⟨_,_,I10,q9⟩
  |cont=>obtain⟨σ9,H9,I9,q9⟩:=hf;exact(I9.ofH I.ok).gone hN hi hk fun s10 I10=> ⟨_,_,I10,q9⟩
  |ret u=>obtain⟨v,σ9,H9,I9,r,q9⟩:=hf;exact(I9.ofH I.ok).gone hN hi hk fun s10 I10=> ⟨v,_,_,I10,r,q9⟩
 have q:=hb _ (CS X pins XE) ⟨_,_,rfl⟩ xf [] s σ H D I.toTry h
 refine nz q (fun f s1 hf=>?_) fun e s1 he=>he
 cases f with
 |next=>exact pG (SP.ofTry (f:=.next) hf)
 |brk=>exact SP.ofTry (f:=.brk) hf
 |cont=>exact SP.ofTry (f:=.cont) hf
 |ret u=>exact SP.ofTry (f:=.ret u) hf
structure RoomH(k:Nat)(A:j6):Prop where
 dp:A.depth+3*k+5<sP
 un:A.units+16*k+200<cLine
theorem Room.toH(r:Room k A):RoomH k (A.mark (some x)):=⟨r.dp,r.un⟩
structure FnH(P:Program)(w:World)(K:a8)(mg:Str→Option Value)(base:Heap)(k:Nat)(f:Addr)(fd:j5)(ps:List Str)(sp:Sp):Prop where
 len:∀vs H Q E,sp vs H Q E→vs.length=ps.length
 run:∀(A:j6) (outer:List Env) (s:Shared) (H:Hp) (args:Args) (us:List Value) (vs:List V) (Q:VK),RoomH k A→Env0 P w K mg base A outer s H→tD s fd args (ps.zip us)→Vals vs us→sp vs H Q E0→
  oF (model P w) A (.call (.ref f) args) (CR gE outer P w H s Q E0) s
noncomputable def ZE(P:Program)(w:World)(K:a8)(mg:Str→Option Value)(base:Heap)(N:List Str)(qual:Str)(scope:Scope)(f:Addr)(cd:Value)(A:j6)(outer:List Env)(s:Shared)(H:Hp):Cx:=
 {CM gE P w K mg base N qual scope f cd A outer s H E0 with calm:=false,xe:=fun _ _=>False}
theorem Fun.okH{K:a8}{st:Stmt}(F:Fun K x qual st f fd)(S:FnScope N ps (AA st))
  (len:∀vs H Q E,sp vs H Q E→vs.length=ps.length)
  (hbody:∀(cdv:Value) (A:j6) (outer:List Env) (s:Shared) (H:Hp) (vs:List V) (Q:VK),RoomH k (A.deeper (nI qual (AA st) s.heap.objs.size f cdv))→sp vs H Q E0→
   ∃t,PSs (ZE P w K mg base N qual (AA st) f cdv A outer s H) (Ae st) t∧t {nx:=fun _ H'=>Q .non H',rt:=Q} (start N vs) H):FnH P w K mg base (k+1) f fd ps sp:=by
 obtain⟨oc,od,kV,doc,pm,an,cdv,ct,osl,rfl,lk,hcd⟩:=F.ex
 refine⟨len,fun A outer s H args us vs Q hr e0 hb r hsp=>?_⟩
 have hl:=len _ _ _ _ hsp
 have KX:K.In s.heap:=e0.mod.kin.keeps fun b o e=> (e0.bs b o e).1
 have lim:s.heap.NoLimit:=e0.mod.nolimit.keeps fun b o e=> (e0.bs b o e).1
 have hkind:∀y∈ps.zip us,(AA st).names.lookup y.1=some .local∨((AA st).names.lookup y.1=some .cell∧((mH (s.heap.objs.size+1) (AA st).names []).lookup y.1).isSome=true):=fun⟨n,v⟩ hy=>by
  rcases S.par n (qE hy).1 with q|q
  ·exact .inl q
  ·exact .inr ⟨q,pY _ _ _ (.inl q)⟩
 refine codeAny_call_function (by have:=hr.dp;omega) (KX _ _ lk) rfl S.co S.gen rfl (PySem.W.codeRec_of KX hcd) (hb _ _ _ _ ?_)
 refine wpAny_newFunctionEnv_cells S.kind hkind fun env he s1 x=>?_
 subst he
 refine⟨lim.keeps x.toInCall.keep,codeAny_func ?_⟩
 obtain⟨t,ht,hq⟩:=hbody cdv A outer s H vs Q ⟨by have:=hr.dp;show A.depth+1+3*k+5<_;omega,by have:=hr.un;show A.units+3+16*k+200<_;omega⟩ hsp
 have I0:Inv (CM gE P w K mg base N qual (AA st) f cdv {A with handled:=none} outer s H E0) [] (start N vs) H s1:=
  Ic S rfl (⟨e0.frames,e0.mod,e0.bs,e0.bsz,e0.funs,e0.frf,e0.hok,e0.bare⟩:Env0 P w K mg base {A with handled:=none} outer s H) hl r x
 have I:Inv (ZE P w K mg base N qual (AA st) f cdv A outer s H) [] (start N vs) H s1:=by
  have ok:=I0.ok
  exact⟨⟨ok.mod,ok.kind,ok.glob,ok.blt,ok.above,ok.inj,ok.has,ok.cab,fun(e:false=true)=> (e8 e).elim,ok.frames,ok.stk,ok.exf,ok.bs,ok.bsz,ok.noex,ok.exfs,ok.funs,ok.frf⟩,I0.os,I0.bare,I0.base,I0.loc,I0.cell,I0.free,I0.freeC,I0.pin,I0.hok,I0.len⟩
 refine nz (ht [] s1 (start N vs) H _ I hq) (fun fl s' hs=>?_) fun e s' hs=>lG hs
 have fin:∀{σ':St} {H':Hp} {v:V} {u:Value},Inv (ZE P w K mg base N qual (AA st) f cdv A outer s H) [] σ' H' s'→RelV v u→Q v H'→CE outer P w H s Q u s':=
  fun{σ' H' v u} J rv q=> ⟨v,H',J.os,J.bare,J.base,J.hok,rv,q⟩
 cases fl with
 |ret u=>
  obtain⟨v,σ',H',J,rv,q⟩:=hs
  exact fin J rv q
 |next=>
  obtain⟨σ',H',J,q⟩:=hs
  exact fin (v:=V.non) (u:=nU) J rfl q
 |brk=>
  obtain⟨_,_,_,q⟩:=hs
  exact lG q
 |cont=>
  obtain⟨_,_,_,q⟩:=hs
  exact lG q
theorem Ko{p pos:Pos}(F:FnH X.prog X.w X.K X.mg X.base k f fd ps sp)(hr:RoomH k X.A)(hg:Gl X x)(hm:X.mg x=some (.ref f))(hk:lF X.K (.ref f)=true)(hb:Binds X.K fd ps [])
  (ha:PA X (e::es) t) (hdb:(x==("__debug__" :Str))=false:=by decide) (he:i5 (e::es) X.env=(false,eval e X.env)::i5 es X.env:=by rfl) (hpl:(mS pos (i5 es X.env)).any (·.1)=false:=by rfl):
  PE X (.Call (.Name x p) (e::es) [] pos) (RX sp (fun _=>E0) t):=by
 intro pins s σ H Q I h
 refine nT (EC I hg hm ?_ hdb)
 refine qY (h₀:=X.base) I.ok.mod.kin hk (Az (ha pos pins s σ H _ I h) fun us s1 ⟨vs,H1,I1,r,q⟩=> ⟨I1.kIn,?_⟩) he hpl
 have r2:Vals vs (us++[]):=by rw[mX];exact r
 have hl:(us++[]).length=ps.length:=by rw[←r2.length];exact F.len _ _ _ _ q
 refine pJ (oD (F.run X.A X.stack s1 H1 ⟨us,[]⟩ (us++[]) vs Q hr I1.env0 (hb s1 us I1.kIn hl) r2 q) fun r s' hq=>?_)
 cases r with
 |error e=>exact lG hq
 |ok fl=>
  cases fl with
  |ret u=>exact I1.after hq
  |next=>exact lG hq
  |brk=>exact lG hq
  |cont=>exact lG hq
theorem Fun.okX{K:a8}{st:Stmt}(F:Fun K x qual st f fd)(S:FnScope N ps (AA st))(len:∀vs H Q E,sp vs H Q E→vs.length=ps.length)
  (hbody:∀(cdv:Value) (A:j6) (outer:List Env) (s:Shared) (H:Hp) (vs:List V) (Q:VK) (E:XK),Room k (A.deeper (nI qual (AA st) s.heap.objs.size f cdv))→sp vs H Q E→
   ∃t,PSs (CM (CXe P w) P w K mg base N qual (AA st) f cdv A outer s H E) (Ae st) t∧t {nx:=fun _ H'=>Q .non H',rt:=Q} (start N vs) H):FnOk P w K mg base (CXe P w) (k+1) f fd ps sp:=by
 obtain⟨oc,od,kV,doc,pm,an,cdv,ct,osl,rfl,lk,hcd⟩:=F.ex
 exact bu lk hcd S len fun A outer s H vs Q E hr hsp=>hbody cdv A outer s H vs Q E hr hsp
section
variable {X:Cx}
noncomputable def iw(K:a8)(H:Hp)(x:V)(t:Value):Prop:=TyOf K H x t∨∃a D,x=.ref a∧t=.ref D∧Rd H a (GQ D a)∧ExcCls K D
noncomputable def cK(K:a8):List V→Hp→VK→Prop:=fun vs H Q=>∃x c t cv b,vs=[x,c]∧RelV c cv∧iw K H x t∧js K t cv=some b∧Q (.bl b) H
theorem Bc:Bb X (.builtin "isinstance") (cK X.K):=by
 intro pins s σ H xs us Q I r h
 obtain⟨x,c,t,cv,b,rfl,rc,ty,e,q⟩:=h
 obtain⟨u,w',rfl,rx,rw'⟩:=Nr r
 have e2:w'=cv:=by
  cases c with
  |ty n=>exact(show w'=oh n from rw').trans (show cv=oh n from rc).symm
  |ref a=>exact(show w'=Value.ref a from rw').trans (show cv=Value.ref a from rc).symm
  |non=>exact(show w'=nU from rw').trans (show cv=nU from rc).symm
  |bl b=>exact(show w'=qf b from rw').trans (show cv=qf b from rc).symm
  |int i=>exact absurd e (by obtain⟨k,rfl⟩:=rc;unfold js;rcases ty with ty| ⟨_,_,_,rfl,_⟩<;>first| (cases ty<;> (intro z;simp[mf] at z))| (intro z;simp[mf] at z))
  |str i=>exact absurd e (by obtain⟨k,rfl⟩:=rc;unfold js;rcases ty with ty| ⟨_,_,_,rfl,_⟩<;>first| (cases ty<;> (intro z;simp[mf] at z))| (intro z;simp[mf] at z))
  |byt i=>exact absurd e (by obtain⟨k,rfl⟩:=rc;unfold js;rcases ty with ty| ⟨_,_,_,rfl,_⟩<;>first| (cases ty<;> (intro z;simp[mf] at z))| (intro z;simp[mf] at z))
  |flt i=>exact absurd e (by obtain⟨k,rfl⟩:=rc;unfold js;rcases ty with ty| ⟨_,_,_,rfl,_⟩<;>first| (cases ty<;> (intro z;simp[mf] at z))| (intro z;simp[mf] at z))
 subst e2
 rcases ty with ty| ⟨a,D,rfl,rfl,hx,k⟩
 ·exact Pj I rx ty e fun tk=> ⟨.bl b,H,I.tok tk,rfl,q⟩
 ·cases(show u=Value.ref a from rx)
  exact Me I hx k e fun tk=> ⟨.bl b,H,I.tok tk,rfl,q⟩
noncomputable def ZF(K:a8):V→List V→Hp→VK→Prop:=fun x vs H Q=>∃l xs y,x=.ref l∧vs=[y]∧SqL K H l xs∧Di y=true∧xs.all Di=true∧Q (.int (xs.countP fun z=>Ke z y)) H
theorem HA:∀{xs:List V} {us:List Value},Vals xs us→xs.all Di=true→us.countP (bH x)=xs.countP fun y=>Ke y x
 |_,_,.nil,_=>rfl
 |y::xs,u::us,.cons r t,f=>by
  rw[tM,ki] at f
  rw[rZ,rZ,MY r f.1,HA t f.2]
theorem Kq:fE X "list.count" (ZF X.K):=by
 intro pins s σ H x vs v us Q I rx rv h
 obtain⟨l,xs,y,rfl,rfl,hl,fy,fx,q⟩:=h
 cases rx
 obtain⟨u,rfl,ru⟩:=rv.one
 obtain⟨its,r,p,hz⟩:=I.list hl
 obtain⟨⟨cls,dd,data,sl⟩,n,ho,hc,hdd,hd⟩:=id p
 simp only at hc hd
 subst hc hd
 refine qU F.slot_list_count ⟨_,ho,rfl⟩ F.entry_list_count (F.args_list_count_2 _ _) (SeqAt.list_countAt l its.toArray n dd sl u (bH y)) ⟨ho,fun z hz=>Gx ru fy r fx z (by simpa using hz),?_⟩
 rw[show its.toArray.toList=its from rfl,HA r fx]
 exact⟨.int _,H,I.tok _,⟨_,rfl⟩,q⟩
noncomputable def ZG(K:a8):V→List V→Hp→VK→Prop:=fun x vs H Q=>∃l xs y j,x=.ref l∧vs=[y]∧SqL K H l xs∧Di y=true∧xs.all Di=true∧(∃z,xs[j]?=some z∧Ke z y=true)∧(∀m z,m<j→xs[m]?=some z→Ke z y=false)∧Q (.int (j:Nat)) H
theorem Ra:fE X "list.index" (ZG X.K):=by
 intro pins s σ H x vs v us Q I rx rv h
 obtain⟨l,xs,y,j,rfl,rfl,hl,fy,fx,⟨z,ez,hit⟩,hno,q⟩:=h
 cases rx
 obtain⟨u,rfl,ru⟩:=rv.one
 obtain⟨its,r,p,hz⟩:=I.list hl
 obtain⟨⟨cls,dd,data,sl⟩,n,ho,hc,hdd,hd⟩:=id p
 simp only at hc hd
 subst hc hd
 have hlen:=r.length
 have hj:j<xs.length:=(jn.mp ez).1
 have at_:∀m (hm:m<its.toArray.size) z,xs[m]?=some z→bH y its.toArray[m]=Ke z y:=fun m hm z e=>by
  obtain⟨w',e',rw'⟩:=r.get e
  have:its.toArray[m]=w':=by
   have:its[m]'(by simpa using hm)=w':=lu.inj (by rw[←e'];simp)
   simpa using this
  rw[this]
  exact MY rw' (kA.mp fx z (i7 e))
 refine qU F.slot_list_index ⟨_,ho,rfl⟩ F.entry_list_index (F.args_list_index_2 _ _)
  (SeqAt.list_indexAt l its.toArray n dd sl u (bH y) j (by simpa[←hlen] using hj) (by have:=Fd;omega) ?_ ?_) ⟨ho,fun z hz=>Gx ru fy r fx z (by simpa using hz),⟨.int _,H,I.tok _,⟨_,rfl⟩,q⟩⟩
 ·rw[at_ j _ z ez];exact hit
 ·intro m hm hlt
  have hmx:m<xs.length:=by omega
  rw[at_ m hm xs[m] (by simp[hmx])]
  exact hno m _ hlt (by simp[hmx])
noncomputable def ZH(X:Cx)(E:XK)(v:V)(vs:List V)(H:Hp)(Q:VK):Prop:=∃k f fd ps sp,v=.ref f∧FnOk X.prog X.w X.K X.mg X.base (CXe X.prog X.w) k f fd ps sp∧Room k X.A∧lF X.K (.ref f)=true∧Binds X.K fd ps []∧sp vs H Q E
noncomputable def ZI(X:Cx)(W:St→XK)(tf:TE)(t:TA):TE:=fun σ H Q=>tf σ H fun v H1=> (∃f,v=.ref f∧lF X.K (.ref f)=true)∧t σ H1 fun vs H2=>ZH X (W σ) v vs H2 Q
theorem Rb(xo:XFly X W)(hf:PE X fe tf)(ha:PA X (e::es) t)
  (hev:eval (.Call fe (e::es) [] pos) X.env=(do ur pos (←eval fe X.env) [] (mS pos (i5 (e::es) X.env)) (rT pos (pQ [] X.env))):=by rfl)
  (he:i5 (e::es) X.env=(false,eval e X.env)::i5 es X.env:=by rfl) (hpl:(mS pos (i5 es X.env)).any (·.1)=false:=by rfl):PE X (.Call fe (e::es) [] pos) (ZI X W tf t):=by
 intro pins s σ H Q I h
 refine Call_ (Az (hf pins s σ H _ I h) fun fv s0 ⟨v,H0,I0,r0,⟨f,ef,hk⟩,q0⟩=>?_) hev
 subst ef
 cases r0
 refine qY (h₀:=X.base) I0.ok.mod.kin hk (Az (ha pos pins s0 σ H0 _ I0 q0) fun us s1 ⟨vs,H1,I1,r,q⟩=> ⟨I1.kIn,?_⟩) he hpl
 obtain⟨k,f',fd,ps,sp,ef,F,hr,hk',hb,q⟩:=q
 cases ef
 have r2:Vals vs (us++[]):=by rw[mX];exact r
 have hl:(us++[]).length=ps.length:=by rw[←r2.length];exact F.len _ _ _ _ q
 refine pJ (oD (F.run X.A X.stack s1 H1 ⟨us,[]⟩ (us++[]) vs Q (W σ) hr I1.env0 (hb s1 us I1.kIn hl) r2 q) fun r s' hq=>?_)
 cases r with
 |error e=>exact xo.fly pins σ H1 s1 e s' I1 hq
 |ok fl=>
  cases fl with
  |ret u=>exact I1.after hq
  |next=>exact lG hq
  |brk=>exact lG hq
  |cont=>exact lG hq
end
end L2
namespace StT
local macro_rules | `(tactic| omega) => `(tactic| first | lia | omega)
open PySem PySem.SetTable
theorem Mf:∀(m:Nat) (l:List Nat),(∀e,e<m→e∈l)→m≤l.length
 |0,_,_=>kZ _
 |m+1,l,h=>by
  have hm:m∈l:=h m (nQ m)
  have ih:=Mf m (l.erase m) fun e he=>by
   rw[List.mem_erase_of_ne (ke he)]
   exact h e (mq he)
  rw[List.length_erase_of_mem hm] at ih
  have:0<l.length:=p9 hm
  omega
theorem Be:∀(n:Nat) (l:List Nat),l.Nodup→(∀x∈l,x<n)→l.length≤n
 |0,[],_,_=>jm _
 |0,x::_,_,h=>absurd (h x j4) (pI _)
 |n+1,l,nd,h=>by
  have ih:=Be n (l.erase n) (nd.erase n) fun x hx=>by
   have h1:=h x (List.mem_of_mem_erase hx)
   have h2:x≠n:=fun e=>by
    subst e
    exact absurd hx (List.Nodup.not_mem_erase nd)
   omega
  by_cases hn:n∈l
  ·rw[List.length_erase_of_mem hn] at ih
   omega
  ·rw[List.erase_of_not_mem hn] at ih
   omega
noncomputable def Rc(xs:Array Nat):Prop:=xs.toList.Pairwise (· < ·)
theorem HB(r:Rc xs){j:Nat}(hi:xs[i]?=some x)(hj:xs[j]?=some y)(h:i<j):x<y:=by
 obtain⟨h1,rfl⟩:=lg.mp hi
 obtain⟨h2,rfl⟩:=lg.mp hj
 have:=kW.mp r i j (by simpa using h1) (by simpa using h2) h
 simpa using this
theorem JT:∀(fuel lo hi:Nat),hi-lo≤fuel→lo≤hi→hi≤xs.size→(∀i x,i<lo→xs[i]?=some x→x<j)→(∀i x,hi≤i→xs[i]?=some x→j≤x)→Rc xs→
  (uu xs j fuel lo hi≤xs.size)∧(∀i x,i<uu xs j fuel lo hi→xs[i]?=some x→x<j)∧∀i x,uu xs j fuel lo hi≤i→xs[i]?=some x→j≤x
 |0,lo,hi,hf,hlo,hhi,h1,h2,r=>by
  have:lo=hi:=by omega
  subst this
  exact⟨hhi,h1,h2⟩
 |fuel+1,lo,hi,hf,hlo,hhi,h1,h2,r=>by
  unfold uu
  by_cases hl:lo<hi
  ·rw[if_pos hl]
   have hm:(lo+hi)/2<xs.size:=by omega
   have em:xs[(lo+hi)/2]?=some xs[(lo+hi)/2]:=by simp[hm]
   have eg:xs.getD ((lo+hi)/2) j=xs[(lo+hi)/2]:=by simp[ql,hm]
   dsimp only
   rw[eg]
   by_cases hc:xs[(lo+hi)/2]<j
   ·rw[if_pos hc]
    refine JT fuel _ _ (by omega) (by omega) hhi (fun i x hi' e=>?_) h2 r
    by_cases hx:i=(lo+hi)/2
    ·subst hx
     rw[em] at e;cases e
     exact hc
    ·exact qK (HB r e em (by omega)) hc
   ·rw[if_neg hc]
    refine JT fuel _ _ (by omega) (by omega) (by omega) h1 (fun i x hi' e=>?_) r
    by_cases hx:i=(lo+hi)/2
    ·subst hx
     rw[em] at e;cases e
     omega
    ·have:=HB r em e (by omega)
     omega
  ·rw[if_neg hl]
   have:lo=hi:=by omega
   subst this
   exact⟨hhi,h1,h2⟩
theorem DO(r:Rc xs):(below xs j≤xs.size)∧(∀i x,i<below xs j→xs[i]?=some x→x<j)∧∀i x,below xs j≤i→xs[i]?=some x→j≤x:=
 JT _ _ _ (by omega) (by omega) (jm _) (fun i x h=>absurd h (pI _)) (fun i x h e=>by
  have:=(lg.mp e).1
  omega) r
theorem CZ(r:Rc xs)(h:xs[i]?=some j):below xs j=i:=by
 obtain⟨b1,b2,b3⟩:=DO (j:=j) r
 have hi:i<xs.size:=(lg.mp h).1
 apply Nat.le_antisymm
 ·apply qi
  intro hc
  exact absurd (b2 i j hc h) (lH _)
 ·apply qi
  intro hc
  have e:xs[below xs j]?=some xs[below xs j]:=by simp[qK hc hi]
  have h1:=b3 _ _ (jm _) e
  have h2:=HB r e h hc
  omega
theorem BJ(xs:Array α)(p:Nat)(x:α):(mP xs p x).toList=xs.toList.take p++x::xs.toList.drop p:=by
 unfold mP
 simp
 rw[p8 (by simp)]
theorem getElem?_insertAt(xs:Array α)(p:Nat)(x:α)(hp:p≤xs.size)(i:Nat):(mP xs p x)[i]?=if i<p then xs[i]? else if i=p then some x else xs[i-1]?:=by
 have e:(mP xs p x)[i]?=(mP xs p x).toList[i]?:=by simp
 rw[e,BJ]
 have hl:(xs.toList.take p).length=p:=by simp[hp]
 by_cases h1:i<p
 ·rw[if_pos h1,kX (by omega),oj h1]
  simp
 ·rw[if_neg h1,ku (by omega),hl]
  by_cases h2:i=p
  ·subst h2
   simp
  ·rw[if_neg h2]
   have:i-p=(i-p-1)+1:=by omega
   rw[this,oA,mY]
   have:p+(i-p-1)=i-1:=by omega
   rw[this]
   simp
theorem Cp(xs:Array α)(p:Nat)(x:α)(hp:p≤xs.size):(mP xs p x).size=xs.size+1:=by
 rw[←i8,BJ]
 simp
 omega
theorem Mh(r:Rc xs)(hj:∀i:Nat,xs[i]?≠some j):Rc (mP xs (below xs j) j):=by
 obtain⟨b1,b2,b3⟩:=DO (j:=j) r
 unfold Rc
 rw[BJ]
 have lt:∀y∈xs.toList.take (below xs j),y<j:=fun y hy=>by
  obtain⟨i,hi⟩:=lj hy
  have hlt:i<below xs j:=by
   have:=(jn.mp hi).1
   simp at this;omega
  rw[oj hlt] at hi
  exact b2 i y hlt (by simpa using hi)
 have gt:∀y∈xs.toList.drop (below xs j),j<y:=fun y hy=>by
  obtain⟨i,hi⟩:=lj hy
  rw[mY] at hi
  have hi':xs[below xs j+i]?=some y:=by simpa using hi
  have h1:=b3 _ y (Nat.le_add_right _ _) hi'
  have h2:y≠j:=fun e=>hj _ (e▸hi')
  omega
 refine qz.mpr ⟨lD.sublist (List.take_sublist _ _) r,oG.mpr ⟨gt,lD.sublist (List.drop_sublist _ _) r⟩,fun a ha b hb=>?_⟩
 rcases ju.mp hb with rfl|hb
 ·exact lt a ha
 ·exact qK (lt a ha) (gt b hb)
noncomputable def adv(m:Nat)(p:Probe):Probe:=(lr.mk m #[] #[] 0 false 0 false).advance p
theorem HC(t:lr)(p:Probe):t.advance p=adv t.mask p:=rfl
theorem HD(h:0<p.more):adv m p=⟨p.j+1,p.more-1,p.i,p.perturb,p.dummy⟩:=by
 unfold adv advance
 exact if_pos h
theorem HE(h:¬0<p.more):adv m p=⟨(leap m p.i p.perturb).1,oV m (leap m p.i p.perturb).1- (leap m p.i p.perturb).1,(leap m p.i p.perturb).1,(leap m p.i p.perturb).2,p.dummy⟩:=by
 unfold adv advance
 exact if_neg h
noncomputable def advN(m:Nat):Nat→Probe→Probe
 |0,p=>p
 |n+1,p=>advN m n (adv m p)
theorem Ca(m:Nat):∀(a b:Nat) (p:Probe),advN m (a+b) p=advN m b (advN m a p)
 |0,b,p=>by rw[ph];rfl
 |a+1,b,p=>by
  rw[t8]
  exact Ca m a b (adv m p)
theorem Ih(m n:Nat)(p:Probe):advN m (n+1) p=adv m (advN m n p):=Ca m n 1 p
noncomputable def st(m:Nat)(x:Nat×Nat)(d:Option Nat):Probe:={j:=x.1,more:=oV m x.1-x.1,i:=x.1,perturb:=x.2,dummy:=d}
theorem Kr(t:lr)(h:Int):t.probeStart h=st t.mask (bits h%(t.mask+1),bits h) none:=rfl
noncomputable def Mi(m:Nat):Nat→Nat×Nat→Nat×Nat
 |0,x=>x
 |n+1,x=>Mi m n (leap m x.1 x.2)
theorem Fh(m i:Nat)(h:i≤m):i+(oV m i-i)≤m∧oV m i-i≤9:=by
 unfold oV
 split<;>omega
theorem JU(m:Nat):∀(k:Nat) (p:Probe),k≤p.more→advN m k p={p with j:=p.j+k,more:=p.more-k}
 |0,p,_=>rfl
 |k+1,p,h=>by
  show advN m k (adv m p)=_
  have e:adv m p={p with j:=p.j+1,more:=p.more-1}:=HD (by omega)
  rw[e,JU m k _ (by show k≤p.more-1;omega)]
  show({p with j:=p.j+1+k,more:=p.more-1-k}:Probe)={p with j:=p.j+(k+1),more:=p.more- (k+1)}
  rw[show p.j+1+k=p.j+(k+1) by omega,show p.more-1-k=p.more- (k+1) by omega]
theorem HF(m:Nat)(p:Probe):advN m (p.more+1) p=st m (leap m p.i p.perturb) p.dummy:=by
 rw[Ih,JU m p.more p (jm _)]
 rw[HE (by show¬0<p.more-p.more;omega)]
 rfl
theorem HG(m:Nat):∀(L:Nat) (x:Nat×Nat),x.1≤m→(Mi m L x).1≤m
 |0,_,h=>h
 |L+1,x,_=>HG m L _ (by show(x.1*5+1+x.2/32)%(m+1)≤m;have:=tQ (x.1*5+1+x.2/32) (show 0<m+1 by omega);omega)
theorem Re(m:Nat):∀(L:Nat) (x:Nat×Nat) (d:Option Nat),x.1≤m→∃n,n≤10*L∧advN m n (st m x d)=st m (Mi m L x) d
 |0,x,d,_=> ⟨0,by omega,rfl⟩
 |L+1,x,d,h=>by
  have hl:(leap m x.1 x.2).1≤m:=HG m 1 x h
  obtain⟨n,hn,e⟩:=Re m L (leap m x.1 x.2) d hl
  have h9:=(Fh m x.1 h).2
  refine⟨(st m x d).more+1+n,?_,?_⟩
  ·show oV m x.1-x.1+1+n≤_;omega
  ·rw[Ca,HF]
   exact e
theorem OD(m:Nat):∀(a b:Nat) (x:Nat×Nat),Mi m (a+b) x=Mi m b (Mi m a x)
 |0,b,x=>by rw[ph];rfl
 |a+1,b,x=>by rw[t8];exact OD m a b _
theorem OE(m:Nat):∀(L:Nat) (x:Nat×Nat),(Mi m L x).2=x.2/32^L
 |0,x=>by simp[Mi]
 |L+1,x=>by
  show(Mi m L (leap m x.1 x.2)).2=_
  rw[OE m L]
  show x.2/32/32^L=x.2/32^(L+1)
  rw[Nat.div_div_eq_div_mul,Nat.pow_succ,Nat.mul_comm]
noncomputable def bI(m:Nat):Nat→Nat→List Nat
 |0,_=> []
 |n+1,i=>i::bI m n ((i*5+1)%(m+1))
noncomputable def fN(m:Nat):Nat→Nat→Nat
 |0,i=>i
 |n+1,i=>fN m n ((i*5+1)%(m+1))
theorem cL(m:Nat):∀(L i:Nat),Mi m L (i,0)=(fN m L i,0)
 |0,_=>rfl
 |L+1,i=>by
  show Mi m L ((i*5+1+0/32)%(m+1),0/32)=_
  rw[Nat.zero_div,Nat.add_zero]
  exact cL m L _
theorem JV(m:Nat):∀(a b x:Nat),fN m (a+b) x=fN m b (fN m a x)
 |0,b,x=>by rw[ph];rfl
 |a+1,b,x=>by rw[t8];exact JV m a b _
theorem JW(m:Nat):∀(n i e:Nat),e∈bI m n i→∃k,k<n∧fN m k i=e
 |0,_,_,h=>by simp[bI] at h
 |n+1,i,e,h=>by
  rcases ju.mp h with rfl|h
  ·exact⟨0,sj _,rfl⟩
  ·obtain⟨k,hk,hf⟩:=JW m n _ e h
   exact⟨k+1,by omega,hf⟩
noncomputable def Cb(m:Nat):Prop:=m=7∨m=31∨m=127∨m=511
theorem gL(h:Cb m):fN m (m+1) 0=0∧∀e,e≤m→e∈bI m (m+1) 0:=by
 have all:∀k,((jr (k+1)).all fun e=> (bI k (k+1) 0).contains e)=true→∀e,e≤k→e∈bI k (k+1) 0:=fun k hk e he=>by
  have:=kA.mp hk e (ky.mpr (Nat.lt_succ_of_le he))
  exact List.contains_iff_mem.mp this
 rcases h with rfl|rfl|rfl|rfl
 ·exact⟨by decide+kernel,all 7 (by decide+kernel)⟩
 ·exact⟨by decide+kernel,all 31 (by decide+kernel)⟩
 ·exact⟨by decide+kernel,all 127 (by decide+kernel)⟩
 ·exact⟨by decide+kernel,all 511 (by decide+kernel)⟩
theorem iy(h:Cb m)(hi:i≤m)(he:e≤m):∃k,k≤m∧fN m k i=e:=by
 obtain⟨c0,call⟩:=gL h
 obtain⟨a,ha,ea⟩:=JW m _ _ _ (call i hi)
 obtain⟨b,hb,eb⟩:=JW m _ _ _ (call e he)
 by_cases hab:a≤b
 ·refine⟨b-a,by omega,?_⟩
  rw[←ea,←JV,show a+(b-a)=b by omega]
  exact eb
 ·refine⟨m+1-a+b,by omega,?_⟩
  rw[←ea,←JV,show a+(m+1-a+b)=(m+1)+b by omega,JV,c0]
  exact eb
structure Pr(m:Nat)(p:Probe):Prop where
 ij:p.j+p.more≤m
 more:p.more≤9
 i:p.i≤m
 pert:p.perturb<2^64
theorem Pr.st(h1:x.1≤m)(h2:x.2<2^64):Pr m (st m x d):=⟨(Fh m x.1 h1).1,(Fh m x.1 h1).2,h1,h2⟩
theorem Pr.adv(h:Pr m p):Pr m (adv m p):=by
 by_cases hm:0<p.more
 ·rw[HD hm]
  exact⟨by have:=h.ij;show p.j+1+(p.more-1)≤m;omega,by have:=h.more;show p.more-1≤9;omega,h.i,h.pert⟩
 ·rw[HE hm]
  have hl:(leap m p.i p.perturb).1≤m:=HG m 1 (p.i,p.perturb) h.i
  exact⟨(Fh m _ hl).1,(Fh m _ hl).2,hl,qZ (Nat.div_le_self _ _) h.pert⟩
theorem Pr.advN:∀{n:Nat} {p:Probe},Pr m p→Pr m (advN m n p)
 |0,_,h=>h
 |n+1,_,h=>Pr.advN (n:=n) h.adv
theorem Pr.j(h:Pr m p):p.j≤m:=by have:=h.ij;omega
theorem OF(h:Int):bits h<2^64:=by
 unfold bits
 have h1:=oH h (show(2^64:Int)≠0 by decide)
 have h2:=nV h (show(0:Int)<2^64 by decide)
 have h3:((2:Nat)^64:Nat)=18446744073709551616:=by decide
 omega
noncomputable def start(m:Nat)(h:Int):Probe:=st m (bits h%(m+1),bits h) none
theorem Pr.start(m:Nat)(h:Int):Pr m (start m h):=Pr.st (by show bits h%(m+1)≤m;have:=tQ (bits h) (show 0<m+1 by omega);omega) (OF h)
theorem cM(h:q<2^64):q/32^13=0:=Nat.div_eq_of_lt (kh h (by decide))
theorem Xh(hm:Cb m)(h1:x.1≤m)(h2:x.2<2^64)(he:e≤m):∃L,L≤m+13∧(Mi m L x).1=e:=by
 have e13:Mi m 13 x=((Mi m 13 x).1,0):=by
  have:=OE m 13 x
  rw[cM h2] at this
  rw[←this]
 obtain⟨k,hk,ek⟩:=iy hm (HG m 13 x h1) he
 refine⟨13+k,by omega,?_⟩
 rw[OD,e13,cL]
 exact ek
theorem Xj(hm:Cb m)(h:Pr m p)(he:e≤m):∃n,n<10*(m+15)∧(advN m n p).j=e:=by
 have hl:(leap m p.i p.perturb).1≤m:=HG m 1 (p.i,p.perturb) h.i
 obtain⟨L,hL,eL⟩:=Xh hm (x:=leap m p.i p.perturb) hl (qZ (Nat.div_le_self _ _) h.pert) he
 obtain⟨n,hn,en⟩:=Re m L (leap m p.i p.perturb) p.dummy hl
 refine⟨p.more+1+n,by have:=h.more;omega,?_⟩
 rw[Ca,HF,en]
 exact eL
theorem Pp(m:Nat)(p:Probe):(adv m p).dummy=p.dummy:=by
 by_cases h:0<p.more
 ·rw[HD h]
 ·rw[HE h]
theorem Eb(m:Nat):∀(n:Nat) (p:Probe),(advN m n p).dummy=p.dummy
 |0,_=>rfl
 |n+1,p=> (Eb m n _).trans (Pp m p)
end StT
namespace StT
local macro_rules | `(tactic| omega) => `(tactic| first | lia | omega)
open PySem PySem.SetTable
noncomputable def Ks(t:lr)(j:Nat):Prop:=∃i:Nat,t.place[i]?=some j
structure Tb(t:lr)(hs:List Int):Prop where
 mask:Cb t.mask
 dum:t.dummies= #[]
 ris:Rc t.place
 le:∀i j:Nat,t.place[i]?=some j→j≤t.mask
 size:t.place.size=hs.length
 fnd:∀(i j:Nat) (h:Int),t.place[i]?=some j→hs[i]?=some h→∃n,(advN t.mask n (start t.mask h)).j=j∧∀k,k<n→Ks t (advN t.mask k (start t.mask h)).j
theorem Tb.odd(T:Tb t hs):t.mask%2=1:=by rcases T.mask with h|h|h|h<;>rw[h]
theorem Tb.low(T:Tb t hs):7≤t.mask:=by rcases T.mask with h|h|h|h<;>omega
theorem Tb.live(T:Tb t hs)(h:t.place[i]?=some j):t.slot j=.live i:=by
 unfold slot
 rw[CZ T.ris h]
 simp only[h,beq_self_eq_true,if_true]
theorem Tb.empty(T:Tb t hs)(h:¬Ks t j):t.slot j=.empty:=by
 unfold slot
 have h1:(t.place[below t.place j]?==some j)=false:=by
  rw[beq_eq_false_iff_ne]
  exact fun e=>h ⟨_,e⟩
 have h2:has t.dummies j=false:=by
  unfold has
  rw[T.dum]
  rfl
 simp only[h1,h2,j9,if_false]
theorem Tb.room(T:Tb t hs)(h:hs.length≤t.mask):∃e,e≤t.mask∧¬Ks t e:=by
 apply mQ
 intro hn
 have:=Mf (t.mask+1) t.place.toList fun e he=>by
  have:Ks t e:=mQ fun hc=>hn ⟨e,by omega,hc⟩
  obtain⟨i,hi⟩:=this
  exact i7 (i:=i) (by simpa using hi)
 rw[i8,T.size] at this
 omega
theorem VS(T:Tb t hs)(fuel:Nat)(h1:t.place[i]?=some p.j)(h2:hashAt i≠h):qx t hashAt h (fuel+1) p=qx t hashAt h fuel (adv t.mask p):=by
 rw[qx,T.live h1]
 simp only[beq_iff_eq,if_neg h2,HC]
theorem Kt(T:Tb t hs):∀(n fuel:Nat) (p:Probe),(∀k,k<n→∃i,t.place[i]?=some (advN t.mask k p).j∧hashAt i≠h)→qx t hashAt h (fuel+n) p=qx t hashAt h fuel (advN t.mask n p)
 |0,_,_,_=>rfl
 |n+1,fuel,p,hk=>by
  obtain⟨i,h1,h2⟩:=hk 0 (sj _)
  have h1:t.place[i]?=some p.j:=h1
  rw[←tL,VS T _ h1 h2]
  exact Kt T n fuel _ fun k hk'=>hk (k+1) (Nat.succ_lt_succ hk')
theorem Rf(T:Tb t hs)(h1:¬Ks t p.j):qx t hashAt h (fuel+1) p=some (.empty p.j p.dummy):=by
 rw[qx,T.empty h1]
theorem ZJ(T:Tb t hs)(h1:t.place[i]?=some p.j)(h2:hashAt i=h):qx t hashAt h (fuel+1) p=some (.candidate p.j i (adv t.mask p)):=by
 rw[qx,T.live h1]
 simp only[beq_iff_eq,if_pos h2,HC]
theorem least{S:Nat→Prop}:∀(n:Nat),S n→∃m,m≤n∧S m∧∀k,k<m→¬S k:=by
 intro n
 induction n using sH with
 |ind n ih=>
  intro hn
  by_cases h:∃k,k<n∧S k
  ·obtain⟨k,hk,sk⟩:=h
   obtain⟨m,h1,h2,h3⟩:=ih k hk sk
   exact⟨m,by omega,h2,h3⟩
  ·exact⟨n,jm _,hn,fun k hk sk=>h ⟨k,hk,sk⟩⟩
theorem GJ(T:Tb t hs)(hl:hs.length≤t.mask)(pr:Pr t.mask p)(hashAt:Nat→Int)(h:Int):∃n,(∀k,k<n→∃i,t.place[i]?=some (advN t.mask k p).j∧hashAt i≠h)∧
  ((¬Ks t (advN t.mask n p).j∧t.probe hashAt h p=some (.empty (advN t.mask n p).j p.dummy))∨∃i,t.place[i]?=some (advN t.mask n p).j∧hashAt i=h∧t.probe hashAt h p=some (.candidate (advN t.mask n p).j i (advN t.mask (n+1) p))):=by
 obtain⟨e,he,hne⟩:=T.room hl
 obtain⟨n0,hn0,en0⟩:=Xj T.mask pr he
 obtain⟨n,hn,sn,ln⟩:=least (S:=fun n=>¬Ks t (advN t.mask n p).j∨∃i,t.place[i]?=some (advN t.mask n p).j∧hashAt i=h) n0 (.inl (by rw[en0];exact hne))
 have pre:∀k,k<n→∃i,t.place[i]?=some (advN t.mask k p).j∧hashAt i≠h:=fun k hk=>by
  have:=ln k hk
  have ho:Ks t (advN t.mask k p).j:=mQ fun hc=>this (.inl hc)
  obtain⟨i,hi⟩:=ho
  exact⟨i,hi,fun z=>this (.inr ⟨i,hi,z⟩)⟩
 have hfuel:10*turns t.mask=(10*(t.mask+15)-n-1+1)+n:=by unfold turns;omega
 refine⟨n,pre,?_⟩
 unfold probe
 rw[hfuel,Kt T n _ p pre]
 rcases sn with sn| ⟨i,h1,h2⟩
 ·exact .inl ⟨sn,by rw[Rf T sn,Eb]⟩
 ·exact .inr ⟨i,h1,h2,by rw[ZJ T h1 h2,Ih]⟩
theorem Tb.put(T:Tb t hs)(hfree:¬Ks t (advN t.mask n (start t.mask h)).j)(hway:∀k,k<n→Ks t (advN t.mask k (start t.mask h)).j):
  Tb (t.put (advN t.mask n (start t.mask h)).j).1 (hs.take (t.put (advN t.mask n (start t.mask h)).j).2++h::hs.drop (t.put (advN t.mask n (start t.mask h)).j).2)∧(t.put (advN t.mask n (start t.mask h)).j).2≤hs.length∧
   (t.put (advN t.mask n (start t.mask h)).j).1.mask=t.mask∧(t.put (advN t.mask n (start t.mask h)).j).1.plain=t.plain∧(t.put (advN t.mask n (start t.mask h)).j).1.led=t.led∧(t.put (advN t.mask n (start t.mask h)).j).1.moves=t.moves:=by
 have hj:(advN t.mask n (start t.mask h)).j≤t.mask:=(Pr.start t.mask h).advN.j
 generalize hJ:(advN t.mask n (start t.mask h)).j=J at*
 have hd:has t.dummies J=false:=by
  unfold has
  rw[T.dum]
  rfl
 have hnot:∀i:Nat,t.place[i]?≠some J:=fun i e=>hfree ⟨i,e⟩
 have hb:=(DO (j:=J) T.ris).1
 have e1:(t.put J).1={t with place:=mP t.place (below t.place J) J}:=by
  unfold lr.put
  simp only[hd,j9,if_false]
 have e2:(t.put J).2=below t.place J:=rfl
 rw[e1,e2]
 have ix:=getElem?_insertAt t.place (below t.place J) J hb
 have hl:(hs.take (below t.place J)).length=below t.place J:=by rw[kH,←T.size];omega
 have ih:∀i:Nat,(hs.take (below t.place J)++h::hs.drop (below t.place J))[i]?=if i<below t.place J then hs[i]? else if i=below t.place J then some h else hs[i-1]?:=fun i=>by
  by_cases h1:i<below t.place J
  ·rw[if_pos h1,kX (by omega),oj h1]
  ·rw[if_neg h1,ku (by omega),hl]
   by_cases h2:i=below t.place J
   ·subst h2;simp
   ·rw[if_neg h2,show i-below t.place J=(i-below t.place J-1)+1 by omega,oA,mY]
    rw[show below t.place J+(i-below t.place J-1)=i-1 by omega]
 have occ:∀x,Ks t x→Ks {t with place:=mP t.place (below t.place J) J} x:=fun x ⟨i,hi⟩=>by
  by_cases h1:i<below t.place J
  ·exact⟨i,by show(mP t.place (below t.place J) J)[i]?=some x;rw[ix,if_pos h1];exact hi⟩
  ·exact⟨i+1,by show(mP t.place (below t.place J) J)[i+1]?=some x;rw[ix,if_neg (by omega),if_neg (by omega)];exact hi⟩
 refine⟨⟨T.mask,T.dum,Mh T.ris hnot,fun i j e=>?_,?_,fun i j h' e eh=>?_⟩,by rw[←T.size];exact hb,rfl,rfl,rfl,rfl⟩
 ·have e:(mP t.place (below t.place J) J)[i]?=some j:=e
  rw[ix] at e
  by_cases h1:i<below t.place J
  ·rw[if_pos h1] at e;exact T.le i j e
  ·rw[if_neg h1] at e
   by_cases h2:i=below t.place J
   ·rw[if_pos h2] at e;cases e;exact hj
   ·rw[if_neg h2] at e;exact T.le _ j e
 ·show(mP t.place (below t.place J) J).size=_
  rw[Cp _ _ _ hb,T.size]
  have hb':below t.place J≤hs.length:=by rw[←T.size];exact hb
  rw[j8,hl,km,m8]
  omega
 ·have e:(mP t.place (below t.place J) J)[i]?=some j:=e
  rw[ix] at e
  rw[ih] at eh
  by_cases h1:i<below t.place J
  ·rw[if_pos h1] at e eh
   obtain⟨k,ek,wk⟩:=T.fnd i j h' e eh
   exact⟨k,ek,fun k' hk=>occ _ (wk k' hk)⟩
  ·rw[if_neg h1] at e eh
   by_cases h2:i=below t.place J
   ·rw[if_pos h2] at e eh
    cases e;cases eh
    exact⟨n,hJ,fun k hk=>occ _ (hway k hk)⟩
   ·rw[if_neg h2] at e eh
    obtain⟨k,ek,wk⟩:=T.fnd _ j h' e eh
    exact⟨k,ek,fun k' hk=>occ _ (wk k' hk)⟩
theorem Tb.fresh(f mv:Nat)(led:Bool):Tb (lr.fresh f mv led) []:=by
 refine⟨.inl rfl,rfl,lD.nil,fun i j e=>?_,rfl,fun i j h e=>?_⟩
 ·have e:(#[]:Array Nat)[i]?=some j:=e
  simp at e
 ·have e:(#[]:Array Nat)[i]?=some j:=e
  simp at e
end StT
namespace StT
local macro_rules | `(tactic| omega) => `(tactic| first | lia | omega)
open PySem PySem.SetTable
structure LC(m:Nat)(owner:Array (Option Nat))(hs:List Int):Prop where
 size:owner.size=m+1
 put:∀(r:Nat) (h:Int),hs[r]?=some h→∃j,j≤m∧owner[j]?=some (some r)∧∃n,(advN m n (start m h)).j=j∧∀k,k<n→∃r',owner[(advN m k (start m h)).j]?=some (some r')
 lt:∀j r:Nat,owner[j]?=some (some r)→r<hs.length
 inj:∀j j' r:Nat,owner[j]?=some (some r)→owner[j']?=some (some r)→j=j'
section
variable {m:Nat} {owner:Array (Option Nat)} {hs:List Int}
theorem JX(hz:owner.size=m+1){x:Nat}(hx:x≤m):owner.getD x (some 0)=owner[x]'(by omega)∧owner[x]?=some (owner[x]'(by omega)):=by
 have hx':x<owner.size:=by omega
 exact⟨by simp[ql,hx'],by simp[hx']⟩
theorem Xl(hz:owner.size=m+1)(hx:x≤m)(h:(owner.getD x (some 0)).isNone=false):∃r,owner[x]?=some (some r):=by
 obtain⟨h1,h2⟩:=JX hz hx
 rw[h1] at h
 cases e:owner[x]'(by omega) with
 |none=>rw[e] at h;cases h
 |some r=>exact⟨r,by rw[h2,e]⟩
theorem VT(hz:owner.size=m+1)(hx:x≤m)(h:(owner.getD x (some 0)).isNone=true):owner[x]?=some none:=by
 obtain⟨h1,h2⟩:=JX hz hx
 rw[h1] at h
 cases e:owner[x]'(by omega) with
 |none=>rw[h2,e]
 |some r=>rw[e] at h;cases h
theorem Mj(hk:k≤oV m i-i):(advN m k (st m (i,q) none)).j=i+k:=by
 rw[JU m k _ hk]
 rfl
theorem Ii(m i:Nat):i≤oV m i:=by
 unfold oV
 split<;>omega
theorem Ij(hz:owner.size=m+1):∀(fuel i q:Nat),i≤m→layClean.free m owner fuel i q=some j→
  ∃n,(advN m n (st m (i,q) none)).j=j∧(∀k,k<n→∃r,owner[(advN m k (st m (i,q) none)).j]?=some (some r))∧owner[j]?=some none∧j≤m
 |0,i,q,_,e=>by simp[layClean.free] at e
 |fuel+1,i,q,hi,e=>by
  have hr:=Fh m i hi
  have hge:=Ii m i
  rw[layClean.free] at e
  cases hf:(jr (oV m i+1-i)).find? fun k=> (owner.getD (i+k) (some 0)).isNone with
  |some k=>
   rw[hf] at e
   cases e
   have hk1:(owner.getD (i+k) (some 0)).isNone=true:=by simpa using List.find?_some hf
   have hkm:k<oV m i+1-i:=ky.mp (List.mem_of_find?_eq_some hf)
   refine⟨k,Mj (by omega),fun k' hk'=>?_,VT hz (by omega) hk1,by omega⟩
   rw[Mj (by omega)]
   refine Xl hz (by omega) ?_
   have:=List.find?_range_eq_some.mp hf
   have h3:=this.2.2 k' hk'
   simpa using h3
  |none=>
   rw[hf] at e
   have hl:(leap m i q).1≤m:=HG m 1 (i,q) hi
   obtain⟨n,h1,h2,h3⟩:=Ij hz fuel _ _ hl e
   have all:∀k,k≤oV m i-i→∃r,owner[(advN m k (st m (i,q) none)).j]?=some (some r):=fun k hk=>by
    rw[Mj hk]
    refine Xl hz (by omega) ?_
    have:=rh.mp hf k (ky.mpr (by omega))
    exact Bool.eq_false_iff.mpr this
   have hleap:advN m (oV m i-i+1) (st m (i,q) none)=st m (leap m i q) none:=HF m (st m (i,q) none)
   refine⟨(oV m i-i+1)+n,?_,fun k hk=>?_,h3⟩
   ·rw[Ca,hleap]
    exact h1
   ·by_cases hk':k≤oV m i-i
    ·exact all k hk'
    ·have e2:k=(oV m i-i+1)+(k- (oV m i-i+1)):=by omega
     rw[e2,Ca,hleap]
     exact h2 _ (by omega)
theorem Ik(hz:owner.size=m+1)(he:owner[e]?=some none)(hem:e≤m):∀(fuel L i q:Nat),i≤m→L<fuel→(Mi m L (i,q)).1=e→layClean.free m owner fuel i q≠none
 |0,L,_,_,_,h,_=>absurd h (pI _)
 |fuel+1,L,i,q,hi,hL,eL=>by
  rw[layClean.free]
  have hge:=Ii m i
  cases hf:(jr (oV m i+1-i)).find? fun k=> (owner.getD (i+k) (some 0)).isNone with
  |some k=>simp
  |none=>
   cases L with
   |zero=>
    have eL:i=e:=eL
    subst eL
    have:=rh.mp hf 0 (ky.mpr (by omega))
    obtain⟨h1,h2⟩:=JX hz hem
    rw[he] at h2
    have h2:=lu.inj h2
    rw[Nat.add_zero,h1,←h2] at this
    exact absurd rfl this
   |succ L=>
    exact Ik hz he hem fuel L _ _ (HG m 1 (i,q) hi) (by omega) eL
noncomputable def Ey(m:Nat)(acc:Option (Array (Option Nat)×Nat))(h:Int):Option (Array (Option Nat)×Nat):=do
 let(owner,k)←acc
 let j←layClean.free m owner (turns m) (bits h%(m+1)) (bits h)
 pure (owner.setIfInBounds j (some k),k+1)
theorem Ku(m:Nat)(hs:Array Int):layClean m hs=(hs.toList.foldl (Ey m) (some (sL (m+1) none,0))).map (·.1):=by
 unfold layClean
 rw[Array.foldl_toList]
 rfl
theorem LC.room(c:LC m owner hs)(h:hs.length≤m):∃e,e≤m∧owner[e]?=some none:=by
 apply mQ
 intro hn
 have all:∀e,e≤m→∃r,owner[e]?=some (some r):=fun e he=>by
  have hz:=c.size
  cases q:owner[e]'(by omega) with
  |none=>exact absurd ⟨e,he,by rw[←q];simp[show e<owner.size by omega]⟩ hn
  |some r=>exact⟨r,by rw[←q];simp[show e<owner.size by omega]⟩
 have hf:∀e,∃r,e≤m→owner[e]?=some (some r):=fun e=>by
  by_cases he:e≤m
  ·obtain⟨r,hr⟩:=all e he;exact⟨r,fun _=>hr⟩
  ·exact⟨0,fun z=>absurd z he⟩
 obtain⟨f,hf⟩:=Classical.axiomOfChoice hf
 have hl:=Be hs.length ((jr (m+1)).map f) (by
  refine rK f (R:=fun a b=>a≠b∧a≤m∧b≤m) (fun a b hab e=>?_) ?_
  ·have h1:=hf a hab.2.1
   have h2:=hf b hab.2.2
   rw[e] at h1
   exact hab.1 (c.inj a b _ h1 h2)
  ·refine lS (fun{a b} ha hb h=> ⟨ke h,?_,?_⟩) (List.pairwise_lt_range (n:=m+1))
   ·have:=ky.mp ha;omega
   ·have:=ky.mp hb;omega) (fun x hx=>by
  obtain⟨e,he,rfl⟩:=jw.mp hx
  exact c.lt e _ (hf e (by have:=ky.mp he;omega)))
 rw[b9,kr] at hl
 omega
theorem LC.step(hm:Cb m)(c:LC m owner hs)(hl:hs.length≤m)(h:Int):∃o',Ey m (some (owner,hs.length)) h=some (o',hs.length+1)∧LC m o' (hs++[h]):=by
 obtain⟨e,he,hne⟩:=c.room hl
 have hb:bits h%(m+1)≤m:=by have:=tQ (bits h) (show 0<m+1 by omega);omega
 obtain⟨L,hL,eL⟩:=Xh hm (x:=(bits h%(m+1),bits h)) hb (OF h) he
 have hs':=Ik c.size hne he (turns m) L _ _ hb (by unfold turns;omega) eL
 cases hf:layClean.free m owner (turns m) (bits h%(m+1)) (bits h) with
 |none=>exact absurd hf hs'
 |some j=>
  obtain⟨n,h1,h2,h3,h4⟩:=Ij c.size _ _ _ hb hf
  have hj:j<owner.size:=by rw[c.size];omega
  refine⟨owner.setIfInBounds j (some hs.length),?_,?_⟩
  ·unfold Ey
   show(layClean.free m owner (turns m) (bits h%(m+1)) (bits h)>>=_)=_
   rw[hf]
   rfl
  ·have at_:∀x:Nat,(owner.setIfInBounds j (some hs.length))[x]?=if x=j then some (some hs.length) else owner[x]?:=fun x=>by
    rw[Array.getElem?_setIfInBounds]
    by_cases hx:x=j
    ·subst hx;simp[hj]
    ·rw[if_neg (Ne.symm hx),if_neg hx]
   have occ:∀x r:Nat,owner[x]?=some (some r)→∃r',(owner.setIfInBounds j (some hs.length))[x]?=some (some r'):=fun x r hr=>by
    rw[at_]
    by_cases hx:x=j
    ·exact⟨_,if_pos hx⟩
    ·exact⟨r,by rw[if_neg hx];exact hr⟩
   refine⟨by simpa using c.size,fun r h' e'=>?_,fun x r hr=>?_,fun x y r hx hy=>?_⟩
   ·by_cases hr:r<hs.length
    ·rw[kX hr] at e'
     obtain⟨x,q1,q2,n',q3,q4⟩:=c.put r h' e'
     refine⟨x,q1,?_,n',q3,fun k hk=>?_⟩
     ·rw[at_,if_neg];exact q2
      rintro rfl
      rw[h3] at q2;cases q2
     ·obtain⟨r',hr'⟩:=q4 k hk
      exact occ _ r' hr'
    ·rw[ku (by omega)] at e'
     have hr0:r-hs.length=0:=by
      have:=(jn.mp e').1
      simp at this;omega
     rw[hr0] at e'
     cases e'
     have:r=hs.length:=by omega
     subst this
     refine⟨j,h4,by rw[at_,if_pos rfl],n,h1,fun k hk=>?_⟩
     obtain⟨r',hr'⟩:=h2 k hk
     exact occ _ r' hr'
   ·rw[at_] at hr
    rw[j8]
    by_cases hx:x=j
    ·rw[if_pos hx] at hr;cases hr;simp
    ·rw[if_neg hx] at hr
     have:=c.lt x r hr
     omega
   ·rw[at_] at hx hy
    by_cases h1:x=j
    ·rw[if_pos h1] at hx
     cases hx
     by_cases h2:y=j
     ·rw[h1,h2]
     ·rw[if_neg h2] at hy
      exact absurd (c.lt y _ hy) (lH _)
    ·rw[if_neg h1] at hx
     by_cases h2:y=j
     ·rw[if_pos h2] at hy
      cases hy
      exact absurd (c.lt x _ hx) (lH _)
     ·rw[if_neg h2] at hy
      exact c.inj x y r hx hy
theorem LC.steps(hm:Cb m):∀(rest hs:List Int) (owner:Array (Option Nat)),LC m owner hs→hs.length+rest.length≤m+1→∃o',rest.foldl (Ey m) (some (owner,hs.length))=some (o',hs.length+rest.length)∧LC m o' (hs++rest)
 | [],hs,owner,c,_=> ⟨owner,rfl,by rw[mX];exact c⟩
 |h::rest,hs,owner,c,hl=>by
  simp only[km] at hl
  obtain⟨o1,e1,c1⟩:=c.step hm (by omega) h
  obtain⟨o2,e2,c2⟩:=LC.steps hm rest (hs++[h]) o1 c1 (by rw[j8];simp;omega)
  refine⟨o2,?_,by rw[lz] at c2;exact c2⟩
  rw[List.foldl_cons,e1]
  have:(hs++[h]).length=hs.length+1:=by simp
  rw[this] at e2
  rw[e2]
  simp only[km]
  congr 2
  omega
theorem Kv(hm:Cb m)(hs:Array Int)(hl:hs.size≤m+1):∃owner,layClean m hs=some owner∧LC m owner hs.toList:=by
 have c0:LC m (sL (m+1) none) []:=⟨by simp,fun r h e=>by simp at e,fun j r e=>by
  rw[Array.getElem?_replicate] at e;split at e<;>simp at e,fun j j' r e=>by
  rw[Array.getElem?_replicate] at e;split at e<;>simp at e⟩
 obtain⟨o,e,c⟩:=LC.steps hm hs.toList [] _ c0 (by simpa using hl)
 refine⟨o,?_,by simpa using c⟩
 rw[Ku]
 have e':hs.toList.foldl (Ey m) (some (sL (m+1) none,0))=_:=e
 rw[e']
 rfl
end
end StT
namespace StT
open PySem PySem.SetTable
theorem OG(hm:Cb m)(hs:Array Int)(hl:hs.size≤m+1)(f mv:Nat)(led plain:Bool):∃t' order,laid m f mv led plain hs=some (t',order)∧t'.mask=m∧t'.led=led∧t'.plain=plain∧t'.moves=mv∧order.size=hs.size∧
  (∀i r:Nat,order[i]?=some r→r<hs.size)∧(∀i i' r:Nat,order[i]?=some r→order[i']?=some r→i=i')∧(∀r,r<hs.size→∃i:Nat,order[i]?=some r)∧Tb t' (order.toList.map fun r=>hs.getD r 0):=by
 obtain⟨owner,e,c⟩:=Kv hm hs hl
 generalize hlive:(jr (m+1)).filterMap (fun j=> (owner.getD j none).map (j,·))=live
 have mem:∀j r,(j,r)∈live↔j≤m∧owner[j]?=some (some r):=fun j r=>by
  rw[←hlive,nA]
  constructor
  ·rintro⟨x,hx,ex⟩
   have hx:=ky.mp hx
   have hxo:x<owner.size:=by rw[c.size];exact hx
   have eg:owner.getD x none=owner[x]:=by simp[ql,hxo]
   rw[eg] at ex
   cases q:owner[x] with
   |none=>rw[q] at ex;cases ex
   |some r'=>
    rw[q] at ex
    cases ex
    exact⟨by omega,by rw[←q];simp[hxo]⟩
  ·rintro⟨h1,h2⟩
   obtain⟨hxo,q⟩:=lg.mp h2
   refine⟨j,ky.mpr (by omega),?_⟩
   have eg:owner.getD j none=owner[j]:=by simp[ql,hxo]
   rw[eg,q]
   rfl
 have pw:live.Pairwise fun a b=>a.1<b.1:=by
  rw[←hlive,List.pairwise_filterMap]
  refine lD.imp (fun{a b} h x hx y hy=>?_) (List.pairwise_lt_range (n:=m+1))
  cases q1:owner.getD a none with
  |none=>rw[q1] at hx;cases hx
  |some r1=>
   cases q2:owner.getD b none with
   |none=>rw[q2] at hy;cases hy
   |some r2=>
    rw[q1] at hx;rw[q2] at hy
    cases hx;cases hy
    exact h
 have lt:∀j r,(j,r)∈live→r<hs.size:=fun j r h=>by have:=c.lt j r ((mem j r).mp h).2;simpa using this
 have pwr:live.Pairwise fun a b=>a.2≠b.2:=by
  refine lS (fun{a b} ha hb h e=>?_) pw
  obtain⟨a1,a2⟩:=a
  obtain⟨b1,b2⟩:=b
  have h1:=(mem _ _).mp ha
  have h2:=(mem _ _).mp hb
  have e:a2=b2:=e
  subst e
  have:=c.inj _ _ _ h1.2 h2.2
  have h:a1<b1:=h
  omega
 have nd:(live.map (·.2)).Nodup:=rK _ (fun _ _ h=>h) pwr
 have all:∀r,r<hs.size→∃j,(j,r)∈live:=fun r hr=>by
  obtain⟨j,h1,h2,_⟩:=c.put r (hs[r]) (by simp[hr])
  exact⟨j,(mem j r).mpr ⟨h1,h2⟩⟩
 have len:live.length=hs.size:=by
  apply Nat.le_antisymm
  ·have:=Be hs.size (live.map (·.2)) nd fun x hx=>by
    obtain⟨⟨j,r⟩,h1,rfl⟩:=jw.mp hx
    exact lt j r h1
   simpa using this
  ·have:=Mf hs.size (live.map (·.2)) fun r hr=>by
    obtain⟨j,hj⟩:=all r hr
    exact jw.mpr ⟨_,hj,rfl⟩
   simpa using this
 refine⟨{mask:=m,place:=(live.map (·.1)).toArray,dummies:=#[],finger:=f,led:=led,moves:=mv,plain:=plain},(live.map (·.2)).toArray,?_,rfl,rfl,rfl,rfl,by simpa using len,fun i r h=>?_,fun i i' r h h'=>?_,fun r hr=>?_,?_⟩
 ·unfold laid
  rw[e]
  show some _=some _
  rw[hlive]
 ·have h:(live.map (·.2))[i]?=some r:=by simpa using h
  rw[i6] at h
  cases q:live[i]? with
  |none=>rw[q] at h;cases h
  |some x=>rw[q] at h;cases h;exact lt x.1 x.2 (i7 q)
 ·have h:(live.map (·.2))[i]?=some r:=by simpa using h
  have h':(live.map (·.2))[i']?=some r:=by simpa using h'
  obtain⟨l1,e1⟩:=jn.mp h
  obtain⟨l2,e2⟩:=jn.mp h'
  rcases nj i i' with hlt|heq|hgt
  ·exact absurd (e1.trans e2.symm) (kW.mp nd i i' l1 l2 hlt)
  ·exact heq
  ·exact absurd (e2.trans e1.symm) (kW.mp nd i' i l2 l1 hgt)
 ·obtain⟨j,hj⟩:=all r hr
  obtain⟨i,hi⟩:=lj hj
  exact⟨i,by simp[hi]⟩
 ·have at_:∀i j:Nat,(live.map (·.1)).toArray[i]?=some j→∃r,live[i]?=some (j,r):=fun i j h=>by
   have h:(live.map (·.1))[i]?=some j:=by simpa using h
   rw[i6] at h
   cases q:live[i]? with
   |none=>rw[q] at h;cases h
   |some x=>
    rw[q] at h
    cases h
    exact⟨x.2,rfl⟩
  refine⟨hm,rfl,?_,fun i j h=>?_,by simp,fun i j h e1 e2=>?_⟩
  ·show(live.map (·.1)).toArray.toList.Pairwise (· < ·)
   exact rK _ (fun _ _ h=>h) pw
  ·obtain⟨r,hr⟩:=at_ i j h
   exact((mem j r).mp (i7 hr)).1
  ·obtain⟨r,hr⟩:=at_ i j e1
   have hrlt:=lt j r (i7 hr)
   have e2:((live.map (·.2)).map fun r=>hs.getD r 0)[i]?=some h:=by simpa using e2
   rw[i6,i6,hr] at e2
   have e2:hs.getD r 0=h:=lu.inj e2
   have eh:hs.toList[r]?=some h:=by
    rw[←e2]
    simp[ql,hrlt]
   obtain⟨j2,q1,q2,n,q3,q4⟩:=c.put r h eh
   have ej:=c.inj j2 j r q2 ((mem j r).mp (i7 hr)).2
   subst ej
   refine⟨n,q3,fun k hk=>?_⟩
   obtain⟨r',hr'⟩:=q4 k hk
   have hk':(advN m k (start m h)).j≤m:=(Pr.start m h).advN.j
   obtain⟨i',hi'⟩:=lj ((mem _ r').mpr ⟨hk',hr'⟩)
   refine⟨i',?_⟩
   show(live.map (·.1)).toArray[i']?=_
   simp[hi']
theorem Il(h:Cb m)(h1:n*5<m*3)(h2:m*3≤(n+1)*5)(h3:n<300):Cb (rQ (grown (n+1))-1)∧n+1≤rQ (grown (n+1))-1∧(n+1)*5< (rQ (grown (n+1))-1)*3∧rQ (grown (n+1))≤512:=by
 rcases h with rfl|rfl|rfl|rfl
 ·have:n=4:=by omega
  subst this
  refine⟨.inr (.inl (by decide)),by decide,by decide,by decide⟩
 ·have:n=18:=by omega
  subst this
  refine⟨.inr (.inr (.inl (by decide))),by decide,by decide,by decide⟩
 ·have:n=76:=by omega
  subst this
  refine⟨.inr (.inr (.inr (by decide))),by decide,by decide,by decide⟩
 ·omega
theorem BU{α:Type}(es:Array α):∀(l:List Nat),(∀r∈l,r<es.size)→∀i:Nat,(l.filterMap fun r=>es[r]?)[i]?=(l[i]?).bind fun r=>es[r]?
 | [],_,i=>by simp
 |r::l,h,i=>by
  have hr:=h r j4
  have e:es[r]?=some es[r]:=by simp[hr]
  rw[lT,e]
  cases i with
  |zero=>simp
  |succ i=>
   simp only[oA]
   exact BU es l (fun x hx=>h x (jt _ hx)) i
theorem CA{α:Type}(es:Array α):∀(l:List Nat),(∀r∈l,r<es.size)→(l.filterMap fun r=>es[r]?).length=l.length
 | [],_=>rfl
 |r::l,h=>by
  have hr:=h r j4
  have e:es[r]?=some es[r]:=by simp[hr]
  rw[lT,e]
  simp[CA es l (fun x hx=>h x (jt _ hx))]
open PyProof.Rows
section
variable {prog:Program} {w:World}
noncomputable abbrev IK(prog:Program)(w:World)(h:Heap)(k:List Int)(a:Addr):Prop:=IsTupleKey (intKind prog w) h k a
noncomputable abbrev tk(prog:Program)(w:World):HeapKind prog w (List Int):=tupleKind (intKind prog w)
theorem EE(h:(intKind prog w).is n v=true):∃t,v=.int n t:=by
 cases v with
 |int m t=>
  have h2:(intKind prog w).is m (.int m t)=true:=qT _ _ _ _
  have e:=(intKind prog w).inj _ _ _ h h2
  subst e
  exact⟨t,rfl⟩
 |_=>exact absurd h (by simp[intKind,Value.isInt])
theorem HH(h:ItemsAre (intKind prog w) ks vs):∀v∈vs,∃n t,v=.int n t:=by
 induction h with
 |nil=>intro v hv;simp at hv
 |cons h1 _ ih=>
  intro v hv
  rcases ju.mp hv with rfl|hv
  ·obtain⟨t,e⟩:=EE h1
   exact⟨_,t,e⟩
  ·exact ih v hv
theorem cN(hk:IK prog w s.heap k a)(h:Q true s):wpAny (model prog w) A (hashByValue 8 (.ref a)) Q E s:=by
 have hT:=hk.typeIs
 obtain⟨o,items,n,ho,_,hd,hi⟩:=hk
 have hints:=HH hi
 unfold hashByValue
 refine a9 (sv hT PySem.F.slot_tuple_hash.lookup ?_)
 dsimp only
 refine a9 (pW ho hd ?_)
 show wpAny _ _ ((forIn items _ _)>>=_) _ _ s
 rw[←Array.forIn_toList]
 refine a9 (rP _ (fun rest r s'=>r.1=none∧s'=s∧∀v∈rest,∃n t,v=Value.int n t) _ ?_ ?_ _ _ ⟨rfl,rfl,hints⟩)
 ·rintro v rest r s' ⟨hr,rfl,hall⟩
  obtain⟨n,t,rfl⟩:=hall v j4
  refine a9 (b8 ?_)
  simp only[pE,j9,if_false]
  exact b8 ⟨rfl,rfl,fun u hu'=>hall u (jt _ hu')⟩
 ·rintro⟨r1,r2⟩ s' ⟨hr,rfl,_⟩
  simp only at hr
  subst hr
  exact b8 h
theorem OH(hk:IK prog w s.heap k a)(h:Q false s):wpAny (model prog w) A (rC 8 (.ref a)) Q E s:=by
 have hT:=hk.typeIs
 obtain⟨o,items,n,ho,hc,hd,hi⟩:=hk
 have hints:=HH hi
 unfold rC
 refine a9 (pT hT ?_)
 dsimp only
 rw[if_pos (by decide)]
 refine a9 (b8 ?_)
 simp only[pE,j9,if_false]
 refine a9 (pW ho hd ?_)
 show wpAny _ _ ((forIn items _ _)>>=_) _ _ s
 rw[←Array.forIn_toList]
 refine a9 (rP _ (fun rest r s'=>r.1=none∧s'=s∧∀v∈rest,∃n t,v=Value.int n t) _ ?_ ?_ _ _ ⟨rfl,rfl,hints⟩)
 ·rintro v rest r s' ⟨hr,rfl,hall⟩
  obtain⟨n,t,rfl⟩:=hall v j4
  unfold rC
  refine a9 (b8 ?_)
  simp only[j9,if_false]
  exact b8 ⟨rfl,rfl,fun u hu'=>hall u (jt _ hu')⟩
 ·rintro⟨r1,r2⟩ s' ⟨hr,rfl,_⟩
  simp only at hr
  subst hr
  exact b8 h
theorem VU(hk:IK prog w s.heap k a)(hl:∀v∈l,∃k' b,v=.ref b∧IK prog w s.heap k' b)(h:Q false s):wpAny (model prog w) A (searchCouldBeSeen (.ref a) l) Q E s:=by
 unfold searchCouldBeSeen
 refine a9 (rP _ (fun rest r s'=>r.1=none∧s'=s∧∀v∈rest,∃k' b,v=Value.ref b∧IK prog w s.heap k' b) _ ?_ ?_ _ _ ⟨rfl,rfl,hl⟩)
 ·rintro v rest r s' ⟨hr,rfl,hall⟩
  obtain⟨k',b,rfl,hb⟩:=hall v j4
  have go:∀u∈rest,∃k' b,u=Value.ref b∧IK prog w s'.heap k' b:=fun u hu'=>hall u (jt _ hu')
  dsimp only
  split
  ·exact b8 ⟨rfl,rfl,go⟩
  ·refine a9 (wpAny_eqIsQuiet_tuple hk ?_)
   simp only[pE,j9,if_false]
   refine a9 (wpAny_eqIsQuiet_tuple hb ?_)
   simp only[pE,j9,if_false]
   refine a9 (OH hk ?_)
   simp only[j9,if_false]
   refine a9 (OH hb ?_)
   simp only[j9,if_false]
   exact b8 ⟨rfl,rfl,go⟩
 ·rintro⟨r1,r2⟩ s' ⟨hr,rfl,_⟩
  simp only at hr
  subst hr
  exact b8 h
end
local macro_rules | `(tactic| omega) => `(tactic| first | lia | omega)
open PySem PySem.SetTable PyProof.Rows
section
variable {prog:Program} {w:World} {s:Shared}
noncomputable def Pq(xs:List (List Int×Addr))(prog:Program)(w:World):List (Int×Value):=xs.map fun p=> ((tk prog w).hash p.1,Value.ref p.2)
structure SetD(prog:Program)(w:World)(h:Heap)(a:Addr)(xs:List (List Int×Addr))(o:Obj)(es:Array (Int×Value))(ep:Nat)(t:lr):Prop where
 get:h.get? a=some o
 ex:o.ExactSet
 dat:o.data=.set es ep t
 es:es.toList=Pq xs prog w
 key:∀(i:Nat) (k:List Int) (x:Addr),xs[i]?=some (k,x)→IK prog w h k x
 nd:(xs.map (·.1)).Nodup
 tb:Tb t (xs.map fun p=> (tk prog w).hash p.1)
 pl:t.plain=true
 room:xs.length*5<t.mask*3
 led:t.led=!w.params.followText "set-order"
variable {es:Array (Int×Value)}
theorem SetD.size(S:SetD prog w s.heap a xs o es ep t):es.size=xs.length:=by
 rw[←i8,S.es];simp[Pq]
theorem SetD.fits(S:SetD prog w s.heap a xs o es ep t):t.fits es.size=true:=by
 have h1:=S.tb.size
 have h2:=S.room
 have h3:t.fill=t.place.size:=by unfold qq;rw[S.tb.dum];rfl
 rw[b9] at h1
 unfold lr.fits
 rw[h3,S.size,h1]
 simp only[beq_self_eq_true,qu,decide_eq_true_eq]
 omega
theorem SetD.len(S:SetD prog w s.heap a xs o es ep t):(xs.map fun p=> (tk prog w).hash p.1).length≤t.mask:=by
 have:=S.room
 rw[b9];omega
theorem SetD.at(S:SetD prog w s.heap a xs o es ep t){i:Nat}(h:xs[i]?=some (k,x)):es[i]?=some ((tk prog w).hash k,.ref x):=by
 have:es[i]?=es.toList[i]?:=by simp
 rw[this,S.es,Pq,i6,h]
 rfl
theorem SetD.of_at(S:SetD prog w s.heap a xs o es ep t)(h:i<xs.length):∃k x,xs[i]?=some (k,x):=⟨_,_,by simp[h];rfl⟩
noncomputable abbrev GW:Array (Int×Value)→Nat→Int:=PySem.W.hashAt
theorem SetD.hash(S:SetD prog w s.heap a xs o es ep t)(h:xs[i]?=some (k,x)):GW es i=(tk prog w).hash k:=by
 show((es[i]?).map ni).getD 0=_
 rw[S.at h]
 rfl
theorem Kw(S:SetD prog w s.heap a xs o es ep t)(hu:A.units<cLine)(hk:IK prog w s.heap k x)
  (hT:∀(i:Nat) (y:Addr),xs[i]?=some (k,y)→Q (.there none) s)
  (hF:(∀(i:Nat) (y:Addr),xs[i]?≠some (k,y))→∀n,¬Ks t (advN t.mask n (start t.mask ((tk prog w).hash k))).j→(∀c,c<n→Ks t (advN t.mask c (start t.mask ((tk prog w).hash k))).j)→Q (.free (advN t.mask n (start t.mask ((tk prog w).hash k))).j false) s):
  ∀(fuel c:Nat) (stand:Option Probe),stand.getD (t.probeStart ((tk prog w).hash k))=advN t.mask c (start t.mask ((tk prog w).hash k))→
   (∀c',c'<c→Ks t (advN t.mask c' (start t.mask ((tk prog w).hash k))).j∧∀(i:Nat) (y:Addr),t.place[i]?=some (advN t.mask c' (start t.mask ((tk prog w).hash k))).j→xs[i]?≠some (k,y))→
   (∃N,c≤N∧¬Ks t (advN t.mask N (start t.mask ((tk prog w).hash k))).j∧N-c<fuel)→
   wpAny (model prog w) A (setSearchFrom a (.ref x) ((tk prog w).hash k) true fuel stand) Q E s:=by
 intro fuel
 induction fuel with
 |zero=>rintro c stand _ _ ⟨N,_,_,h⟩;exact absurd h (pI _)
 |succ fuel ih=>
  rintro c stand hst hpre ⟨N,hcN,hN,hfu⟩
  have hsz:t.place.size=xs.length:=by have:=S.tb.size;rwa[b9] at this
  unfold setSearchFrom
  refine a9 (lV S.get S.dat S.fits ?_)
  dsimp only
  have hgw:t.gaveWay=false:=by unfold lr.gaveWay;rw[S.tb.odd];rfl
  rw[hgw]
  simp only[j9,if_false]
  obtain⟨n,hn,hstop⟩:=GJ S.tb S.len (p:=advN t.mask c (start t.mask ((tk prog w).hash k))) (Pr.start _ _).advN (GW es) ((tk prog w).hash k)
  rw[hst]
  have hadd:∀m,advN t.mask m (advN t.mask c (start t.mask ((tk prog w).hash k)))=advN t.mask (c+m) (start t.mask ((tk prog w).hash k)):=fun m=> (Ca _ _ _ _).symm
  have pre2:∀c',c'<c+n→Ks t (advN t.mask c' (start t.mask ((tk prog w).hash k))).j∧∀(i:Nat) (y:Addr),t.place[i]?=some (advN t.mask c' (start t.mask ((tk prog w).hash k))).j→xs[i]?≠some (k,y):=fun c' hc'=>by
   by_cases hlt:c'<c
   ·exact hpre c' hlt
   ·obtain⟨i,h1,h2⟩:=hn (c'-c) (by omega)
    rw[hadd,show c+(c'-c)=c' by omega] at h1
    refine⟨⟨i,h1⟩,fun i' y h1' e=>?_⟩
    have:i'=i:=by
     rw[←CZ S.tb.ris h1',←CZ S.tb.ris h1]
    subst this
    exact h2 (S.hash e)
  obtain⟨met,hmet⟩:∃met,t.probe (GW es) ((tk prog w).hash k) (advN t.mask c (start t.mask ((tk prog w).hash k)))=some met:=by
   rcases hstop with⟨_,hp⟩| ⟨_,_,_,hp⟩<;>exact⟨_,hp⟩
  split
  case h_2 heq=>exact absurd hmet (heq met)
  rename_i met' heq
  have heq:t.probe (GW es) ((tk prog w).hash k) (advN t.mask c (start t.mask ((tk prog w).hash k)))=some met':=heq
  rcases hstop with⟨hf,hp⟩| ⟨i,h1,h2,hp⟩
  ·rw[hp] at heq
   cases heq
   dsimp only
   rw[Eb]
   show wpAny _ _ (pure _) _ _ s
   rw[hadd] at hf ⊢
   refine b8 (hF (fun i y e=>?_) (c+n) hf fun c' hc'=> (pre2 c' hc').1)
   have hi:i<xs.length:=(jn.mp e).1
   have hpl:t.place[i]?=some (t.place[i]'(by omega)):=by simp[show i<t.place.size by omega]
   obtain⟨n',e1,w1⟩:=S.tb.fnd i _ ((tk prog w).hash k) hpl (by rw[i6,e];rfl)
   by_cases hlt:n'<c+n
   ·exact(pre2 n' hlt).2 i y (by rw[e1];exact hpl) e
   ·by_cases heq:n'=c+n
    ·subst heq
     exact hf ⟨i,by rw[e1];exact hpl⟩
    ·exact hf (w1 (c+n) (by omega))
  ·rw[hp] at heq
   cases heq
   dsimp only
   rw[hadd] at h1
   have hi:i<xs.length:=by rw[←hsz];exact(lg.mp h1).1
   obtain⟨k',y,ek⟩:=S.of_at hi
   have hky:=S.key i k' y ek
   have seen:∀v,v∈(es.filter fun e=>e.1==(tk prog w).hash k).toList.map (·.2)→∃k' b,v=Value.ref b∧IK prog w s.heap k' b:=fun v hv=>by
    obtain⟨⟨h',v'⟩,hm,rfl⟩:=jw.mp hv
    have hm:(h',v')∈es.toList:=by
     have:=hm
     simp only[Array.toList_filter] at this
     exact(lR.mp this).1
    rw[S.es,Pq] at hm
    obtain⟨⟨k2,b⟩,hb,eb⟩:=jw.mp hm
    cases eb
    obtain⟨j,hj⟩:=lj hb
    exact⟨k2,b,rfl,S.key j k2 b hj⟩
   cases hled:t.led with
   |true=>
    simp only[pE,j9,if_false]
    rw[S.at ek]
    dsimp only
    refine a9 (ko (wpAny_eqBool_tuple hu hky hk ?_))
    refine a9 (lV S.get S.dat S.fits ?_)
    dsimp only
    by_cases hkk:k'=k
    ·subst hkk
     rw[decide_eq_true rfl]
     exact b8 (hT i y ek)
    ·rw[decide_eq_false hkk]
     have hsm:t.sameMemory t.moves t.mask=some true:=by unfold lr.sameMemory;rw[if_pos (by simp)]
     rw[hsm]
     simp only[rq,j9,if_false,if_true]
     rw[hadd,S.tb.live h1]
     dsimp only
     rw[S.at ek]
     dsimp only
     have hss:isSame (Value.ref y) (Value.ref y)=pure true:=by
      show(if(y==y)=true then _ else _)=_
      rw[if_pos (beq_self_eq_true y)]
     rw[hss]
     refine a9 (b8 ?_)
     simp only[if_true]
     refine a9 (b8 ?_)
     dsimp only
     rw[hadd]
     refine ih (c+n+1) _ rfl (fun c' hc'=>?_) ?_
     ·by_cases hlt:c'<c+n
      ·exact pre2 c' hlt
      ·have:c'=c+n:=by omega
       subst this
       refine⟨⟨i,h1⟩,fun i' y' h1' e=>?_⟩
       have:i'=i:=by
        rw[←CZ S.tb.ris h1',←CZ S.tb.ris h1]
       subst this
       rw[ek] at e
       exact hkk (congrArg ni (lu.inj e))
     ·have hle:c+n<N:=by
       rcases nj (c+n) N with hlt|heq|hgt
       ·exact hlt
       ·exact absurd ⟨i,by rw[←heq];exact h1⟩ hN
       ·exact absurd (pre2 N hgt).1 hN
      exact⟨N,by omega,hN,by omega⟩
   |false=>
    simp only[rj,if_true]
    refine a9 (VU hk seen ?_)
    simp only[j9,if_false]
    rw[S.at ek]
    dsimp only
    refine a9 (ko (wpAny_eqBool_tuple hu hky hk ?_))
    refine a9 (lV S.get S.dat S.fits ?_)
    dsimp only
    by_cases hkk:k'=k
    ·subst hkk
     rw[decide_eq_true rfl]
     exact b8 (hT i y ek)
    ·rw[decide_eq_false hkk]
     have hsm:t.sameMemory t.moves t.mask=some true:=by unfold lr.sameMemory;rw[if_pos (by simp)]
     rw[hsm]
     simp only[rq,j9,if_false,if_true]
     rw[hadd,S.tb.live h1]
     dsimp only
     rw[S.at ek]
     dsimp only
     have hss:isSame (Value.ref y) (Value.ref y)=pure true:=by
      show(if(y==y)=true then _ else _)=_
      rw[if_pos (beq_self_eq_true y)]
     rw[hss]
     refine a9 (b8 ?_)
     simp only[if_true]
     refine a9 (b8 ?_)
     dsimp only
     rw[hadd]
     refine ih (c+n+1) _ rfl (fun c' hc'=>?_) ?_
     ·by_cases hlt:c'<c+n
      ·exact pre2 c' hlt
      ·have:c'=c+n:=by omega
       subst this
       refine⟨⟨i,h1⟩,fun i' y' h1' e=>?_⟩
       have:i'=i:=by
        rw[←CZ S.tb.ris h1',←CZ S.tb.ris h1]
       subst this
       rw[ek] at e
       exact hkk (congrArg ni (lu.inj e))
     ·have hle:c+n<N:=by
       rcases nj (c+n) N with hlt|heq|hgt
       ·exact hlt
       ·exact absurd ⟨i,by rw[←heq];exact h1⟩ hN
       ·exact absurd (pre2 N hgt).1 hN
      exact⟨N,by omega,hN,by omega⟩
end
end StT
namespace StT
local macro_rules | `(tactic| omega) => `(tactic| first | lia | omega)
open PySem PySem.SetTable PyProof.Rows
section
variable {prog:Program} {w:World} {s:Shared}
variable {a:Addr} {xs:List (List Int×Addr)}
noncomputable def SetX(prog:Program)(w:World)(h:Heap)(a:Addr)(xs:List (List Int×Addr)):Prop:=∃o es ep t,SetD prog w h a xs o es ep t
theorem Rg(hk:IK prog w h k x)(hg:h.get? a=some o)(he:o.ExactSet):x≠a:=by
 rintro rfl
 obtain⟨o',items,n,ho,hc,_⟩:=hk
 rw[hg] at ho
 cases ho
 rw[he.1] at hc
 exact absurd hc (by decide)
theorem DP(hk:IK prog w h k x)(hs:∀u,h.get? x=some u→h'.get? x=some u):IK prog w h' k x:=by
 obtain⟨o',items,n,ho,hc,hd,hi⟩:=hk
 exact⟨o',items,n,hs _ ho,hc,hd,hi⟩
theorem EF(hg:s.heap.get? a=some o)(hd:o.data=.set es ep t)(es':Array (Int×Value))(t':lr):(s.heap.update a (pO es' t')).get? a=some {o with data:=.set es' (ep+1) t'}:=by
 have:=oP (pO es' t') hg (by rw[putSet_of es' t' hd];rfl)
 rw[putSet_of es' t' hd] at this;exact this
theorem Mk:(Pq xs prog w).length=xs.length:=by simp[Pq]
theorem Rh(hg:s.heap.get? a=some o)(he:o.ExactSet)(hd:o.data=.set es ep t)(hes:es.toList=Pq xs prog w)(hkey:∀(i:Nat) (k:List Int) (x:Addr),xs[i]?=some (k,x)→IK prog w s.heap k x)
  (hnd:(xs.map (·.1)).Nodup) (htb:Tb t (xs.map fun p=> (tk prog w).hash p.1)) (hpl:t.plain=true) (hled:t.led=!w.params.followText "set-order") (hn:xs.length=n+1) (h1:n*5<t.mask*3) (h2:t.mask*3≤(n+1)*5) (h3:n<300)
  (h:∀h' xs',nD a s.heap h'→SetX prog w h' a xs'→(∀p,p∈xs'↔p∈xs)→xs'.length=xs.length→Q () {s with heap:=h'}):wpAny (model prog w) A (setRelay a (grown (n+1))) Q E s:=by
 obtain⟨m1,m2,m3,m4⟩:=Il htb.mask h1 h2 h3
 have hsz:es.size=n+1:=by rw[←i8,hes,Mk,hn]
 have hfill:t.fill=t.place.size:=by unfold qq;rw[htb.dum];rfl
 have hps:t.place.size=n+1:=by have:=htb.size;rw[b9,hn] at this;exact this
 have hlow:=htb.low
 have hfit:t.fits es.size=true:=by
  unfold lr.fits
  rw[hfill,hsz,hps]
  simp only[beq_self_eq_true,qu,decide_eq_true_eq]
  omega
 unfold setRelay
 refine a9 (lV hg hd hfit ?_)
 dsimp only
 rw[if_neg (by rw[lB];omega)]
 refine a9 ?_
 obtain⟨t',order,el,q1,q2,q3,q4,q5,q6,q7,q8,q9⟩:=OG m1 (es.map (·.1)) (by rw[rz,hsz];omega) t.finger (t.movedTo (rQ (grown (n+1))-1)) t.led t.plain
 rw[rz] at q5 q6 q8
 have el':t.relaid (es.map (·.1)) (grown (n+1))=some (t',order):=el
 rw[el']
 have hfm:(order.filterMap (es[·]?)).toList=order.toList.filterMap fun r=>es[r]?:=by simp
 have hmem:∀r∈order.toList,r<es.size:=fun r hr=>by
  obtain⟨i,hi⟩:=lj hr
  exact q6 i r (by simpa using hi)
 have hes':(order.filterMap (es[·]?)).size=es.size:=by
  rw[←i8,hfm,CA es _ hmem,i8,q5]
 show wpAny _ _ (if((order.filterMap fun r=>es[r]?).size !=es.size)=true then _ else pure (order.filterMap fun r=>es[r]?,t')) _ _ s
 rw[if_neg (by rw[hes'];simp)]
 refine b8 ?_
 dsimp only
 refine pV hg hd ?_ (by rw[hes',hsz,lB];omega)
 generalize hE:order.filterMap (es[·]?)=es' at*
 have hxs:∀r,r<es.size→∃p,xs[r]?=some p:=fun r hr=> ⟨_,by simp[show r<xs.length by rw[hn];omega];rfl⟩
 have hfx:(order.toList.filterMap fun r=>xs[r]?).length=es.size:=by
  have:=CA xs.toArray order.toList (fun r hr=>by rw[jy,hn];have:=hmem r hr;omega)
  simp only[oO] at this
  rw[this,i8,q5]
 have at_:∀i:Nat,(order.toList.filterMap fun r=>xs[r]?)[i]?=(order.toList[i]?).bind fun r=>xs[r]?:=fun i=>by
  have:=BU xs.toArray order.toList (fun r hr=>by rw[jy,hn];have:=hmem r hr;omega) i
  simpa only[oO] using this
 have mem:∀p,p∈(order.toList.filterMap fun r=>xs[r]?)↔p∈xs:=fun p=>by
  rw[nA]
  constructor
  ·rintro⟨r,_,e⟩;exact i7 e
  ·intro hp
   obtain⟨r,hr⟩:=lj hp
   have hrl:r<es.size:=by rw[hsz,←hn];exact(jn.mp hr).1
   obtain⟨i,hi⟩:=q8 r hrl
   exact⟨r,i7 (i:=i) (by simpa using hi),hr⟩
 have hesx:∀i:Nat,es[i]?=(xs[i]?).map fun p=> ((tk prog w).hash p.1,Value.ref p.2):=fun i=>by
  have:es[i]?=es.toList[i]?:=by simp
  rw[this,hes,Pq,i6]
 refine h _ (order.toList.filterMap fun r=>xs[r]?) (oy ..) ⟨_,es',ep+1,t',⟨EF hg hd es' t',he,rfl,?_,fun i k x e=>?_,?_,?_,?_,?_,?_⟩⟩ mem (by rw[hfx,hsz,hn])
 ·apply lN
  intro i
  rw[hfm,BU es _ hmem,Pq,i6,at_]
  cases order.toList[i]? with
  |none=>rfl
  |some r=>exact hesx r
 ·have hp:(k,x)∈xs:=(mem _).mp (i7 e)
  obtain⟨r,hr⟩:=lj hp
  have ik:=hkey r k x hr
  exact DP ik fun u hu=> ((oy s.heap a (pO es' t')).2 x (Rg ik hg he)).trans hu
 ·rw[kP]
  refine kW.mpr fun i j hi hj hij e=>?_
  rw[b9] at hi hj
  have e1:=at_ i
  have e2:=at_ j
  rw[jv hi] at e1
  rw[jv hj] at e2
  rw[qk,qk] at e
  cases r1:order.toList[i]? with
  |none=>rw[r1] at e1;cases e1
  |some r=>
   cases r2:order.toList[j]? with
   |none=>rw[r2] at e2;cases e2
   |some r'=>
    rw[r1] at e1
    rw[r2] at e2
    have e1:xs[r]?=some _:=e1.symm
    have e2:xs[r']?=some _:=e2.symm
    obtain⟨l1,g1⟩:=jn.mp e1
    obtain⟨l2,g2⟩:=jn.mp e2
    have ee:(xs.map (·.1))[r]'(by simpa using l1)=(xs.map (·.1))[r']'(by simpa using l2):=by rw[qk,qk,g1,g2];exact e
    have nd:=kP.mp hnd
    have:r=r':=by
     rcases nj r r' with hlt|heq|hgt
     ·exact absurd ee (kW.mp nd r r' _ _ hlt)
     ·exact heq
     ·exact absurd ee.symm (kW.mp nd r' r _ _ hgt)
    subst this
    have:=q7 i j r (by simpa using r1) (by simpa using r2)
    omega
 ·have:(order.toList.filterMap fun r=>xs[r]?).map (fun p=> (tk prog w).hash p.1)=order.toList.map fun r=> (es.map (·.1)).getD r 0:=by
   apply lN
   intro i
   rw[i6,at_,i6]
   cases hr:order.toList[i]? with
   |none=>rfl
   |some r=>
    have hrl:=hmem r (i7 hr)
    obtain⟨p,hp⟩:=hxs r hrl
    show(xs[r]?).map _=some ((es.map (·.1)).getD r 0)
    rw[hp]
    have e3:=hesx r
    rw[hp] at e3
    obtain⟨l,g⟩:=lg.mp e3
    simp[ql,hrl,g]
  rw[this]
  exact q9
 ·rw[q3];exact hpl
 ·rw[hfx,hsz,q1];exact m3
 ·rw[q2];exact hled
end
end StT
namespace StT
local macro_rules | `(tactic| omega) => `(tactic| first | lia | omega)
open PySem PySem.SetTable PyProof.Rows
section
variable {prog:Program} {w:World} {A:j6} {E:Value→Shared→Prop} {s:Shared}
variable {a:Addr} {xs:List (List Int×Addr)}
theorem ZK(S:SetX prog w s.heap a xs)(hu:A.units<cLine)(hk:IK prog w s.heap k x)(hl:xs.length<300)
  (hT:∀y,(k,y)∈xs→Q false s)
  (hF:(∀y,(k,y)∉xs)→∀h' xs',nD a s.heap h'→SetX prog w h' a xs'→(∀p,p∈xs'↔p∈xs∨p=(k,x))→xs'.length=xs.length+1→Q true {s with heap:=h'}):
  wpAny (model prog w) A (se a (.ref x) ((tk prog w).hash k)) Q E s:=by
 obtain⟨o,es,ep,t,S⟩:=S
 unfold se setAddHashedIn
 refine ko (a9 (lV S.get S.dat S.fits ?_))
 dsimp only
 have hbs:byScan (.ref x) es=false:=rfl
 rw[hbs]
 simp only[j9,if_false]
 obtain⟨e,he,hne⟩:=S.tb.room S.len
 obtain⟨N,hN,eN⟩:=Xj S.tb.mask (Pr.start t.mask ((tk prog w).hash k)) he
 have hm511:t.mask≤511:=by rcases S.tb.mask with h|h|h|h<;>omega
 refine a9 (Kw S hu hk (fun i y e=>?_) (fun hno n hf hw=>?_) 100000 0 none (Kr t _) (fun c hc=>absurd hc (pI _)) ⟨N,kZ _,by rw[eN];exact hne,by omega⟩)
 ·dsimp only
  exact b8 (hT y (i7 e))
 ·dsimp only
  refine a9 (lV S.get S.dat S.fits ?_)
  dsimp only
  obtain⟨p1,p2,p3,p4,p5,p6⟩:=S.tb.put hf hw
  generalize hJ:(advN t.mask n (start t.mask ((tk prog w).hash k))).j=J at*
  generalize hput:t.put J=tp at*
  obtain⟨t1,q⟩:=tp
  dsimp only at p1 p2 p3 p4 p5 p6 ⊢
  rw[b9] at p2
  rw[p4,S.pl]
  simp only[if_true]
  refine a9 (cN hk ?_)
  simp only[if_true]
  refine a9 (pV S.get S.dat ?_ (by
   rw[Cp _ _ _ (by rw[S.size];exact p2),S.size,lB];omega))
  have hes1:(mP es q ((tk prog w).hash k,.ref x)).toList=Pq (xs.take q++(k,x)::xs.drop q) prog w:=by
   rw[BJ,S.es]
   simp[Pq]
  have hmem:∀p,p∈xs.take q++(k,x)::xs.drop q↔p∈xs∨p=(k,x):=fun p=>by
   rw[kj,ju]
   constructor
   ·rintro(h|h|h)
    ·exact .inl (oY h)
    ·exact .inr h
    ·exact .inl (qA h)
   ·rintro(h|h)
    ·rw[←mU q xs] at h
     rcases kj.mp h with h|h
     ·exact .inl h
     ·exact .inr (.inr h)
    ·exact .inr (.inl h)
  have hlen:(xs.take q++(k,x)::xs.drop q).length=xs.length+1:=by
   rw[j8,km,kH,m8];omega
  have hnod:((xs.take q++(k,x)::xs.drop q).map (·.1)).Nodup:=by
   have hxs:(xs.take q).map (·.1)++(xs.drop q).map (·.1)=xs.map (·.1):=by rw[←kl,mU]
   have nd:=S.nd
   rw[←hxs] at nd
   rw[kl,kg]
   have hkn:k∉(xs.take q).map (·.1)++(xs.drop q).map (·.1):=by
    rw[hxs]
    intro hm
    obtain⟨⟨k',y⟩,hp,rfl⟩:=jw.mp hm
    obtain⟨i,hi⟩:=lj hp
    exact hno i y hi
   rw[kj,not_or] at hkn
   obtain⟨n1,n2,n3⟩:=n6.mp nd
   refine n6.mpr ⟨n1,mE.mpr ⟨hkn.2,n2⟩,fun b hb c hc=>?_⟩
   rcases ju.mp hc with rfl|hc
   ·rintro rfl;exact hkn.1 hb
   ·exact n3 b hb c hc
  have hsb:=oy s.heap a (pO (mP es q ((tk prog w).hash k,.ref x)) t1)
  have hg1:=EF (s:=s) S.get S.dat (mP es q ((tk prog w).hash k,.ref x)) t1
  have hkey1:∀(i:Nat) (k':List Int) (x':Addr),(xs.take q++(k,x)::xs.drop q)[i]?=some (k',x')→IK prog w (s.heap.update a (pO (mP es q ((tk prog w).hash k,.ref x)) t1)) k' x':=fun i k' x' e=>by
   have ik:IK prog w s.heap k' x':=by
    rcases(hmem _).mp (i7 e) with h|h
    ·obtain⟨j,hj⟩:=lj h
     exact S.key j k' x' hj
    ·cases h;exact hk
   exact DP ik fun u hu=> (hsb.2 x' (Rg ik S.get S.ex)).trans hu
  have htb1:Tb t1 ((xs.take q++(k,x)::xs.drop q).map fun p=> (tk prog w).hash p.1):=by
   simpa using p1
  have hno':∀y,(k,y)∉xs:=fun y hy=>by
   obtain⟨i,hi⟩:=lj hy
   exact hno i y hi
  have hfill:t1.fill=xs.length+1:=by
   unfold qq
   rw[htb1.dum]
   have:=htb1.size
   rw[b9,hlen] at this
   rw[this];rfl
  have hroom:=S.room
  simp only[rj,qu]
  cases htf:t1.tooFull with
  |true=>
   simp only[if_true]
   have htf':t1.mask*3≤(xs.length+1)*5:=by
    unfold qg at htf
    rw[hfill] at htf
    simpa using htf
   rw[S.size]
   refine a9 (Rh (s:={s with heap:=s.heap.update a (pO (mP es q ((tk prog w).hash k,.ref x)) t1)}) hg1 S.ex rfl hes1 hkey1 hnod htb1 (by rw[p4];exact S.pl) (by rw[p5];exact S.led) hlen (by rw[p3];exact hroom) htf' hl fun h' xs' sb sx mm ll=>?_)
   refine b8 (hF hno' h' xs' (hsb.trans sb) sx (fun p=> (mm p).trans (hmem p)) (ll.trans hlen))
  |false=>
   simp only[j9,if_false]
   refine b8 (hF hno' _ _ hsb ⟨_,_,_,t1,hg1,S.ex,rfl,hes1,hkey1,hnod,htb1,by rw[p4];exact S.pl,?_,by rw[p5];exact S.led⟩ hmem hlen)
   unfold qg at htf
   rw[hfill] at htf
   rw[hlen]
   simpa using htf
noncomputable def JY(ks:List (List Int×Addr))(xs:List (List Int×Addr)):Prop:=(∀p,p∈xs→p∈ks)∧(∀k y,(k,y)∈ks→∃y',(k,y')∈xs)∧xs.length≤ks.length
theorem SetX.keep'(S:SetX prog w h a xs)(ha:∀u,h.get? a=some u→h'.get? a=some u)(hk:∀k x,(k,x)∈xs→∀u,h.get? x=some u→h'.get? x=some u):SetX prog w h' a xs:=by
 obtain⟨o,es,ep,t,S⟩:=S
 exact⟨o,es,ep,t,ha _ S.get,S.ex,S.dat,S.es,fun i k x e=>DP (S.key i k x e) (hk k x (i7 e)),S.nd,S.tb,S.pl,S.room,S.led⟩
theorem VV(hh:A.in1.handled=none)(hne:l≠I)(hI:a≠I)(hla:a≠l)(hps:items.toList=ps.map fun p=>Value.ref p.2)(hz:ps.length≤300)(hu:A.units+1<cLine)
 :∀(n i:Nat) (s:Shared) (xs:List (List Int×Addr)),n=ps.length-i→i≤ps.length→s.heap.IsListIter I l i→s.heap.IsList l items→(∀k x,(k,x)∈ps→IK prog w s.heap k x∧x≠I)→SetX prog w s.heap a xs→JY (ps.take i) xs→
   (∀h' tk' xs',(∀b u,b≠a→b≠I→s.heap.get? b=some u→h'.get? b=some u)→SetX prog w h' a xs'→JY ps xs'→R (.ok (.ret .none)) {s with heap:=h',toks:=tk'})→
   oF (model prog w) A (.builtin "set.update.loop" ⟨[.ref a,.ref I],[]⟩) R s:=by
 have W:=Walks.list (A:=A.in1) (prog:=prog) (w:=w) hh I l hne items
 have hsz:items.size=ps.length:=by rw[←i8,hps,b9]
 intro n
 induction n with
 |zero=>
  intro i s xs hn hi hit hl hp hX hS hR
  have:i=ps.length:=by omega
  subst this
  rw[lQ] at hS
  refine mW mT ?_
  rw[mD kN _]
  show wpAny _ A.in1 (pk (.ref I)>>=_) _ _ s
  refine a9 (oN hh hit hl (by simp[hsz]) fun h' hk=>?_)
  show wpAny _ A.in1 (ret nU) _ _ _
  refine b8 (hR h' s.toks xs (fun b u _ hb e=>hk b u hb e) (hX.keep' (fun u e=>hk a u hI e) fun k x hx u e=>hk x u (hp k x (hS.1 _ hx)).2 e) hS)
 |succ n ih=>
  intro i s xs hn hi hit hl hp hX hS hR
  have hlt:i<ps.length:=by omega
  obtain⟨⟨k,x⟩,hkx⟩:∃p,ps[i]?=some p:=⟨_,by simp[hlt];rfl⟩
  have hitem:items[i]?=some (.ref x):=by
   have:items[i]?=items.toList[i]?:=by simp
   rw[this,hps,i6,hkx];rfl
  refine mW mT ?_
  rw[mD kN _]
  show wpAny _ A.in1 (pk (.ref I)>>=_) _ _ s
  refine a9 (ng hit hl hitem fun h1 hit1 sb1=>?_)
  have hk1:∀b u,b≠I→s.heap.get? b=some u→h1.get? b=some u:=fun b u hb e=> (sb1.2 b hb).trans e
  have kx:=hp k x (i7 hkx)
  have hX1:SetX prog w h1 a xs:=hX.keep' (fun u e=>hk1 a u hI e) fun k x hx u e=>hk1 x u (hp k x (oY (hS.1 _ hx))).2 e
  have ik1:∀k x,(k,x)∈ps→IK prog w h1 k x∧x≠I:=fun k x hx=> ⟨DP (hp k x hx).1 fun u e=>hk1 x u (hp k x hx).2 e,(hp k x hx).2⟩
  have hl1:h1.IsList l items:=hl.at fun o e=>hk1 l o hne e
  show wpAny _ A.in1 (holding [Value.ref x] (setAdd a (.ref x))>>=_) _ _ _
  refine a9 (ko ?_)
  unfold setAdd
  refine ko ?_
  refine a9 ((tk prog w).pyHash (s:={s with heap:=h1}) hu (ik1 k x (i7 hkx)).1 ?_)
  have htake:ps.take (i+1)=ps.take i++[(k,x)]:=by rw[lM,hkx];rfl
  have hlen:xs.length≤i:=by have:=hS.2.2;rw[kH] at this;omega
  refine ZK (s:={s with heap:=h1,toks:=s.toks+(tk prog w).draws k}) hX1 hu (ik1 k x (i7 hkx)).1 (by omega) (fun y hy=>?_) (fun hno h2 xs' sb sx mm ll=>?_)
  ·refine b8 ⟨nN kN _,ih (i+1) _ xs (by omega) (by omega) hit1 hl1 ik1 hX1 ⟨fun p hp'=>by rw[htake];exact lZ _ (hS.1 p hp'),fun k' y' hm=>?_,by rw[htake,j8];have:=hS.2.2;omega⟩ fun h' tk' xs' kp sx so=>hR h' tk' xs' (fun b u h1' h2' e=>kp b u h1' h2' (hk1 b u h2' e)) sx so⟩
   rw[htake] at hm
   rcases kj.mp hm with hm|hm
   ·exact hS.2.1 k' y' hm
   ·cases jz.mp hm
    exact⟨y,hy⟩
  ·have keep2:∀b u,b≠a→h1.get? b=some u→h2.get? b=some u:=fun b u hb e=> (sb.2 b hb).trans e
   have nea:∀k x,(k,x)∈ps→x≠a:=fun k x hx=>by
    obtain⟨o,es,ep,t,S⟩:=hX1
    exact Rg (ik1 k x hx).1 S.get S.ex
   refine b8 ⟨nN kN _,ih (i+1) {s with heap:=h2,toks:=s.toks+(tk prog w).draws k} xs' (by omega) (by omega) (hit1.at fun o e=>keep2 I o (Ne.symm hI) e) (hl1.at fun o e=>keep2 l o (Ne.symm hla) e)
    (fun k x hx=> ⟨DP (ik1 k x hx).1 fun u e=>keep2 x u (nea k x hx) e,(hp k x hx).2⟩) sx ⟨fun p hp'=>?_,fun k' y' hm=>?_,by rw[htake,j8,ll];have:=hS.2.2;simp;omega⟩ fun h' tk' xs2 kp sx so=>hR h' tk' xs2 (fun b u h1' h2' e=>kp b u h1' h2' (keep2 b u h1' (hk1 b u h2' e))) sx so⟩
   ·rw[htake]
    rcases(mm p).mp hp' with h|h
    ·exact lZ _ (hS.1 p h)
    ·exact k8 _ (jz.mpr h)
   ·rw[htake] at hm
    rcases kj.mp hm with hm|hm
    ·obtain⟨y2,hy2⟩:=hS.2.1 k' y' hm
     exact⟨y2,(mm _).mpr (.inl hy2)⟩
    ·cases jz.mp hm
     exact⟨x,(mm _).mpr (.inr rfl)⟩
end
end StT
namespace StT
open PySem PySem.SetTable PyProof.Rows
theorem Av:Slot "set_iterator" "__next__" "set_iterator.__next__" :=
 .of (owner:="set_iterator") (n:="__next__") (by rw[typeLookup_type,builtinLookup_eq_fast];kernel_rfl) (by decide+kernel) (by decide+kernel) (by decide+kernel)
  (by first|exact .inl (by decide+kernel)|exact .inr (by decide+kernel)) (by rw[sS];kernel_rfl)
theorem Dc:Slot "set_iterator" "__iter__" "set_iterator.__iter__" :=
 .of (owner:="set_iterator") (n:="__iter__") (by rw[typeLookup_type,builtinLookup_eq_fast];kernel_rfl) (by decide+kernel) (by decide+kernel) (by decide+kernel)
  (by first|exact .inl (by decide+kernel)|exact .inr (by decide+kernel)) (by rw[sS];kernel_rfl)
theorem DB:entryFor table "set_iterator.__next__" =some Builtin.«set_iterator.__next__»:=entryFor_of_tree (by kernel_rfl)
theorem Fj:entryFor table "set_iterator.__iter__" =some Builtin.«dict_keyiterator.__iter__»:=
 entryFor_alias (id':="dict_keyiterator.__iter__") (by kernel_rfl) (by first|rfl|decide+kernel| (unfold String.splitOn;simp+decide [String.splitOnAux])) (by decide+kernel) (by kernel_rfl)
theorem HI:entryFor table "set.__iter__" =some Builtin.«frozenset.__iter__»:=
 entryFor_alias (id':="frozenset.__iter__") (by kernel_rfl) (by first|rfl|decide+kernel| (unfold String.splitOn;simp+decide [String.splitOnAux])) (by decide+kernel) (by kernel_rfl)
theorem GK:Manifest.owners.lookup (String.ofList ['r','o','t','a','r','e','t','i','_','t','e','s'].reverse)=some Manifest.sig_set_iterator:=by kernel_rfl
theorem Dd(a:Value):argsOk "set_iterator.__next__" ⟨[a],[]⟩:=by
 unfold argsOk;rw[signature?_of (id:="set_iterator.__next__") (n:=['_','_','t','x','e','n','_','_']) (o:=['r','o','t','a','r','e','t','i','_','t','e','s']) (by kernel_rfl) GK];kernel_rfl
theorem GR(a:Value):argsOk "set_iterator.__iter__" ⟨[a],[]⟩:=by
 unfold argsOk;rw[signature?_of (id:="set_iterator.__iter__") (n:=['_','_','r','e','t','i','_','_']) (o:=['r','o','t','a','r','e','t','i','_','t','e','s']) (by kernel_rfl) GK];kernel_rfl
theorem OI{α:Type}:∀(l:List α) (i:Nat) (h:i<l.length),(l[i]::l.eraseIdx i).Perm l
 |x::l,0,_=>nB.refl _
 |x::l,i+1,h=>by
  have ih:=OI l i (by simpa using h)
  simp only[List.getElem_cons_succ,List.eraseIdx_cons_succ]
  exact(nB.swap _ _ _).trans (ih.cons x)
theorem OJ(next:Nat→Nat):∀(n k:Nat) (left:List α) (out:Array α),left.length=n→(tT next n k left out).toList.Perm (out.toList++left)
 |0,k,left,out,h=>by
  have:left=[]:=pS.mp h
  subst this
  simp[tT]
 |n+1,k,left,out,h=>by
  have hlt:next k%left.length<left.length:=tQ _ (by omega)
  have e:left[next k%left.length]?=some left[next k%left.length]:=by simp[hlt]
  rw[tT,e]
  have ih:=OJ next n (k+1) (left.eraseIdx (next k%left.length)) (out.push left[next k%left.length]) (by rw[List.length_eraseIdx_of_lt hlt];omega)
  refine ih.trans ?_
  rw[oa,lz]
  exact qb _ (OI left _ hlt)
theorem Pt(next:Nat→Nat)(xs:Array α):(qO next xs).toList.Perm xs.toList:=by
 have:=OJ next xs.size 0 xs.toList #[] (by simp)
 simp only[List.nil_append] at this
 exact this
noncomputable def Df(w:World)(a:Addr)(ep:Nat)(es:Array (Int×Value)):Array (Int×Value):=if w.params.followText "set-order" =true then qO (w.params.setOrder a ep) es else es
theorem Fk(w:World)(a:Addr)(ep:Nat)(es:Array (Int×Value)):(Df w a ep es).toList.Perm es.toList:=by
 unfold Df
 split
 ·exact Pt _ _
 ·exact nB.refl _
theorem EG(w:World)(a:Addr)(ep:Nat)(es:Array (Int×Value)):(Df w a ep es).size=es.size:=by
 rw[←i8,←i8];exact(Fk w a ep es).length_eq
theorem Ml(r:Rc xs)(hi:i≤xs.size){slot:Nat}(hs:(i=0∧slot=0)∨(0<i∧∃j,xs[i-1]?=some j∧slot=j+1)):below xs slot=i:=by
 obtain⟨b1,b2,b3⟩:=DO (j:=slot) r
 rcases hs with⟨rfl,rfl⟩| ⟨h0,j,hj,rfl⟩
 ·apply mQ
  intro hne
  have h0:0<xs.size:=by omega
  have:=b2 0 xs[0] (by omega) (by simp[h0])
  omega
 ·have hlt:i-1<xs.size:=(lg.mp hj).1
  rcases nj (below xs (j+1)) i with hl|he|hg
  ·have hx:xs[below xs (j+1)]?=some xs[below xs (j+1)]:=by simp[show below xs (j+1)<xs.size by omega]
   have h1:=b3 _ _ (jm _) hx
   by_cases hq:below xs (j+1)=i-1
   ·have hx2:xs[below xs (j+1)]?=some j:=by rw[hq];exact hj
    have:=lu.inj (hx.symm.trans hx2)
    omega
   ·have:=HB r hx hj (by omega)
    omega
  ·exact he
  ·have hx:xs[i]?=some xs[i]:=by simp[show i<xs.size by omega]
   have h1:=b2 i _ hg hx
   have:=HB r hj hx (by omega)
   omega
section
variable {prog:Program} {w:World} {A:j6} {E:Value→Shared→Prop} {s:Shared}
variable {a:Addr} {o:Obj} {es:Array (Int×Value)} {ep:Nat} {t:lr}
noncomputable def DC(w:World)(h:Heap)(I a:Addr)(t:lr)(ep n i:Nat):Prop:=∃slot:Nat,h.get? I=some {cls:=.type "set_iterator",dict:=none,data:=.fields #[sf slot,sf i,.ref a,sf n,sf ep],slots:=#[]}∧
 (w.params.followText "set-order" =false→(i=0∧slot=0)∨(0<i∧∃j,t.place[i-1]?=some j∧slot=j+1))
theorem HJ(hg:s.heap.get? a=some o)(hd:o.data=.set es ep t)(hf:t.fits es.size=true)(hr:Rc t.place)(hpl:t.plain=true)(hled:t.led=!w.params.followText "set-order"){slot:Nat}(hi:i≤es.size)
  (hs:w.params.followText "set-order" =false→(i=0∧slot=0)∨(0<i∧∃j,t.place[i-1]?=some j∧slot=j+1))
  (hsome:∀e slot',(Df w a ep es)[i]?=some e→(w.params.followText "set-order" =false→∃j,t.place[i]?=some j∧slot'=j+1)→Q (some (e.2,slot')) s) (hnone:i=es.size→Q none s):wpAny (model prog w) A (setNext a slot i ep) Q E s:=by
 have hps:t.place.size=es.size:=by
  simp only[lr.fits,ki,beq_iff_eq] at hf
  exact hf.1
 have ask:∀{R:Bool→Shared→Prop},R (w.params.followText "set-order") s→wpAny (model prog w) A setsByText R E s:=fun h=>a9 (qc (b8 h))
 unfold setNext
 refine a9 (lV hg hd hf ?_)
 dsimp only
 refine a9 (ask ?_)
 cases hb:w.params.followText "set-order" with
 |true=>
  simp only[if_true]
  rw[if_neg (by simp)]
  refine a9 ?_
  unfold setWalk
  refine a9 (lV hg hd hf ?_)
  dsimp only
  refine a9 (ask ?_)
  rw[hb]
  simp only[if_true]
  refine a9 (qc (b8 ?_))
  refine b8 ?_
  have ho:Df w a ep es=qO (w.params.setOrder a ep) es:=by unfold Df;rw[if_pos hb]
  show Q (((qO (w.params.setOrder a ep) es)[i]?).map fun e=> (e.2,slot)) s
  rw[←ho]
  cases he:(Df w a ep es)[i]? with
  |some e=>exact hsome e slot he fun z=>by rw[hb] at z;cases z
  |none=>
   refine hnone ?_
   have:=Array.getElem?_eq_none_iff.mp he
   rw[EG] at this
   omega
 |false=>
  rw[hb] at hled
  simp only[j9,if_false]
  have hdr:(!t.plain&&decide (es.size>1))=false:=by rw[hpl];rfl
  show wpAny _ _ (if(!t.plain&&decide (es.size>1))=true then _ else _) _ _ s
  rw[hdr]
  simp only[j9,if_false]
  refine a9 ?_
  show wpAny _ _ (if(!t.led&&!es.isEmpty)=true then _ else pure ()) _ _ s
  rw[hled]
  simp only[rj,pE,Bool.false_and,j9,if_false]
  refine b8 ?_
  rw[Ml hr (by omega) (hs hb)]
  have ho:Df w a ep es=es:=by unfold Df;rw[if_neg (by rw[hb];decide)]
  by_cases hlt:i<es.size
  ·have e1:es[i]?=some es[i]:=by simp[hlt]
   have e2:t.place[i]?=some (t.place[i]'(by omega)):=by simp[show i<t.place.size by omega]
   rw[e1,e2]
   exact b8 (hsome es[i] _ (by rw[ho];exact e1) fun _=> ⟨_,e2,rfl⟩)
  ·have e1:es[i]?=none:=by simp;omega
   rw[e1]
   exact b8 (hnone (by omega))
end
section
variable {prog:Program} {w:World} {A:j6} {E:Value→Shared→Prop} {s:Shared}
variable {a I:Addr} {xs:List (List Int×Addr)} {o:Obj} {es:Array (Int×Value)} {ep:Nat} {t:lr}
structure Wk(w:World)(o:Obj)(es:Array (Int×Value))(ep:Nat)(t:lr):Prop where
 cls:o.cls=.type "set"
 dat:o.data=.set es ep t
 fits:t.fits es.size=true
 ris:Rc t.place
 pl:t.plain=true
 led:t.led=!w.params.followText "set-order"
theorem SetD.wk(S:SetD prog w s.heap a xs o es ep t):Wk w o es ep t:=⟨S.ex.1,S.dat,S.fits,S.tb.ris,S.pl,S.led⟩
theorem Cq(K:Wk w o es ep t)(hg:s.heap.get? a=some o)(h:Q es s):wpAny (model prog w) A (tN a) Q E s:=by
 unfold tN
 exact a9 (lV hg K.dat K.fits (b8 h))
theorem Pu(K:Wk w o es ep t)(hg:s.heap.get? a=some o)(hne:a≠I)(hi:i<es.size)(it:DC w s.heap I a t ep es.size i)
  (hQ:∀e h',(Df w a ep es)[i]?=some e→DC w h' I a t ep es.size (i+1)→nD I s.heap h'→Q (some e.2) {s with heap:=h'}):wpAny (model prog w) A (pk (.ref I)) Q E s:=by
 obtain⟨slot,ho,hsl⟩:=it
 have hT:s.TypeIs (.ref I) "set_iterator":=⟨_,ho,rfl⟩
 unfold pk
 refine a9 (pA (nG (name:=qJ "__next__") hT Av (mG Av hT DB ?_ (Dd _))))
 refine a9 (b8 ?_)
 refine a9 (wpAny_fieldsOf ho rfl ?_)
 show wpAny _ _ (tN a>>=_) _ _ s
 refine a9 (Cq K hg ?_)
 rw[if_neg (by simp)]
 show wpAny _ _ (setNext a ((slot:Int).toNat) ((i:Int).toNat) ((ep:Int).toNat)>>=_) _ _ s
 simp only[lC]
 refine a9 (HJ hg K.dat K.fits K.ris K.pl K.led (nq hi) hsl (fun e slot' he hs'=>?_) fun z=>by omega)
 dsimp only
 refine a9 (qQ ho (by simp) fun h1 ho1 hs1=>?_)
 refine a9 (qQ (s:={s with heap:=h1}) ho1 (by simp) fun h2 ho2 hs2=>?_)
 refine b8 ⟨_,rfl,b8 (hQ e h2 he ⟨slot',?_,fun hb=> .inr ⟨sj _,?_⟩⟩ (hs1.trans hs2))⟩
 ·simpa using ho2
 ·simpa using hs' hb
theorem Ri(K:Wk w o es ep t)(hh:A.handled=none)(hg:s.heap.get? a=some o)(hne:a≠I)(it:DC w s.heap I a t ep es.size es.size)
  (hQ:∀h',ug I s.heap h'→Q none {s with heap:=h'}):wpAny (model prog w) A (pk (.ref I)) Q E s:=by
 obtain⟨slot,ho,hsl⟩:=it
 have hT:s.TypeIs (.ref I) "set_iterator":=⟨_,ho,rfl⟩
 unfold pk
 refine a9 (pA (nG (name:=qJ "__next__") hT Av (mG Av hT DB ?_ (Dd _))))
 refine a9 (b8 ?_)
 refine a9 (wpAny_fieldsOf ho rfl ?_)
 show wpAny _ _ (tN a>>=_) _ _ s
 refine a9 (Cq K hg ?_)
 rw[if_neg (by simp)]
 show wpAny _ _ (setNext a ((slot:Int).toNat) ((es.size:Int).toNat) ((ep:Int).toNat)>>=_) _ _ s
 simp only[lC]
 refine a9 (HJ hg K.dat K.fits K.ris K.pl K.led (jm _) hsl (fun e slot' he hs'=>?_) fun z=>?_)
 ·have:=(lg.mp he).1
  rw[EG] at this
  omega
 dsimp only
 refine a9 (qQ ho (by simp) fun h1 ho1 hs1=>?_)
 show wpAny _ _ (newExc (.type "StopIteration") []>>=_) _ _ _
 refine a9 ?_
 simp only[newExc,newTuple]
 refine a9 (lK ?_ (by size_fits))
 refine a9 (m:=firstArgMember _ _) (rB (a:=nU) (by first|rfl| (simp only[firstArgMember];rfl)) ?_)
 refine lK ?_ (by size_fits)
 simp only[raiseNew]
 refine a9 (wpAny_handled ?_)
 rw[show A.in1.handled=none from hh]
 refine a9 (b8 (wpAny_throw ?_))
 refine a9 (wpAny_isInstance (T:="StopIteration") (b:=true) ⟨_,kb _ rfl,rfl⟩ isSubtype_stop ?_)
 exact b8 (hQ _ ((hs1.extBut.push _).push _))
theorem Pv(it:DC w s.heap I a t ep n i)(h:Q (.ref I) s):wpAny (model prog w) A (sQ (.ref I)) Q E s:=by
 obtain⟨slot,ho,_⟩:=it
 have hT:s.TypeIs (.ref I) "set_iterator":=⟨_,ho,rfl⟩
 refine wpAny_pyIter_slot hT Dc (mG Dc hT Fj ?_ (GR _))
 show wpAny _ _ (ret (.ref I)) _ _ s
 exact b8 ⟨_,rfl,"set_iterator",_,hT,Av.lookup,h⟩
theorem Rj(K:Wk w o es ep t)(hg:s.heap.get? a=some o)
  (h:Q (.ref s.heap.objs.size) {s with heap:=s.heap.push {cls:=.type "set_iterator",data:=.fields #[sf 0,sf 0,.ref a,sf es.size,sf ep]}}):wpAny (model prog w) A (sQ (.ref a)) Q E s:=by
 have hT:s.TypeIs (.ref a) "set":=⟨_,hg,K.cls⟩
 have ask:∀{A:j6} {E:Value→Shared→Prop} {R:Bool→Shared→Prop},R (w.params.followText "set-order") s→wpAny (model prog w) A setsByText R E s:=fun h=>a9 (qc (b8 h))
 refine wpAny_pyIter_slot hT PySem.F.slot_set_iter (mG PySem.F.slot_set_iter hT HI ?_ (PySem.F.args_set_iter_1 _))
 unfold Builtin.«frozenset.__iter__»
 refine a9 (a9 (b8 (b8 ?_)))
 refine a9 (a9 (Cq K hg (b8 ?_)))
 refine a9 ?_
 unfold setDrawn
 refine a9 (lV hg K.dat K.fits ?_)
 dsimp only
 refine a9 (ask (b8 ?_))
 have hdr:(!w.params.followText "set-order" &&(!t.plain&&decide (es.size>1)))=false:=by rw[K.pl];simp
 show wpAny _ _ (if(!w.params.followText "set-order" &&(!t.plain&&decide (es.size>1)))=true then _ else _) _ _ s
 rw[hdr]
 simp only[j9,if_false]
 refine a9 (b8 ?_)
 refine a9 (wpAny_setEpoch_of hg K.dat K.fits ?_)
 refine a9 ?_
 unfold newFields
 refine lK ?_
 refine b8 ⟨_,rfl,"set_iterator",_,⟨_,kb _ rfl,rfl⟩,Av.lookup,h⟩
theorem Pw(K:Wk w o es ep t)(hh:A.handled=none)(hne:a≠I):Walks prog w A I [I,a] [I] es.size (fun i v=>∃h,(Df w a ep es)[i]?=some (h,v)) (fun i h=>DC w h I a t ep es.size i∧h.get? a=some o) where
 sub:=fun b hb=>by simp at hb;simp[hb]
 frame:=fun i h h' st hk=>by
  obtain⟨⟨slot,h1,h2⟩,h3⟩:=st
  exact⟨⟨slot,hk I (by simp) _ h1,h2⟩,hk a (by simp) _ h3⟩
 item:=fun i s Q E hi st hQ=>Pu K st.2 hne hi st.1 fun e h' he it' sb=>hQ e.2 h' s.toks ⟨e.1,he⟩ ⟨it',(sb.2 a hne).trans st.2⟩ fun b o hb e=> (sb.2 b (fun z=>hb (by simp[z]))).trans e
 done:=fun s Q E st hQ=>Ri K hh st.2 hne st.1 fun h' he=>hQ h' s.toks fun b o hb e=>he b o (fun z=>hb (by simp[z])) e
 self:=fun i s Q E st hQ=>Pv st.1 hQ
theorem Rm(hT:s.TypeIs (.ref r) "set")(h:Q false s):wpAny (model prog w) A (Builtin.List.listLengthHint (.ref r)) Q E s:=by
 unfold Builtin.List.listLengthHint
 refine a9 (sv hT PySem.F.slot_set_len.lookup ?_)
 generalize hid:("set.__len__" :String)=id0
 wp_delta
 rw[show splitId id0=some ("set","__len__") from by subst hid;decide+kernel]
 subst hid
 refine a9 (wpAny_isInstance (T:="set") (b:=true) hT (by rw[sS];kernel_rfl) ?_)
 refine wpAny_ite_split (fun hab=>absurd hab (by decide)) (fun _=>?_)
 refine wpAny_ite_split (fun _=>?_) (fun hab=>absurd (by decide+kernel) hab)
 refine a9 (pT hT ?_)
 exact b8 h
theorem OK(K:Wk w o es ep t):PySem.W.KdlSrc prog w "set" a a es.size (fun i v=>∃h,(Df w a ep es)[i]?=some (h,v)) (fun h=>h.get? a=some o) where
 type:=fun _ hm=> ⟨_,hm,K.cls⟩
 there:=fun _ hm=> ⟨jo hm,jo hm⟩
 keep:=fun _ _ hm hk=>hk a (.inl rfl) _ hm
 notList:=by decide
 notTuple:=by decide
 hint:=fun _ _ _ _ hm hq=>Rm ⟨_,hm,K.cls⟩ hq
 iter:=fun A s hh hm=> ⟨_,_,(fun _ _ hq=>Rj K hm hq),Pw K hh (ke (jo hm)),⟨⟨0,kb _ rfl,fun _=> .inl ⟨rfl,rfl⟩⟩,c9 _ hm⟩⟩
end
end StT
namespace SrtG
open PySem PyProof.Rows
noncomputable def OL:Bool→Keyed→Array Keyed→Nat→Nat→Nat→StateT SortSt Sem (Option Nat):=sortPriv%PySem.Builtin.gallop
noncomputable def BY(left:Bool)(key:Keyed)(arr:Array Keyed)(base i:Nat):StateT kG Sem (Option Bool):=do
 let x←elem' arr (base+i)
 if left then lt' x key else return(←lt' key x).map (!·)
section
variable {prog:Program} {w:World} {A:j6} {E:Value→Shared→Prop} {s:Shared}
noncomputable def Px(prog:Program)(w:World)(A:j6)(E:Value→Shared→Prop)(s:Shared)(kd:oW)(U:Keyed→Prop)(rk:Keyed→Int):Prop:=
 ∀(st:kG) (x y:Keyed) (Q:Option Bool→kG→Prop),kindOf st=kd→U x→U y→Q (some (decide (rk x<rk y))) st→wpS (model prog w) A E s (lt' x y) Q st
variable {kd:oW} {U:Keyed→Prop} {rk:Keyed→Int}
noncomputable def RK(rk:Keyed→Int)(xs:Array Keyed)(i:Nat):Int:=match xs[i]? with
 |some p=>rk p
 |none=>0
noncomputable def AllU(U:Keyed→Prop)(xs:Array Keyed):Prop:=∀(i:Nat) (p:Keyed),xs[i]?=some p→U p
noncomputable def bt(left:Bool)(rk:Keyed→Int)(key:Keyed)(arr:Array Keyed)(base i:Nat):Bool:=if left then decide (RK rk arr (base+i)<rk key) else !decide (rk key<RK rk arr (base+i))
theorem VW{st:kG}(C:Px prog w A E s kd U rk)(hk:kindOf st=kd)(hK:U key)(hU:AllU U arr)(hi:base+i<arr.size)
  (h:Q (some (bt left rk key arr base i)) st):wpS (model prog w) A E s (BY left key arr base i) Q st:=by
 unfold BY
 have e:arr[base+i]?=some arr[base+i]:=getElem?_pos arr (base+i) hi
 rw[elem'_eq,e]
 refine i9 (jq ?_)
 have eR:RK rk arr (base+i)=rk arr[base+i]:=by unfold RK;rw[e]
 unfold bt at h
 rw[eR] at h
 cases left with
 |true=>
  rw[if_pos rfl] at h ⊢
  exact C st _ _ _ hk (hU _ _ e) hK h
 |false=>
  rw[if_neg e8] at h ⊢
  exact i9 (C st _ _ _ hk hK (hU _ _ e) (jq h))
noncomputable def Xm(P:Nat→Bool)(n r:Nat):Prop:=r≤n∧(∀i,i<r→P i=true)∧∀i,r≤i→i<n→P i=false
theorem Rn{α:Type}{b:Nat→StateT kG Sem (Option Bool)}{st:kG}(hb:∀i (Q:Option Bool→kG→Prop),i<n→Q (some (P i)) st→wpS (model prog w) A E s (b i) Q st)
  (mono:∀i j,i≤j→j<n→P j=true→P i=true) (hl:l≤h) (hn:h≤n) (h1:∀i,i<l→P i=true) (h2:∀i,h≤i→i<n→P i=false):
  wpS (model prog w) A E s (forIn [:n] ((none:Option (Option Nat)),l,h) fun x __s=>
   if __s.snd.fst≥__s.snd.snd then pure (ForInStep.done (none,__s.snd.fst,__s.snd.snd))
   else do
    let __x←b (__s.snd.fst+(__s.snd.snd-__s.snd.fst)/2)
    match __x with
     |some mr=>
      if mr=true then pure (nr (none,__s.snd.fst+(__s.snd.snd-__s.snd.fst)/2+1,__s.snd.snd))
      else pure (nr (none,__s.snd.fst,__s.snd.fst+(__s.snd.snd-__s.snd.fst)/2))
     |x=>pure (ForInStep.done (some none,__s.snd.fst,__s.snd.snd))) (fun c st'=>st'=st∧c.1=none∧Xm P n c.2.2) st:=by
 refine lA (I:=fun x c st'=>st'=st∧∃l h,c=(none,l,h)∧l≤h∧h≤n∧(∀i,i<l→P i=true)∧(∀i,h≤i→i<n→P i=false)∧h-l≤n-x) ?_ ?_ ⟨rfl,l,h,rfl,hl,hn,h1,h2,by omega⟩
 ·rintro x c st' _ hx ⟨rfl,l,h,rfl,hl,hn,h1,h2,hm⟩
  dsimp only
  by_cases hlh:l≥h
  ·rw[if_pos hlh]
   have e:l=h:=by omega
   subst e
   exact jq ⟨rfl,rfl,hn,h1,h2⟩
  ·rw[if_neg hlh]
   refine i9 (hb _ _ (by omega) ?_)
   dsimp only
   cases hP:P (l+(h-l)/2) with
   |true=>
    rw[if_pos rfl]
    exact jq ⟨rfl,_,_,rfl,by omega,hn,fun i hi=>mono i _ (by omega) (by omega) hP,h2,by omega⟩
   |false=>
    rw[if_neg e8]
    refine jq ⟨rfl,_,_,rfl,by omega,by omega,h1,fun i hi hin=>?_,by omega⟩
    cases q:P i with
    |false=>rfl
    |true=>rw[mono _ i hi hin q] at hP;cases hP
 ·rintro c st' ⟨rfl,l,h,rfl,hl,hn,h1,h2,hm⟩
  have e:l=h:=by
   have:max 0 n=n:=by omega
   rw[this] at hm
   omega
  subst e
  exact⟨rfl,rfl,hn,h1,h2⟩
theorem Bu {st: kG} (C : Px prog w A E s kd U rk) (hk : kindOf st = kd) (hK : U key) (hU : AllU U arr) (hb : base + n ≤ arr.size) (hh : hint < n)
    (mono : ∀ i j, i ≤ j → j < n → bt left rk key arr base j = true → bt left rk key arr base i = true)
    (h : ∀ r, Xm (bt left rk key arr base) n r → Q (some r) st) : wpS (model prog w) A E s (OL left key arr base n hint) Q st := by
  delta OL
  have hbey : ∀ i (Q : Option Bool → kG → Prop), i < n → Q (some (bt left rk key arr base i)) st → wpS (model prog w) A E s (BY left key arr base i) Q st := fun i Q hi q => VW C hk hK hU (by omega) q
  have fals : ∀ i j, i ≤ j → j < n → bt left rk key arr base i = false → bt left rk key arr base j = false := fun i j hij hj e => by
    cases q : bt left rk key arr base j with
    | false => rfl
    | true => rw [mono i j hij hj q] at e; cases e
  refine i9 (hbey _ _ hh ?_)
  dsimp only
  cases hP : bt left rk key arr base hint with
  | true =>
    rw [if_pos rfl]
    refine i9 (mO (lA (I := fun x c st' => st' = st ∧ ∃ la o, c = (none, la, o) ∧ la < o ∧ x + 1 ≤ o ∧ hint + la < n ∧ bt left rk key arr base (hint + la) = true)
      (Q := fun c st' => st' = st ∧ ∃ la o, c = (none, la, o) ∧ la < o ∧ hint + la < n ∧ bt left rk key arr base (hint + la) = true ∧ (n - hint ≤ o ∨ bt left rk key arr base (hint + o) = false)) ?_ ?_ ⟨rfl, 0, 1, rfl, by omega, by omega, hh, hP⟩) ?_)
    · rintro x c st' _ hx ⟨rfl, la, o, rfl, h1, h2, h3, h4⟩
      dsimp only
      by_cases ho : o ≥ n - hint
      · rw [if_pos ho]
        exact jq ⟨rfl, la, o, rfl, h1, h3, h4, .inl ho⟩
      · rw [if_neg ho]
        refine i9 (hbey _ _ (by omega) ?_)
        dsimp only
        cases hq : bt left rk key arr base (hint + o) with
        | false =>
          rw [if_pos (by decide)]
          exact jq ⟨rfl, la, o, rfl, h1, h3, h4, .inr hq⟩
        | true =>
          rw [if_neg (by decide)]
          exact jq ⟨rfl, o, _, rfl, by omega, by omega, by omega, hq⟩
    · rintro c st' ⟨rfl, la, o, rfl, h1, h2, h3, h4⟩
      exact ⟨rfl, la, o, rfl, h1, h3, h4, .inl (by have : max 0 n = n := by omega
                                                   omega)⟩
    · rintro c st' ⟨rfl, la, o, rfl, h1, h3, h4, h5⟩
      dsimp only
      refine i9 (mO (Rn (α := Unit) hbey mono (by omega) (by omega) (fun i hi => mono i (hint + la) (by omega) h3 h4) (fun i hi hin => ?_)) ?_)
      · rcases h5 with h5 | h5
        · omega
        · exact fals (hint + o) i (by omega) hin h5
      · rintro ⟨c1, c2, c3⟩ st'' ⟨rfl, e, pt⟩
        cases e
        exact jq (h _ pt)
  | false =>
    rw [if_neg e8]
    refine i9 (mO (lA (I := fun x c st' => st' = st ∧ ∃ la o, c = (none, la, o) ∧ la < o ∧ x + 1 ≤ o ∧ la ≤ hint ∧ bt left rk key arr base (hint - la) = false)
      (Q := fun c st' => st' = st ∧ ∃ la o, c = (none, la, o) ∧ la < o ∧ la ≤ hint ∧ bt left rk key arr base (hint - la) = false ∧ (hint + 1 ≤ o ∨ bt left rk key arr base (hint - o) = true)) ?_ ?_ ⟨rfl, 0, 1, rfl, by omega, by omega, by omega, hP⟩) ?_)
    · rintro x c st' _ hx ⟨rfl, la, o, rfl, h1, h2, h3, h4⟩
      dsimp only
      by_cases ho : o ≥ hint + 1
      · rw [if_pos ho]
        exact jq ⟨rfl, la, o, rfl, h1, h3, h4, .inl ho⟩
      · rw [if_neg ho]
        refine i9 (hbey _ _ (by omega) ?_)
        dsimp only
        cases hq : bt left rk key arr base (hint - o) with
        | true =>
          rw [if_pos rfl]
          exact jq ⟨rfl, la, o, rfl, h1, h3, h4, .inr hq⟩
        | false =>
          rw [if_neg e8]
          exact jq ⟨rfl, o, _, rfl, by omega, by omega, by omega, hq⟩
    · rintro c st' ⟨rfl, la, o, rfl, h1, h2, h3, h4⟩
      exact ⟨rfl, la, o, rfl, h1, h3, h4, .inl (by have : max 0 n = n := by omega
                                                   omega)⟩
    · rintro c st' ⟨rfl, la, o, rfl, h1, h3, h4, h5⟩
      dsimp only
      refine i9 (mO (Rn (α := Unit) hbey mono (by omega) (by omega) (fun i hi => ?_) (fun i hi hin => fals (hint - la) i hi hin h4)) ?_)
      · rcases h5 with h5 | h5
        · omega
        · exact mono i (hint - o) (by omega) (by omega) h5
      · rintro ⟨c1, c2, c3⟩ st'' ⟨rfl, e, pt⟩
        cases e
        exact jq (h _ pt)
end
local macro_rules | `(tactic| omega) => `(tactic| first | lia | omega)
open PySem PyProof.Rows
variable {rk:Keyed→Int}
noncomputable def Fl(rk:Keyed→Int)(a:Array Keyed):Prop:=∀i j,i≤j→j<a.size→RK rk a i≤RK rk a j
structure Mrg(rk:Keyed→Int)(a b out:Array Keyed)(i j:Nat):Prop where
 hi:i≤a.size
 hj:j≤b.size
 perm:out.toList.Perm (a.toList.take i++b.toList.take j)
 srt:out.toList.Pairwise fun x y=>rk x≤rk y
 ha:∀x,x∈out.toList→∀y,i≤y→y<a.size→rk x≤RK rk a y
 hb:∀x,x∈out.toList→∀y,j≤y→y<b.size→rk x≤RK rk b y
structure Fin2(rk:Keyed→Int)(a b r:Array Keyed):Prop where
 perm:r.toList.Perm (a.toList++b.toList)
 srt:r.toList.Pairwise fun x y=>rk x≤rk y
theorem BM(h:i<a.size):RK rk a i=rk a[i]:=by
 unfold RK
 rw[getElem?_pos a i h]
theorem Mrg.sym(m:Mrg rk a b out i j):Mrg rk b a out j i:=
 ⟨m.hj,m.hi,m.perm.trans mV,m.srt,m.hb,m.ha⟩
theorem Mrg.pushA(m:Mrg rk a b out i j)(sa:Fl rk a)(h:i<a.size)(hb:∀y,j≤y→y<b.size→rk a[i]≤RK rk b y):Mrg rk a b (out.push a[i]) (i+1) j:=by
 have e:(out.push a[i]).toList=out.toList++[a[i]]:=oa ..
 have t:a.toList.take (i+1)=a.toList.take i++[a[i]]:=by
  rw[oX]
  have:a.toList[i]?=some a[i]:=by rw[kJ];exact getElem?_pos a i h
  rw[this];rfl
 refine⟨h,m.hj,?_,?_,?_,?_⟩
 ·rw[e,t]
  have p1:=m.perm.append_right [a[i]]
  refine p1.trans ?_
  rw[lz,lz]
  exact qb _ mV
 ·rw[e,qz]
  refine⟨m.srt,mZ _ _,fun x hx y hy=>?_⟩
  cases jz.mp hy
  have:=m.ha x hx i (jm _) h
  rwa[BM h] at this
 ·intro x hx y hy hys
  rw[e] at hx
  rcases kj.mp hx with hx|hx
  ·exact m.ha x hx y (by omega) hys
  ·cases jz.mp hx
   have:=sa i y (by omega) hys
   rwa[BM h] at this
 ·intro x hx y hy hys
  rw[e] at hx
  rcases kj.mp hx with hx|hx
  ·exact m.hb x hx y hy hys
  ·cases jz.mp hx
   exact hb y hy hys
theorem Mrg.pushB(m:Mrg rk a b out i j)(sb:Fl rk b)(h:j<b.size)(ha:∀y,i≤y→y<a.size→rk b[j]≤RK rk a y):Mrg rk a b (out.push b[j]) i (j+1):=(m.sym.pushA sb h ha).sym
theorem JZ(a:Array Keyed)(i k:Nat)(h:i+k<a.size):a.extract i (i+(k+1))=(a.extract i (i+k)).push a[i+k]:=by
 apply o8
 rw[oa,lI,lI,kY,kY]
 have e1:i+(k+1)-i=k+1:=by omega
 have e2:i+k-i=k:=by omega
 rw[e1,e2,oX,mY,kJ,getElem?_pos a (i+k) h]
 rfl
theorem Mrg.appA:∀(k:Nat) {out:Array Keyed},Mrg rk a b out i j→Fl rk a→i+k≤a.size→(∀x,x<k→∀y,j≤y→y<b.size→RK rk a (i+x)≤RK rk b y)→Mrg rk a b (out++a.extract i (i+k)) (i+k) j
 |0,out,m,_,_,_=>by
  have:out++a.extract i (i+0)=out:=by
   apply o8
   rw[nL,lI,kY]
   have:i+0-i=0:=by omega
   rw[this,rf,mX]
  rw[this];exact m
 |k+1,out,m,sa,h,hb=>by
  have m':=Mrg.appA k m sa (by omega) fun x hx=>hb x (by omega)
  have hk:i+k<a.size:=by omega
  rw[JZ a i k hk,Array.append_push]
  exact m'.pushA sa hk fun y h1 h2=>by
   have:=hb k (by omega) y h1 h2
   rwa[BM hk] at this
theorem Mrg.appB(k:Nat)(m:Mrg rk a b out i j)(sb:Fl rk b)(h:j+k≤b.size)(ha:∀x,x<k→∀y,i≤y→y<a.size→RK rk b (j+x)≤RK rk a y):Mrg rk a b (out++b.extract j (j+k)) i (j+k):=(Mrg.appA k m.sym sb h ha).sym
theorem Mrg.fin(m:Mrg rk a b out a.size b.size):Fin2 rk a b out:=by
 have p:=m.perm
 rw[←i8,←i8,lQ,lQ] at p
 exact⟨p,m.srt⟩
theorem Mrg.restAB(m:Mrg rk a b out i j)(sa:Fl rk a)(sb:Fl rk b)(h:∀x y,i≤x→x<a.size→j≤y→y<b.size→RK rk a x≤RK rk b y):Fin2 rk a b (out++a.extract i a.size++b.extract j b.size):=by
 have hi:=m.hi
 have hj:=m.hj
 have m1:=m.appA (a.size-i) sa (by omega) fun x hx y h1 h2=>h _ _ (by omega) (by omega) h1 h2
 have e1:i+(a.size-i)=a.size:=by omega
 rw[e1] at m1
 have m2:=m1.appB (b.size-j) sb (by omega) fun x hx y h1 h2=>by omega
 have e2:j+(b.size-j)=b.size:=by omega
 rw[e2] at m2
 exact m2.fin
theorem Mrg.restBA(m:Mrg rk a b out i j)(sa:Fl rk a)(sb:Fl rk b)(h:∀x y,i≤x→x<a.size→j≤y→y<b.size→RK rk b y≤RK rk a x):Fin2 rk a b (out++b.extract j b.size++a.extract i a.size):=by
 have f:=m.sym.restAB sb sa fun x y h1 h2 h3 h4=>h y x h3 h4 h1 h2
 exact⟨f.perm.trans mV,f.srt⟩
end SrtG
namespace SrtG
local macro_rules | `(tactic| omega) => `(tactic| first | lia | omega)
open PySem PyProof.Rows
noncomputable def Kx:Array Keyed→Array Keyed→StateT SortSt Sem (Array Keyed):=sortPriv%PySem.Builtin.mergeLo
noncomputable def OM:Nat→StateT SortSt Sem Unit:=sortPriv%PySem.Builtin.setMinGallop
theorem Mm(g:Nat):OM g=modify fun s=>qX (kindOf s) (arrOf s) (pendingOf s) g (oz s):=rfl
noncomputable abbrev dn(a b out:Array Keyed)(ia ib:Nat):Array Keyed:=out++a.extract ia a.size++b.extract ib b.size
noncomputable abbrev la(a b out:Array Keyed)(ia ib:Nat):Array Keyed:=out++b.extract ib b.size++a.extract ia a.size
section
variable {prog:Program} {w:World} {A:j6} {E:Value→Shared→Prop} {s:Shared} {kd:oW} {U:Keyed→Prop} {rk:Keyed→Int}
structure Like(st st':kG):Prop where
 kd:kindOf st'=kindOf st
 arr:arrOf st'=arrOf st
 pd:pendingOf st'=pendingOf st
 fl:oz st'=oz st
theorem Like.refl(st:kG):Like st st:=⟨rfl,rfl,rfl,rfl⟩
theorem DQ{st:kG}(l:Like st0 st)(h:∀st',Like st0 st'→Q () st'):wpS (model prog w) A E s (OM g) Q st:=by
 rw[Mm]
 exact oC (h _ ⟨l.kd,l.arr,l.pd,l.fl⟩)
theorem AZ{st:kG}(hi:i<arr.size)(h:Q arr[i] st):wpS (model prog w) A E s (elem' arr i) Q st:=by
 rw[elem'_eq,getElem?_pos arr i hi]
 exact jq h
structure Hd(rk:Keyed→Int)(a b out:Array Keyed)(i j n:Nat):Prop where
 m:Mrg rk a b out i j
 hi:i+1<a.size
 hj:j<b.size
 hn:n≤i+j
theorem BG{hc:Decidable c}{Q:α→kG→Prop}{st:kG}(h1:c→wpS (model prog w) A E s t Q st)(h2:¬c→wpS (model prog w) A E s e Q st):wpS (model prog w) A E s (if c then t else e) Q st:=by
 by_cases h:c
 ·rw[if_pos h];exact h1 h
 ·rw[if_neg h];exact h2 h
theorem Ak{y:Nat}{Q:α→kG→Prop}{st:kG}(h1:x=y→wpS (model prog w) A E s t Q st)(h2:¬x=y→wpS (model prog w) A E s e Q st):wpS (model prog w) A E s (if(x==y)=true then t else e) Q st:=BG (fun h=>h1 (beq_iff_eq.mp h)) (fun h=>h2 fun q=>h (beq_iff_eq.mpr q))
theorem ON{γ δ:Type}{jp:γ→δ→StateT kG Sem α}{st:kG}(P:δ→Prop)(h1:(∀u x,P x→wpS (model prog w) A E s (jp u x) Q st)→wpS (model prog w) A E s X Q st)(h2:∀u x,P x→wpS (model prog w) A E s (jp u x) Q st):wpS (model prog w) A E s X Q st:=h1 h2
theorem GX{γ δ ε:Type}{jp:γ→δ→ε→StateT kG Sem α}{st:kG}(P:δ→ε→Prop)(h1:(∀u x y,P x y→wpS (model prog w) A E s (jp u x y) Q st)→wpS (model prog w) A E s X Q st)(h2:∀u x y,P x y→wpS (model prog w) A E s (jp u x y) Q st):wpS (model prog w) A E s X Q st:=h1 h2
theorem Ky{st:kG}(C:Px prog w A E s kd U rk)(hk:kindOf st=kd)(uA:AllU U a)(uB:AllU U b)(sa:Fl rk a)(sb:Fl rk b)(ha0:0<a.size)(hb0:0<b.size)
  (hfst:RK rk b 0≤RK rk a 0) (hlst:RK rk b (b.size-1)≤RK rk a (a.size-1))
  (h:∀r st',Like st st'→Fin2 rk a b r→Q r st'):wpS (model prog w) A E s (Kx a b) Q st:=by
 have Udn:∀{out i j},Mrg rk a b out i j→i=a.size∨j=b.size→Fin2 rk a b (dn a b out i j):=fun m hh=>m.restAB sa sb fun x y _ _ _ _=>by omega
 have Ula:∀{out i j},Mrg rk a b out i j→i+1=a.size→Fin2 rk a b (la a b out i j):=fun{out i j} m hh=>m.restBA sa sb fun x y h1 h2 h3 h4=>by
  have e1:=sb y (b.size-1) (by omega) (by omega)
  have e:x=a.size-1:=by omega
  subst e
  omega
 have uAt:∀{i} (hi:i<a.size),U a[i]:=fun hi=>uA _ _ (getElem?_pos a _ hi)
 have uBt:∀{i} (hi:i<b.size),U b[i]:=fun hi=>uB _ _ (getElem?_pos b _ hi)
 delta Kx
 refine i9 (qv (og ⟨rfl,?_⟩))
 refine i9 (AZ hb0 ?_)
 have m0:Mrg rk a b #[] 0 0:=⟨by omega,by omega,nB.nil,lD.nil,(fun x hx=>by cases hx),(fun x hx=>by cases hx)⟩
 have m1:Mrg rk a b #[b[0]] 0 1:=m0.pushB sb hb0 fun y _ hy=>by
  have e1:=sa 0 y (by omega) hy
  rw[←BM (rk:=rk) hb0]
  omega
 refine Ak (fun c1=>jq (h _ _ (Like.refl _) (Udn m1 (.inr c1)))) fun c1=>?_
 refine Ak (fun c2=>jq (h _ _ (Like.refl _) (Ula m1 c2))) fun c2=>?_
 refine i9 (pF ?_)
 refine i9 (mO (lA (I:=fun x c st'=>Like st st'∧∃out i j mg,c=(none,out,i,j,mg)∧Hd rk a b out i j (x+1))
  (Q:=fun c st'=>Like st st'∧∃r,c.1=some r∧Fin2 rk a b r) ?_ ?_ ⟨Like.refl _,_,_,_,_,rfl,m1,by omega,by omega,by omega⟩) ?_)
 ·rintro x c st1 _ hx ⟨lk,out,i,j,mg,rfl,hd⟩
  refine i9 (mO (lA (I:=fun _ c st'=>Like st st'∧∃out i j ac bc,c=(none,out,i,j,ac,bc)∧Hd rk a b out i j (x+1))
   (Q:=fun c st'=>Like st st'∧((∃r,c.1=some r∧Fin2 rk a b r)∨∃out i j ac bc,c=(none,out,i,j,ac,bc)∧Hd rk a b out i j (x+1))) ?_ ?_ ⟨lk,_,_,_,_,_,rfl,hd⟩) ?_)
  ·rintro x1 c st2 _ hx1 ⟨lk,out,i,j,ac,bc,rfl,hd⟩
   have hia:i<a.size:=by have:=hd.hi;omega
   have hjb:=hd.hj
   have hin:=hd.hn
   refine i9 (AZ hd.hj ?_)
   refine i9 (AZ hia ?_)
   refine i9 (C _ _ _ _ (lk.kd.trans hk) (uBt hd.hj) (uAt hia) ?_)
   refine BG (fun hlt=>?_) (fun hlt=>?_)
   ·have hlt:rk b[j]<rk a[i]:=of_decide_eq_true hlt
    have m:=hd.m.pushB sb hd.hj fun y h1 h2=>by
     have:=sa i y h1 h2
     rw[BM hia] at this
     omega
    refine i9 (AZ hd.hj ?_)
    refine Ak (fun c3=>jq ⟨lk,.inl ⟨_,rfl,Udn m (.inr c3)⟩⟩) fun c3=>?_
    have c3:¬j+1=b.size:=c3
    have hd':Hd rk a b (out.push b[j]) i (j+1) (x+1):=⟨m,hd.hi,by have:=hd.hj;omega,by omega⟩
    exact BG (fun _=>jq ⟨lk,.inr ⟨_,_,_,_,_,rfl,hd'⟩⟩) fun _=>jq ⟨lk,_,_,_,_,_,rfl,hd'⟩
   ·have hlt:¬rk b[j]<rk a[i]:=fun q=>hlt (decide_eq_true q)
    have m:=hd.m.pushA sa hia fun y h1 h2=>by
     have:=sb j y h1 h2
     rw[BM hd.hj] at this
     omega
    refine i9 (AZ hia ?_)
    refine Ak (fun c3=>jq ⟨lk,.inl ⟨_,rfl,Ula m c3⟩⟩) fun c3=>?_
    have c3:¬i+1+1=a.size:=c3
    have hd':Hd rk a b (out.push a[i]) (i+1) j (x+1):=⟨m,by have:=hd.hi;omega,hd.hj,by omega⟩
    exact BG (fun _=>jq ⟨lk,.inr ⟨_,_,_,_,_,rfl,hd'⟩⟩) fun _=>jq ⟨lk,_,_,_,_,_,rfl,hd'⟩
  ·rintro c st2 ⟨lk,hh⟩
   exact⟨lk,.inr hh⟩
  rintro c st2 ⟨lk,⟨r,e,f⟩| ⟨out,i,j,ac,bc,rfl,hd⟩⟩
  ·obtain⟨c1,c2⟩:=c
   cases e
   exact jq ⟨lk,_,rfl,f⟩
  refine i9 (qv (og ⟨rfl,?_⟩))
  refine i9 (mO (lA (I:=fun y c st'=>Like st st'∧∃out i j mg ac bc,c=(none,out,i,j,mg,ac,bc)∧Hd rk a b out i j (x+1+y))
   (Q:=fun c st'=>Like st st'∧((∃r,c.1=some r∧Fin2 rk a b r)∨∃out i j mg ac bc,c=(none,out,i,j,mg,ac,bc)∧Hd rk a b out i j (x+1+1))) ?_ ?_ ⟨lk,_,_,_,_,_,_,rfl,hd⟩) ?_)
  ·rintro x1 c st2 _ hx1 ⟨lk,out,i,j,mg,ac,bc,rfl,hd⟩
   have hia:i<a.size:=by have:=hd.hi;omega
   have hjb:=hd.hj
   have hin:=hd.hn
   extract_lets s1 o1 s2 i1 s3 j1 s4 g1 s5 ac1 bc1 j2 jp
   refine ON (jp:=jp) (fun _=>True) (fun k1=>BG (fun _=>k1 () _ trivial) fun _=>k1 () _ trivial) ?_
   intro u g _
   refine i9 (DQ lk fun st3 lk=>?_)
   refine i9 (AZ hjb ?_)
   refine i9 (Bu C (lk.kd.trans hk) (uBt hjb) uA (by show i+(a.size-i)≤a.size;omega) (by show 0<a.size-i;omega) ?_ ?_)
   ·intro p q hpq hq e
    have hq:q<a.size-i:=hq
    have e:bt false rk b[j] a i q=true:=e
    show bt false rk b[j] a i p=true
    unfold bt at e ⊢
    rw[if_neg e8] at e ⊢
    have e':=of_decide_eq_false (mw _|>.mp e)
    have:=sa (i+p) (i+q) (by omega) (by omega)
    exact(mw _).mpr (decide_eq_false (by omega))
   rintro k ⟨kn,kt,kf⟩
   have kn:k≤a.size-i:=kn
   have kf':∀y,i+k≤y→y<a.size→rk b[j]≤RK rk a y:=fun y h1 h2=>by
    have e:bt false rk b[j] a i (y-i)=false:=kf (y-i) (by omega) (by show y-i<a.size-i;omega)
    unfold bt at e
    rw[if_neg e8] at e
    have e':=of_decide_eq_true (rm _|>.mp e)
    have ey:i+(y-i)=y:=by omega
    rw[ey] at e'
    omega
   have m:=hd.m.appA k sa (by omega) fun x hx y h1 h2=>by
    have:=sb j y h1 h2
    have e:bt false rk b[j] a i x=true:=kt x hx
    unfold bt at e
    rw[if_neg e8] at e
    have e':=of_decide_eq_false (mw _|>.mp e)
    rw[BM hjb] at this
    omega
   dsimp-zeta only
   extract_lets ac2 jp2
   refine GX (jp:=jp2) (fun out i=>Mrg rk a b out i j∧i+1<a.size∧(∀y,i≤y→y<a.size→rk b[j]≤RK rk a y)∧x+1+x1≤i+j) (fun k2=>?_) ?_
   ·refine BG (fun k0=>?_) (fun k0=>k2 () _ _ ⟨hd.m,hd.hi,fun y (h1:i≤y) h2=>kf' y (by omega) h2,hin⟩)
    refine Ak (fun c3=>jq ⟨lk,.inl ⟨_,rfl,Ula m c3⟩⟩) fun c3=>?_
    refine Ak (fun c4=>jq ⟨lk,.inl ⟨_,rfl,Udn m (.inl c4)⟩⟩) fun c4=>?_
    have c3:¬i+k+1=a.size:=c3
    have c4:¬i+k=a.size:=c4
    exact k2 () _ _ ⟨m,by show i+k+1<a.size;omega,kf',by show x+1+x1≤i+k+j;omega⟩
   clear m kf' kt kf kn
   rintro u out i ⟨m,hi2,kf',hn'⟩
   have hi':i<a.size:=by omega
   refine i9 (AZ hjb ?_)
   have m2:=m.pushB sb hjb kf'
   refine Ak (fun c5=>jq ⟨lk,.inl ⟨_,rfl,Udn m2 (.inr c5)⟩⟩) fun c5=>?_
   have c5:¬j+1=b.size:=c5
   refine i9 (AZ hi' ?_)
   refine i9 (Bu C (lk.kd.trans hk) (uAt hi') uB (by show j+1+(b.size- (j+1))≤b.size;omega) (by show 0<b.size- (j+1);omega) ?_ ?_)
   ·intro p q hpq hq e
    have hq:q<b.size- (j+1):=hq
    have e:bt true rk a[i] b (j+1) q=true:=e
    show bt true rk a[i] b (j+1) p=true
    unfold bt at e ⊢
    rw[if_pos rfl] at e ⊢
    have e':=of_decide_eq_true e
    have:=sb (j+1+p) (j+1+q) (by omega) (by omega)
    exact decide_eq_true (by omega)
   rintro k2 ⟨k2n,k2t,k2f⟩
   have k2n:k2≤b.size- (j+1):=k2n
   have k2f':∀y,j+1+k2≤y→y<b.size→rk a[i]≤RK rk b y:=fun y h1 h2=>by
    have e:bt true rk a[i] b (j+1) (y- (j+1))=false:=k2f (y- (j+1)) (by omega) (by show y- (j+1)<b.size- (j+1);omega)
    unfold bt at e
    rw[if_pos rfl] at e
    have e':=of_decide_eq_false e
    have ey:j+1+(y- (j+1))=y:=by omega
    rw[ey] at e'
    omega
   have m3:=m2.appB k2 sb (by omega) fun x hx y h1 h2=>by
    have e:bt true rk a[i] b (j+1) x=true:=k2t x hx
    unfold bt at e
    rw[if_pos rfl] at e
    have e':=of_decide_eq_true e
    have:=sa _ y h1 h2
    rw[BM hi'] at this
    omega
   dsimp-zeta only
   extract_lets bc2 i3 jp3
   refine GX (jp:=jp3) (fun out j2=>Mrg rk a b out i j2∧j2<b.size∧x+1+x1+1≤i+j2∧∀y,j2≤y→y<b.size→rk a[i]≤RK rk b y) (fun k3=>?_) ?_
   ·refine BG (fun k20=>?_) (fun k20=>k3 () _ _ ⟨m2,by show j+1<b.size;omega,by show x+1+x1+1≤i+(j+1);omega,fun y (h1:j+1≤y) h2=>k2f' y (by omega) h2⟩)
    refine Ak (fun c6=>jq ⟨lk,.inl ⟨_,rfl,Udn m3 (.inr c6)⟩⟩) fun c6=>?_
    have c6:¬j+1+k2=b.size:=c6
    exact k3 () _ _ ⟨m3,by show j+1+k2<b.size;omega,by show x+1+x1+1≤i+(j+1+k2);omega,k2f'⟩
   clear m3 k2f' k2t k2f m2
   rintro u o2 j3 ⟨m3,hj2,hn2,k2f'⟩
   have m4:=m3.pushA sa hi' k2f'
   refine i9 (AZ hi' ?_)
   refine Ak (fun c7=>jq ⟨lk,.inl ⟨_,rfl,Ula m4 c7⟩⟩) fun c7=>?_
   have c7:¬i+1+1=a.size:=c7
   exact BG (fun _=>jq ⟨lk,.inr ⟨_,_,_,_,_,_,rfl,m4,by omega,by omega,by omega⟩⟩) fun _=>jq ⟨lk,_,_,_,_,_,_,rfl,m4,by omega,by omega,by omega⟩
  ·rintro c st2 ⟨lk,out,i,j,mg,ac,bc,rfl,hd⟩
   have e:max 0 (a.size+b.size)=a.size+b.size:=by omega
   rw[e] at hd
   exact⟨lk,.inr ⟨_,_,_,_,_,_,rfl,hd.m,hd.hi,hd.hj,by have:=hd.hn;omega⟩⟩
  rintro c st2 ⟨lk,⟨r,e,f⟩| ⟨out,i,j,mg,ac,bc,rfl,hd⟩⟩
  ·obtain⟨c1,c2⟩:=c
   cases e
   exact jq ⟨lk,_,rfl,f⟩
  refine i9 (DQ lk fun st3 lk=>?_)
  exact jq ⟨lk,_,_,_,_,rfl,hd⟩
 ·rintro c st1 ⟨lk,out,i,j,mg,rfl,hd⟩
  have e:max 0 (a.size+b.size)=a.size+b.size:=by omega
  rw[e] at hd
  have:=hd.hn
  have:=hd.hi
  have:=hd.hj
  omega
 ·rintro c st1 ⟨lk,r,e,f⟩
  obtain⟨c1,c2⟩:=c
  cases e
  exact jq (h _ _ lk f)
end
end SrtG
namespace SrtG
local macro_rules | `(tactic| omega) => `(tactic| first | lia | omega)
open PySem PyProof.Rows
variable {rk:Keyed→Int}
structure Mrh(rk:Keyed→Int)(a b out:Array Keyed)(i j:Nat):Prop where
 hi:i≤a.size
 hj:j≤b.size
 perm:out.toList.Perm (a.toList.drop i++b.toList.drop j)
 srt:out.toList.Pairwise fun x y=>rk y≤rk x
 ha:∀x,x∈out.toList→∀y,y<i→RK rk a y≤rk x
 hb:∀x,x∈out.toList→∀y,y<j→RK rk b y≤rk x
theorem Mrh.sym(m:Mrh rk a b out i j):Mrh rk b a out j i:=
 ⟨m.hj,m.hi,m.perm.trans mV,m.srt,m.hb,m.ha⟩
theorem Mrh.pushA(m:Mrh rk a b out (i+1) j)(sa:Fl rk a)(h:i<a.size)(hb:∀y,y<j→RK rk b y≤rk a[i]):Mrh rk a b (out.push a[i]) i j:=by
 have e:(out.push a[i]).toList=out.toList++[a[i]]:=oa ..
 have t:a.toList.drop i=a[i]::a.toList.drop (i+1):=by
  have hl:i<a.toList.length:=by rw[i8];exact h
  rw[ny hl]
  rfl
 refine⟨by omega,m.hj,?_,?_,?_,?_⟩
 ·rw[e,t]
  exact mV.trans (m.perm.cons a[i])
 ·rw[e,qz]
  refine⟨m.srt,mZ _ _,fun x hx y hy=>?_⟩
  cases jz.mp hy
  have:=m.ha x hx i (nQ _)
  rwa[BM h] at this
 ·intro x hx y hy
  rw[e] at hx
  rcases kj.mp hx with hx|hx
  ·exact m.ha x hx y (by omega)
  ·cases jz.mp hx
   have:=sa y i (by omega) h
   rwa[BM h] at this
 ·intro x hx y hy
  rw[e] at hx
  rcases kj.mp hx with hx|hx
  ·exact m.hb x hx y hy
  ·cases jz.mp hx
   exact hb y hy
theorem Mrh.pushB(m:Mrh rk a b out i (j+1))(sb:Fl rk b)(h:j<b.size)(ha:∀y,y<i→RK rk a y≤rk b[j]):Mrh rk a b (out.push b[j]) i j:=(m.sym.pushA sb h ha).sym
theorem Ja(a:Array Keyed)(l h:Nat)(hl:l<h)(hh:h≤a.size):(a.extract l h).reverse=(a.extract (l+1) h).reverse.push (a[l]'(by omega)):=by
 apply o8
 rw[oa,l4,l4,lI,lI,kY,kY]
 have hln:l<a.toList.length:=by rw[i8];omega
 have e1:h-l=(h- (l+1))+1:=by omega
 rw[ny hln,e1,List.take_succ_cons,nZ]
 rfl
theorem Mrh.appA:∀(k:Nat) {out:Array Keyed},Mrh rk a b out i j→Fl rk a→k≤i→(∀x,i-k≤x→x<i→∀y,y<j→RK rk b y≤RK rk a x)→Mrh rk a b (out++(a.extract (i-k) i).reverse) (i-k) j
 |0,out,m,_,_,_=>by
  have:out++(a.extract (i-0) i).reverse=out:=by
   apply o8
   rw[nL,l4,lI,kY]
   have:i- (i-0)=0:=by omega
   rw[this,rf,List.reverse_nil,mX]
  rw[this];exact m
 |k+1,out,m,sa,h,hb=>by
  have hi:=m.hi
  have m':=Mrh.appA k m sa (by omega) fun x hx=>hb x (by omega)
  have hk:i- (k+1)<a.size:=by omega
  have e:i- (k+1)+1=i-k:=by omega
  rw[Ja a (i- (k+1)) i (by omega) hi,Array.append_push,e]
  rw[←e] at m'
  have q:=m'.pushA sa hk fun y h1=>by
   have:=hb (i- (k+1)) (by omega) (by omega) y h1
   rwa[BM hk] at this
  rw[e] at q
  exact q
theorem Mrh.appA'(m:Mrh rk a b out i j)(sa:Fl rk a)(h:l≤i)(hb:∀x,l≤x→x<i→∀y,y<j→RK rk b y≤RK rk a x):Mrh rk a b (out++(a.extract l i).reverse) l j:=by
 have e:i- (i-l)=l:=by omega
 have q:=m.appA (i-l) sa (by omega) (by rw[e];exact hb)
 rwa[e] at q
theorem Mrh.appB'(m:Mrh rk a b out i j)(sb:Fl rk b)(h:l≤j)(ha:∀x,l≤x→x<j→∀y,y<i→RK rk a y≤RK rk b x):Mrh rk a b (out++(b.extract l j).reverse) i l:=(m.sym.appA' sb h ha).sym
theorem Mrh.fin(m:Mrh rk a b out 0 0):Fin2 rk a b out.reverse:=by
 have p:=m.perm
 rw[List.drop_zero,List.drop_zero] at p
 constructor
 ·rw[l4]
  exact(List.reverse_perm _).trans p
 ·rw[l4,List.pairwise_reverse]
  exact m.srt
theorem Mrh.restAB(m:Mrh rk a b out i j)(sa:Fl rk a)(sb:Fl rk b)(h:∀x y,x<i→y<j→RK rk a x≤RK rk b y):Fin2 rk a b (a.extract 0 i++b.extract 0 j++out.reverse):=by
 have m1:=m.appB' (l:=0) sb (by omega) fun x _ hx y hy=>h y x hy hx
 have m2:=m1.appA' (l:=0) sa (by omega) fun x _ _ y hy=>by omega
 have f:=m2.fin
 have e:(out++(b.extract 0 j).reverse++(a.extract 0 i).reverse).reverse=a.extract 0 i++b.extract 0 j++out.reverse:=by
  apply o8
  rw[l4,nL,nL,nL,nL,l4,l4,l4,List.reverse_append,List.reverse_append,List.reverse_reverse,List.reverse_reverse,lz]
 rwa[e] at f
theorem Mrh.restBA(m:Mrh rk a b out i j)(sa:Fl rk a)(sb:Fl rk b)(h:∀x y,x<i→y<j→RK rk b y≤RK rk a x):Fin2 rk a b (b.extract 0 j++a.extract 0 i++out.reverse):=by
 have f:=m.sym.restAB sb sa fun x y h1 h2=>h y x h2 h1
 exact⟨f.perm.trans mV,f.srt⟩
noncomputable def Kz:Array Keyed→Array Keyed→StateT SortSt Sem (Array Keyed):=sortPriv%PySem.Builtin.mergeHi
noncomputable abbrev iz(a b out:Array Keyed)(i j:Nat):Array Keyed:=a.extract 0 i++b.extract 0 j++out.reverse
noncomputable abbrev jA(a b out:Array Keyed)(i j:Nat):Array Keyed:=b.extract 0 j++a.extract 0 i++out.reverse
end SrtG
namespace SrtG
local macro_rules | `(tactic| omega) => `(tactic| first | lia | omega)
open PySem PyProof.Rows
variable {prog:Program} {w:World} {A:j6} {E:Value→Shared→Prop} {s:Shared} {kd:oW} {U:Keyed→Prop} {rk:Keyed→Int}
theorem Mrh.pushA1(m:Mrh rk a b out i j)(sa:Fl rk a)(h0:0<i)(h:i-1<a.size)(hb:∀y,y<j→RK rk b y≤rk a[i-1]):Mrh rk a b (out.push a[i-1]) (i-1) j:=by
 cases i with
 |zero=>omega
 |succ i=>exact m.pushA sa h hb
structure Hh(rk:Keyed→Int)(a b out:Array Keyed)(i j n:Nat):Prop where
 m:Mrh rk a b out i j
 hi:0<i
 hj:1<j
 hn:i+j+n≤a.size+b.size
theorem LA{st:kG}(C:Px prog w A E s kd U rk)(hk:kindOf st=kd)(uA:AllU U a)(uB:AllU U b)(sa:Fl rk a)(sb:Fl rk b)(ha0:0<a.size)(hb0:0<b.size)
  (hfst:RK rk b 0≤RK rk a 0) (hlst:RK rk b (b.size-1)≤RK rk a (a.size-1))
  (h:∀r st',Like st st'→Fin2 rk a b r→Q r st'):wpS (model prog w) A E s (Kz a b) Q st:=by
 have Udn:∀{out i j},Mrh rk a b out i j→i=0∨j=0→Fin2 rk a b (iz a b out i j):=fun m hh=>m.restAB sa sb fun x y _ _=>by omega
 have Ula:∀{out i j},Mrh rk a b out i j→j=1→Fin2 rk a b (jA a b out i j):=fun{out i j} m hh=>m.restBA sa sb fun x y h1 h2=>by
  have hi:=m.hi
  have e1:=sa 0 x (by omega) (by omega)
  have e:y=0:=by omega
  subst e
  omega
 have uAt:∀{i} (hi:i<a.size),U a[i]:=fun hi=>uA _ _ (getElem?_pos a _ hi)
 have uBt:∀{i} (hi:i<b.size),U b[i]:=fun hi=>uB _ _ (getElem?_pos b _ hi)
 have hal:a.size-1<a.size:=by omega
 delta Kz
 refine i9 (qv (og ⟨rfl,?_⟩))
 refine i9 (AZ hal ?_)
 have m0:Mrh rk a b #[] (a.size-1+1) b.size:=by
  have e:a.size-1+1=a.size:=by omega
  rw[e]
  refine⟨by omega,by omega,?_,lD.nil,(fun x hx=>by cases hx),(fun x hx=>by cases hx)⟩
  rw[←i8,←i8,List.drop_length,List.drop_length]
  exact nB.nil
 have m1:Mrh rk a b #[a[a.size-1]] (a.size-1) b.size:=m0.pushA sa hal fun y hy=>by
  have e1:=sb y (b.size-1) (by omega) (by omega)
  rw[←BM (rk:=rk) hal]
  omega
 refine Ak (fun c1=>jq (h _ _ (Like.refl _) (Udn m1 (.inl c1)))) fun c1=>?_
 refine Ak (fun c2=>jq (h _ _ (Like.refl _) (Ula m1 c2))) fun c2=>?_
 refine i9 (pF ?_)
 refine i9 (mO (lA (I:=fun x c st'=>Like st st'∧∃out i j mg,c=(none,i,j,out,mg)∧Hh rk a b out i j (x+1))
  (Q:=fun c st'=>Like st st'∧∃r,c.1=some r∧Fin2 rk a b r) ?_ ?_ ⟨Like.refl _,_,_,_,_,rfl,m1,by omega,by omega,by omega⟩) ?_)
 ·rintro x c st1 _ hx ⟨lk,out,i,j,mg,rfl,hd⟩
  refine i9 (mO (lA (I:=fun _ c st'=>Like st st'∧∃out i j ac bc,c=(none,i,j,out,ac,bc)∧Hh rk a b out i j (x+1))
   (Q:=fun c st'=>Like st st'∧((∃r,c.1=some r∧Fin2 rk a b r)∨∃out i j ac bc,c=(none,i,j,out,ac,bc)∧Hh rk a b out i j (x+1))) ?_ ?_ ⟨lk,_,_,_,_,_,rfl,hd⟩) ?_)
  ·rintro x1 c st2 _ hx1 ⟨lk,out,i,j,ac,bc,rfl,hd⟩
   have hi0:=hd.hi
   have hj0:=hd.hj
   have hin:=hd.hn
   have hia:i-1<a.size:=by have:=hd.m.hi;omega
   have hjb:j-1<b.size:=by have:=hd.m.hj;omega
   have ei:i-1+1=i:=by omega
   have ej:j-1+1=j:=by omega
   have m:=hd.m
   refine i9 (AZ hjb ?_)
   refine i9 (AZ hia ?_)
   refine i9 (C _ _ _ _ (lk.kd.trans hk) (uBt hjb) (uAt hia) ?_)
   refine BG (fun hlt=>?_) (fun hlt=>?_)
   ·have hlt:rk b[j-1]<rk a[i-1]:=of_decide_eq_true hlt
    rw[←ei] at m
    have m:=m.pushA sa hia fun y h1=>by
     have:=sb y (j-1) (by omega) hjb
     rw[BM hjb] at this
     omega
    refine i9 (AZ hia ?_)
    refine Ak (fun c3=>jq ⟨lk,.inl ⟨_,rfl,Udn m (.inl c3)⟩⟩) fun c3=>?_
    have c3:¬i-1=0:=c3
    have hd':Hh rk a b (out.push a[i-1]) (i-1) j (x+1):=⟨m,by omega,by omega,by omega⟩
    exact BG (fun _=>jq ⟨lk,.inr ⟨_,_,_,_,_,rfl,hd'⟩⟩) fun _=>jq ⟨lk,_,_,_,_,_,rfl,hd'⟩
   ·have hlt:¬rk b[j-1]<rk a[i-1]:=fun q=>hlt (decide_eq_true q)
    rw[←ej] at m
    have m:=m.pushB sb hjb fun y h1=>by
     have:=sa y (i-1) (by omega) hia
     rw[BM hia] at this
     omega
    refine i9 (AZ hjb ?_)
    refine Ak (fun c3=>jq ⟨lk,.inl ⟨_,rfl,Ula m c3⟩⟩) fun c3=>?_
    have c3:¬j-1=1:=c3
    have hd':Hh rk a b (out.push b[j-1]) i (j-1) (x+1):=⟨m,by omega,by omega,by omega⟩
    exact BG (fun _=>jq ⟨lk,.inr ⟨_,_,_,_,_,rfl,hd'⟩⟩) fun _=>jq ⟨lk,_,_,_,_,_,rfl,hd'⟩
  ·rintro c st2 ⟨lk,hh⟩
   exact⟨lk,.inr hh⟩
  rintro c st2 ⟨lk,⟨r,e,f⟩| ⟨out,i,j,ac,bc,rfl,hd⟩⟩
  ·obtain⟨c1,c2⟩:=c
   cases e
   exact jq ⟨lk,_,rfl,f⟩
  refine i9 (qv (og ⟨rfl,?_⟩))
  refine i9 (mO (lA (I:=fun y c st'=>Like st st'∧∃out i j mg ac bc,c=(none,i,j,out,mg,ac,bc)∧Hh rk a b out i j (x+1+y))
   (Q:=fun c st'=>Like st st'∧((∃r,c.1=some r∧Fin2 rk a b r)∨∃out i j mg ac bc,c=(none,i,j,out,mg,ac,bc)∧Hh rk a b out i j (x+1+1))) ?_ ?_ ⟨lk,_,_,_,_,_,_,rfl,hd⟩) ?_)
  ·rintro x1 c st2 _ hx1 ⟨lk,out,i,j,mg,ac,bc,rfl,hd⟩
   have hi0:=hd.hi
   have hj0:=hd.hj
   have hin:=hd.hn
   have hia:=hd.m.hi
   have hjl:=hd.m.hj
   have hjb:j-1<b.size:=by omega
   extract_lets s1 i1 s2 j1 s3 o1 s4 g1 s5 ac1 bc1 j2 jp
   refine ON (jp:=jp) (fun _=>True) (fun k1=>BG (fun _=>k1 () _ trivial) fun _=>k1 () _ trivial) ?_
   intro u g _
   refine i9 (DQ lk fun st3 lk=>?_)
   refine i9 (AZ hjb ?_)
   refine i9 (Bu C (lk.kd.trans hk) (uBt hjb) uA (by show 0+i≤a.size;omega) (by show i-1<i;omega) ?_ ?_)
   ·intro p q hpq hq e
    have hq:q<i:=hq
    have e:bt false rk b[j-1] a 0 q=true:=e
    show bt false rk b[j-1] a 0 p=true
    unfold bt at e ⊢
    rw[if_neg e8] at e ⊢
    have e':=of_decide_eq_false (mw _|>.mp e)
    have:=sa (0+p) (0+q) (by omega) (by omega)
    exact(mw _).mpr (decide_eq_false (by omega))
   rintro p ⟨kn,kt,kf⟩
   have kn:p≤i:=kn
   have kf':∀y,y<p→RK rk a y≤rk b[j-1]:=fun y hy=>by
    have e:bt false rk b[j-1] a 0 y=true:=kt y hy
    unfold bt at e
    rw[if_neg e8] at e
    have e':=of_decide_eq_false (mw _|>.mp e)
    rw[ph] at e'
    omega
   have m:=hd.m.appA' sa kn fun x h1 h2 y h3=>by
    have e:bt false rk b[j-1] a 0 x=false:=kf x h1 h2
    unfold bt at e
    rw[if_neg e8] at e
    have e':=of_decide_eq_true (rm _|>.mp e)
    rw[ph] at e'
    have:=sb y (j-1) (by omega) hjb
    rw[BM hjb] at this
    omega
   dsimp-zeta only
   extract_lets k ac2 jp2
   refine GX (jp:=jp2) (fun p out=>Mrh rk a b out p j∧0<p∧p≤i∧∀y,y<p→RK rk a y≤rk b[j-1]) (fun k2=>?_) ?_
   ·refine BG (fun k0=>?_) (fun k0=>k2 () _ _ ⟨hd.m,hi0,jm _,fun y (h1:y<i)=>kf' y (by have k0:¬i-p>0:=k0;omega)⟩)
    refine Ak (fun c3=>jq ⟨lk,.inl ⟨_,rfl,Udn m (.inl c3)⟩⟩) fun c3=>?_
    have c3:¬p=0:=c3
    exact k2 () _ _ ⟨m,by show 0<p;omega,kn,kf'⟩
   clear m kf' kt kf
   rintro u p out ⟨m,hI,kn',kf'⟩
   have ej:j-1+1=j:=by omega
   rw[←ej] at m
   have m2:=m.pushB sb hjb kf'
   refine i9 (AZ hjb ?_)
   refine Ak (fun c5=>jq ⟨lk,.inl ⟨_,rfl,Ula m2 c5⟩⟩) fun c5=>?_
   have c5:¬j-1=1:=c5
   have hI1:p-1<a.size:=by omega
   refine i9 (AZ hI1 ?_)
   refine i9 (Bu C (lk.kd.trans hk) (uAt hI1) uB (by show 0+(j-1)≤b.size;omega) (by show j-1-1<j-1;omega) ?_ ?_)
   ·intro p' q hpq hq e
    have hq:q<j-1:=hq
    have e:bt true rk a[p-1] b 0 q=true:=e
    show bt true rk a[p-1] b 0 p'=true
    unfold bt at e ⊢
    rw[if_pos rfl] at e ⊢
    have e':=of_decide_eq_true e
    have:=sb (0+p') (0+q) (by omega) (by omega)
    exact decide_eq_true (by omega)
   rintro q ⟨k2n,k2t,k2f⟩
   have k2n:q≤j-1:=k2n
   have k2t':∀y,y<q→RK rk b y≤rk a[p-1]:=fun y hx=>by
    have e:bt true rk a[p-1] b 0 y=true:=k2t y hx
    unfold bt at e
    rw[if_pos rfl] at e
    have e':=of_decide_eq_true e
    rw[ph] at e'
    omega
   have m3:=m2.appB' sb k2n fun x h1 h2 y h3=>by
    have e:bt true rk a[p-1] b 0 x=false:=k2f x h1 h2
    unfold bt at e
    rw[if_pos rfl] at e
    have e':=of_decide_eq_false e
    rw[ph] at e'
    have:=sa y (p-1) (by omega) hI1
    rw[BM hI1] at this
    omega
   dsimp-zeta only
   extract_lets kk bc2 p2 jp3
   refine GX (jp:=jp3) (fun q out=>Mrh rk a b out p q∧1<q∧q≤j-1∧∀y,y<q→RK rk b y≤rk a[p-1]) (fun k3=>?_) ?_
   ·refine BG (fun k20=>?_) (fun k20=>k3 () _ _ ⟨m2,by show 1<j-1;omega,jm _,fun y (h1:y<j-1)=>k2t' y (by have k20:¬j-1-q>0:=k20;omega)⟩)
    refine Ak (fun c6=>jq ⟨lk,.inl ⟨_,rfl,Ula m3 c6⟩⟩) fun c6=>?_
    refine Ak (fun c8=>jq ⟨lk,.inl ⟨_,rfl,Udn m3 (.inr c8)⟩⟩) fun c8=>?_
    have c6:¬q=1:=c6
    have c8:¬q=0:=c8
    exact k3 () _ _ ⟨m3,by show 1<q;omega,k2n,k2t'⟩
   clear m3 k2t' k2t k2f m2
   rintro u q o2 ⟨m3,hq1,hq2,k2t'⟩
   have m4:=m3.pushA1 sa hI hI1 k2t'
   refine i9 (AZ hI1 ?_)
   refine Ak (fun c7=>jq ⟨lk,.inl ⟨_,rfl,Udn m4 (.inl c7)⟩⟩) fun c7=>?_
   have c7:¬p-1=0:=c7
   exact BG (fun _=>jq ⟨lk,.inr ⟨_,_,_,_,_,_,rfl,m4,by show 0<p-1;omega,by omega,by show p-1+q+_≤_;omega⟩⟩) fun _=>jq ⟨lk,_,_,_,_,_,_,rfl,m4,by show 0<p-1;omega,by omega,by show p-1+q+_≤_;omega⟩
  ·rintro c st2 ⟨lk,out,i,j,mg,ac,bc,rfl,hd⟩
   have e:max 0 (a.size+b.size)=a.size+b.size:=by omega
   rw[e] at hd
   exact⟨lk,.inr ⟨_,_,_,_,_,_,rfl,hd.m,hd.hi,hd.hj,by have:=hd.hn;omega⟩⟩
  rintro c st2 ⟨lk,⟨r,e,f⟩| ⟨out,i,j,mg,ac,bc,rfl,hd⟩⟩
  ·obtain⟨c1,c2⟩:=c
   cases e
   exact jq ⟨lk,_,rfl,f⟩
  refine i9 (DQ lk fun st3 lk=>?_)
  exact jq ⟨lk,_,_,_,_,rfl,hd⟩
 ·rintro c st1 ⟨lk,out,i,j,mg,rfl,hd⟩
  have e:max 0 (a.size+b.size)=a.size+b.size:=by omega
  rw[e] at hd
  have:=hd.hn
  have:=hd.hi
  have:=hd.hj
  omega
 ·rintro c st1 ⟨lk,r,e,f⟩
  obtain⟨c1,c2⟩:=c
  cases e
  exact jq (h _ _ lk f)
end SrtG
namespace SrtG
local macro_rules | `(tactic| omega) => `(tactic| first | lia | omega)
open PySem PyProof.Rows
variable {rk:Keyed→Int}
noncomputable def Seg(rk:Keyed→Int)(arr:Array Keyed)(lo hi:Nat):Prop:=∀x y,lo≤x→x≤y→y<hi→RK rk arr x≤RK rk arr y
structure Upd(rk:Keyed→Int)(arr arr':Array Keyed)(lo hi:Nat):Prop where
 perm:arr'.toList.Perm arr.toList
 out:∀x,x<lo∨hi≤x→arr'[x]?=arr[x]?
 seg:Seg rk arr' lo hi
theorem Cr(h:arr'[x]?=arr[x]?):RK rk arr' x=RK rk arr x:=by unfold RK;rw[h]
noncomputable abbrev back(l:List (Keyed×Nat))(lo:Nat)(arr:Array Keyed):Array Keyed:=l.foldl (fun a (p,j)=>a.setIfInBounds (lo+j) p) arr
theorem HL(lo:Nat):∀(l:List Keyed) (n:Nat) (arr:Array Keyed),lo+n+l.length≤arr.size→∀x,(back (l.zipIdx n) lo arr)[x]?=if lo+n≤x∧x<lo+n+l.length then l[x- (lo+n)]? else arr[x]?
 | [],n,arr,_,x=>by
  rw[if_neg (by rintro⟨h1,h2⟩;simp only[List.length_nil] at h2;omega)]
  rfl
 |p::l,n,arr,h,x=>by
  rw[km] at h
  have e:back ((p::l).zipIdx n) lo arr=back (l.zipIdx (n+1)) lo (arr.setIfInBounds (lo+n) p):=by rw[List.zipIdx_cons];rfl
  rw[e,HL lo l (n+1) _ (by rw[Array.size_setIfInBounds];omega) x,km]
  by_cases c:lo+(n+1)≤x∧x<lo+(n+1)+l.length
  ·rw[if_pos c,if_pos (by omega)]
   have e2:x- (lo+n)=(x- (lo+(n+1)))+1:=by omega
   rw[e2,oA]
  ·rw[if_neg c,Array.getElem?_setIfInBounds]
   by_cases c2:lo+n=x
   ·rw[if_pos c2,if_pos (by omega),if_pos (by omega)]
    have e2:x- (lo+n)=0:=by omega
    rw[e2];rfl
   ·rw[if_neg c2,if_neg (by omega)]
theorem Py{lo:Nat}(h:lo+l.length≤arr.size):(back l.zipIdx lo arr).toList=arr.toList.take lo++l++arr.toList.drop (lo+l.length):=by
 apply lN
 intro x
 rw[kJ,HL lo l 0 arr (by omega) x]
 have hlen:arr.toList.length=arr.size:=i8
 by_cases c1:x<lo
 ·rw[if_neg (by omega),lz,kX (by rw[kH];omega),rg,if_pos c1,kJ]
 ·by_cases c2:x<lo+l.length
  ·rw[if_pos (by omega),kX (by rw[j8,kH];omega),ku (by rw[kH];omega),kH]
   have e:min lo arr.toList.length=lo:=by omega
   rw[e]
   rfl
  ·rw[if_neg (by omega),ku (by rw[j8,kH];omega),mY,j8,kH]
   have e:lo+l.length+(x- (min lo arr.toList.length+l.length))=x:=by omega
   rw[e,kJ]
theorem Ro{merged:Array Keyed}{lo:Nat}(hhi:lo≤hi)(hs:s0≤lo)(he:hi≤e0)(hz:e0≤arr.size)(perm:merged.toList.Perm (arr.extract lo hi).toList)(srt:merged.toList.Pairwise fun x y=>rk x≤rk y)
  (hL:∀x z,s0≤x→x<lo→x≤z→z<e0→RK rk arr x≤RK rk arr z) (hR:∀z y,s0≤z→z≤y→hi≤y→y<e0→RK rk arr z≤RK rk arr y):Upd rk arr (back merged.toList.zipIdx lo arr) s0 e0:=by
 have hx:(arr.extract lo hi).toList=(arr.toList.drop lo).take (hi-lo):=by rw[lI,kY]
 have hlenA:arr.toList.length=arr.size:=i8
 have hlen:merged.toList.length=hi-lo:=by
  rw[perm.length_eq,hx,kH,m8]
  omega
 have hfit:lo+merged.toList.length≤arr.size:=by omega
 have hget:=HL lo merged.toList 0 arr (by omega)
 have hmid:∀m,m∈merged.toList→∃z,lo≤z∧z<hi∧rk m=RK rk arr z:=fun m hm=>by
  have hm':=perm.mem_iff.mp hm
  rw[hx] at hm'
  obtain⟨i,hi'⟩:=List.mem_iff_getElem?.mp hm'
  rw[rg] at hi'
  split at hi'
  ·rename_i hlt
   rw[mY,kJ] at hi'
   exact⟨lo+i,by omega,by omega,by unfold RK;rw[hi']⟩
  ·cases hi'
 have hRK:∀x,lo≤x→x<hi→∃m,m∈merged.toList∧merged.toList[x-lo]?=some m∧RK rk (back merged.toList.zipIdx lo arr) x=rk m:=fun x h1 h2=>by
  have hl:x-lo<merged.toList.length:=by omega
  refine⟨_,mJ hl,jv hl,?_⟩
  unfold RK
  rw[hget x,if_pos (by omega)]
  have e:x- (lo+0)=x-lo:=by omega
  rw[e,jv hl]
 have hout:∀x,x<lo∨hi≤x→(back merged.toList.zipIdx lo arr)[x]?=arr[x]?:=fun x h=>by
  rw[hget x,if_neg (by omega)]
 refine⟨?_,fun x h=>hout x (by omega),?_⟩
 ·rw[Py hfit]
  have e:arr.toList=arr.toList.take lo++((arr.toList.drop lo).take (hi-lo))++arr.toList.drop (lo+merged.toList.length):=by
   rw[lz]
   have e2:lo+merged.toList.length=lo+(hi-lo):=by omega
   rw[e2,←List.drop_drop,mU,mU]
  rw[hx] at perm
  have:=(perm.append_left (arr.toList.take lo)).append_right (arr.toList.drop (lo+merged.toList.length))
  rw[←e] at this
  exact this
 ·intro x y h1 h2 h3
  by_cases cx:x<lo
  ·rw[Cr (hout x (.inl cx))]
   by_cases cy:lo≤y∧y<hi
   ·obtain⟨m,hm,_,e⟩:=hRK y cy.1 cy.2
    obtain⟨z,z1,z2,ez⟩:=hmid m hm
    rw[e,ez]
    exact hL x z h1 cx (by omega) (by omega)
   ·rw[Cr (hout y (by omega))]
    exact hL x y h1 cx h2 h3
  ·by_cases cx2:x<hi
   ·obtain⟨m,hm,hm2,e⟩:=hRK x (by omega) cx2
    rw[e]
    by_cases cy:y<hi
    ·obtain⟨m',hm',hm2',e'⟩:=hRK y (by omega) cy
     rw[e']
     by_cases exy:x=y
     ·subst exy
      rw[hm2] at hm2'
      cases hm2'
      exact nP _
     ·have hl:y-lo<merged.toList.length:=by omega
      have hl':x-lo<merged.toList.length:=by omega
      have:=kW.mp srt (x-lo) (y-lo) hl' hl (by omega)
      rw[jv hl'] at hm2
      rw[jv hl] at hm2'
      cases hm2
      cases hm2'
      exact this
    ·rw[Cr (hout y (by omega))]
     obtain⟨z,z1,z2,ez⟩:=hmid m hm
     rw[ez]
     exact hR z y (by omega) (by omega) (by omega) h3
   ·rw[Cr (hout x (by omega)),Cr (hout y (by omega))]
    exact hR x y h1 h2 (by omega) h3
end SrtG
namespace SrtG
local macro_rules | `(tactic| omega) => `(tactic| first | lia | omega)
open PySem PyProof.Rows
theorem GY{arr:Array Keyed}(hh:h≤arr.size):(arr.extract l h).size=h-l:=by rw[Array.size_extract];omega
theorem Rp{arr:Array Keyed}(hx:x<h-l)(hh:h≤arr.size):(arr.extract l h)[x]?=arr[l+x]?:=by
 rw[←kJ,lI,kY,rg,if_pos hx,mY,kJ]
theorem Im(hx:x<h-l)(hh:h≤arr.size):RK rk (arr.extract l h) x=RK rk arr (l+x):=by unfold RK;rw[Rp hx hh]
theorem AllU.ex(u:AllU U arr)(hh:h≤arr.size):AllU U (arr.extract l h):=fun i p e=>by
 have hi:i< (arr.extract l h).size:=by
  apply mQ
  intro hn
  rw[Array.getElem?_eq_none (qi hn)] at e
  cases e
 rw[GY hh] at hi
 rw[Rp hi hh] at e
 exact u _ _ e
theorem Seg.ex(sg:Seg rk arr l h)(hh:h≤arr.size):Fl rk (arr.extract l h):=fun i j hij hj=>by
 rw[GY hh] at hj
 rw[Im (by omega) hh,Im hj hh]
 exact sg _ _ (by omega) (by omega) (by omega)
theorem VX{st:kG}(h:Q ⟨⟩ st'):wpS (model prog w) A E s (set st':StateT kG Sem PUnit) Q st:=by
 unfold wpS;rw[StateT.run_set];exact b8 ⟨rfl,h⟩
theorem LB{st:kG}(C:Px prog w A E s kd U rk)(hk:kindOf st=kd)(hU:AllU U (arrOf st))(hf:oz st=none)
  (h1:(pendingOf st)[i]?=some (sa,na,pa)) (h2:(pendingOf st)[i+1]?=some (sb,nb,pb)) (hsb:sb=sa+na) (hna:0<na) (hnb:0<nb) (hsz:sb+nb≤(arrOf st).size) (S1:Seg rk (arrOf st) sa sb) (S2:Seg rk (arrOf st) sb (sb+nb))
  (h:∀st',kindOf st'=kd→oz st'=none→pendingOf st'=((pendingOf st).setIfInBounds i (sa,na+nb,pa)).eraseIdxIfInBounds (i+1)→Upd rk (arrOf st) (arrOf st') sa (sb+nb)→Q true st'):
  wpS (model prog w) A E s (mergeAt' i) Q st:=by
 delta mergeAt'
 refine i9 (pF ?_)
 rw[h1,h2]
 dsimp only
 refine i9 (VX ?_)
 have hsbz:sb< (arrOf st).size:=by omega
 have uAt:∀{i} (hi:i< (arrOf st).size),U (arrOf st)[i]:=fun hi=>hU _ _ (getElem?_pos (arrOf st) _ hi)
 refine i9 (AZ (arr:=arrOf st) hsbz ?_)
 refine i9 (Bu (arr:=arrOf st) C hk (uAt hsbz) hU (by omega) hna ?_ ?_)
 ·intro p q hpq hq e
  unfold bt at e ⊢
  rw[if_neg e8] at e ⊢
  have e':=of_decide_eq_false (mw _|>.mp e)
  have:=S1 (sa+p) (sa+q) (by omega) (by omega) (by omega)
  exact(mw _).mpr (decide_eq_false (by omega))
 rintro k ⟨kn,kt,kf⟩
 have kt':∀x,sa≤x→x<sa+k→RK rk (arrOf st) x≤RK rk (arrOf st) sb:=fun x hx1 hx=>by
  have e:=kt (x-sa) (by omega)
  unfold bt at e
  rw[if_neg e8] at e
  have e':=of_decide_eq_false (mw _|>.mp e)
  have ex:sa+(x-sa)=x:=by omega
  rw[ex] at e'
  rw[BM hsbz]
  omega
 have kf':∀x,sa+k≤x→x<sb→RK rk (arrOf st) sb<RK rk (arrOf st) x:=fun x hx1 hx=>by
  have e:=kf (x-sa) (by omega) (by omega)
  unfold bt at e
  rw[if_neg e8] at e
  have e':=of_decide_eq_true (rm _|>.mp e)
  have ex:sa+(x-sa)=x:=by omega
  rw[ex] at e'
  rw[BM hsbz]
  omega
 dsimp only
 by_cases c1:na-k=0
 ·rw[if_pos (beq_iff_eq.mpr c1)]
  refine jq (h _ hk hf rfl ⟨nB.refl _,fun _ _=>rfl,fun x y hx1 hx2 hx3=>?_⟩)
  by_cases cy:y<sb
  ·exact S1 x y hx1 hx2 cy
  ·by_cases cx:x<sb
   ·have e1:=kt' x hx1 (by omega)
    have e2:=S2 sb y (by omega) (by omega) hx3
    exact n8 e1 e2
   ·exact S2 x y (by omega) hx2 hx3
 rw[if_neg (fun q=>c1 (beq_iff_eq.mp q))]
 have el:sa+k+(na-k)-1=sb-1:=by omega
 rw[el]
 have hlz:sb-1< (arrOf st).size:=by omega
 refine i9 (AZ (arr:=arrOf st) hlz ?_)
 refine i9 (Bu (arr:=arrOf st) C hk (uAt hlz) hU (by omega) (by omega) ?_ ?_)
 ·intro p q hpq hq e
  unfold bt at e ⊢
  rw[if_pos rfl] at e ⊢
  have e':=of_decide_eq_true e
  have:=S2 (sb+p) (sb+q) (by omega) (by omega) (by omega)
  exact decide_eq_true (by omega)
 rintro n2 ⟨nn,nt,nf⟩
 have nt':∀x,sb≤x→x<sb+n2→RK rk (arrOf st) x<RK rk (arrOf st) (sb-1):=fun x hx1 hx=>by
  have e:=nt (x-sb) (by omega)
  unfold bt at e
  rw[if_pos rfl] at e
  have e':=of_decide_eq_true e
  have ex:sb+(x-sb)=x:=by omega
  rw[ex] at e'
  rw[BM hlz]
  omega
 have nf':∀x,sb+n2≤x→x<sb+nb→RK rk (arrOf st) (sb-1)≤RK rk (arrOf st) x:=fun x hx1 hx=>by
  have e:=nf (x-sb) (by omega) (by omega)
  unfold bt at e
  rw[if_pos rfl] at e
  have e':=of_decide_eq_false e
  have ex:sb+(x-sb)=x:=by omega
  rw[ex] at e'
  rw[BM hlz]
  omega
 dsimp only
 have hlast:=kf' (sb-1) (by omega) (by omega)
 by_cases c2:n2=0
 ·have:=nf' sb (by omega) (by omega)
  omega
 rw[if_neg (fun q=>c2 (beq_iff_eq.mp q))]
 have hy:sb+n2≤(arrOf st).size:=by omega
 have hx':sb≤(arrOf st).size:=by omega
 have sA:Fl rk ((arrOf st).extract (sa+k) sb):=Seg.ex (fun x y q1 q2 q3=>S1 x y (by omega) q2 q3) hx'
 have sB:Fl rk ((arrOf st).extract sb (sb+n2)):=Seg.ex (fun x y q1 q2 q3=>S2 x y q1 q2 (by omega)) hy
 have zA:((arrOf st).extract (sa+k) sb).size=sb- (sa+k):=GY hx'
 have zB:((arrOf st).extract sb (sb+n2)).size=sb+n2-sb:=GY hy
 have q0:RK rk ((arrOf st).extract sb (sb+n2)) 0≤RK rk ((arrOf st).extract (sa+k) sb) 0:=by
  rw[Im (by omega) hy,Im (by omega) hx']
  have:=kf' (sa+k+0) (by omega) (by omega)
  exact nM this
 have q1:RK rk ((arrOf st).extract sb (sb+n2)) (((arrOf st).extract sb (sb+n2)).size-1)≤RK rk ((arrOf st).extract (sa+k) sb) (((arrOf st).extract (sa+k) sb).size-1):=by
  rw[zA,zB,Im (by omega) hy,Im (by omega) hx']
  have:=nt' (sb+(sb+n2-sb-1)) (by omega) (by omega)
  have e:sa+k+(sb- (sa+k)-1)=sb-1:=by omega
  rw[e]
  exact nM this
 have fin:∀r (st':kG),Like (qS st (((pendingOf st).setIfInBounds i (sa,na+nb,pa)).eraseIdxIfInBounds (i+1))) st'→Fin2 rk ((arrOf st).extract (sa+k) sb) ((arrOf st).extract sb (sb+n2)) r→
   wpS (model prog w) A E s (do
    modify fun z=>setArr z (back r.toList.zipIdx (sa+k) (arrOf z))
    return(oz (←get)).isNone) Q st':=fun r st' lk f=>by
  refine i9 (oC ?_)
  refine i9 (pF ?_)
  have e:(oz st').isNone=true:=by rw[lk.fl];show(oz st).isNone=true;rw[hf];rfl
  show wpS _ _ _ _ (pure ((oz st').isNone)) _ _
  rw[e]
  refine jq (h _ (lk.kd.trans hk) (lk.fl.trans hf) lk.pd ?_)
  have ea:arrOf st'=arrOf st:=lk.arr
  show Upd rk (arrOf st) (back r.toList.zipIdx (sa+k) (arrOf st')) sa (sb+nb)
  rw[ea]
  refine Ro (hi:=sb+n2) (by omega) (by omega) (by omega) hsz ?_ f.srt ?_ ?_
  ·have e2:((arrOf st).extract (sa+k) (sb+n2)).toList=((arrOf st).extract (sa+k) sb).toList++((arrOf st).extract sb (sb+n2)).toList:=by
    rw[lI,lI,lI,kY,kY,kY]
    have e3:sb+n2- (sa+k)=(sb- (sa+k))+(sb+n2-sb):=by omega
    rw[e3,List.take_add,List.drop_drop]
    have e4:sa+k+(sb- (sa+k))=sb:=by omega
    rw[e4]
   rw[e2]
   exact f.perm
  ·intro x z hx1 hx2 hx3 hx4
   by_cases cz:z<sb
   ·exact S1 x z hx1 hx3 cz
   ·have e1:=kt' x hx1 hx2
    have e2:=S2 sb z (by omega) (by omega) hx4
    exact n8 e1 e2
  ·intro z y hx1 hx2 hx3 hx4
   by_cases cz:z<sb
   ·have e1:=S1 z (sb-1) hx1 (by omega) (by omega)
    exact n8 e1 (nf' y hx3 hx4)
   ·exact S2 z y (by omega) hx2 hx4
 by_cases c3:na-k≤n2
 ·rw[if_pos c3]
  exact i9 (Ky (a:=(arrOf st).extract (sa+k) sb) (b:=(arrOf st).extract sb (sb+n2)) C hk (hU.ex hx') (hU.ex hy) sA sB (by omega) (by omega) q0 q1 fin)
 ·rw[if_neg c3]
  exact i9 (LA (a:=(arrOf st).extract (sa+k) sb) (b:=(arrOf st).extract sb (sb+n2)) C hk (hU.ex hx') (hU.ex hy) sA sB (by omega) (by omega) q0 q1 fin)
end SrtG
namespace SrtG
open PySem PyProof.Rows
variable {rk:Keyed→Int}
structure Kp(st0 st:kG)(lo hi:Nat):Prop where
 kd:kindOf st=kindOf st0
 pd:pendingOf st=pendingOf st0
 fl:oz st=oz st0
 perm:(arrOf st).toList.Perm (arrOf st0).toList
 out:∀x,x<lo∨hi≤x→(arrOf st)[x]?=(arrOf st0)[x]?
theorem Kp.refl(st:kG)(lo hi:Nat):Kp st st lo hi:=⟨rfl,rfl,rfl,nB.refl _,fun _ _=>rfl⟩
theorem Kp.size{st:kG}{lo:Nat}(k:Kp st0 st lo hi):(arrOf st).size=(arrOf st0).size:=by
 rw[←i8,←i8];exact k.perm.length_eq
theorem AllU.of_perm(u:AllU U a)(p:b.toList.Perm a.toList):AllU U b:=fun i q e=>by
 have hm:q∈b.toList:=by rw[←kJ] at e;exact i7 e
 have hm':=p.mem_iff.mp hm
 obtain⟨j,hj⟩:=List.mem_iff_getElem?.mp hm'
 rw[kJ] at hj
 exact u j q hj
theorem Kp.setA{st:kG}{lo:Nat}(k:Kp st0 st lo hi)(hp:xs.toList.Perm (arrOf st).toList)(ho:∀x,x<lo∨hi≤x→xs[x]?=(arrOf st)[x]?):Kp st0 (setArr st xs) lo hi:=
 ⟨k.kd,k.pd,k.fl,hp.trans k.perm,fun x hx=> (ho x hx).trans (k.out x hx)⟩
theorem Dl(h:xs[i]?=ys[j]?):RK rk xs i=RK rk ys j:=by unfold RK;rw[h]
theorem Io(hs:src<xs.size)(hd:d≤src)(k:Nat):RK rk (bubble xs src d) k=if k=src-d then RK rk xs src else if src-d<k∧k≤src then RK rk xs (k-1) else RK rk xs k:=by
 have e:=getElem?_bubble hs d hd k
 by_cases c1:k=src-d
 ·rw[if_pos c1] at e ⊢;exact Dl e
 ·rw[if_neg c1] at e ⊢
  by_cases c2:src-d<k∧k≤src
  ·rw[if_pos c2] at e ⊢;exact Dl e
  ·rw[if_neg c2] at e ⊢;exact Dl e
theorem Bl{st:kG}(C:Px prog w A E s kd U rk)(hk:kindOf st=kd)(hU:AllU U (arrOf st))(hi:i< (arrOf st).size)(hj:j< (arrOf st).size)
  (h:Q (some (decide (RK rk (arrOf st) i<RK rk (arrOf st) j))) st):wpS (model prog w) A E s (ltAt' i j) Q st:=by
 rw[ltAt'_eq]
 refine i9 (pF ?_)
 refine i9 (AZ hi ?_)
 refine i9 (AZ hj ?_)
 rw[BM hi,BM hj] at h
 exact C _ _ _ _ hk (hU _ _ (getElem?_pos (arrOf st) _ hi)) (hU _ _ (getElem?_pos (arrOf st) _ hj)) h
theorem Mn{st:kG}{lo:Nat}(C:Px prog w A E s kd U rk)(hk:kindOf st=kd)(hU:AllU U (arrOf st))(hn:lo+n≤(arrOf st).size)(hok:ok≤n)(hs:Seg rk (arrOf st) lo (lo+ok))
  (h:∀st',Kp st st' lo (lo+n)→Seg rk (arrOf st') lo (lo+n)→Q true st'):wpS (model prog w) A E s (binarySort' lo n ok) Q st:=by
 rw[binarySort'_eq]
 refine i9 (mO (lA (I:=fun k c st'=>c=(none,())∧Kp st st' lo (lo+n)∧Seg rk (arrOf st') lo (lo+min k n))
  (Q:=fun c st'=>c=(none,())∧Kp st st' lo (lo+n)∧Seg rk (arrOf st') lo (lo+n)) ?step ?fin ?init) ?post)
 case post=>
  rintro c st' ⟨rfl,hB',hs'⟩
  exact jq (h st' hB' hs')
 case init=>
  refine⟨rfl,Kp.refl _ _ _,fun i j hi hij hj=>?_⟩
  by_cases c1:ok=0
  ·have:i=j:=by omega
   subst this;exact nP _
  ·exact hs i j hi hij (by omega)
 case fin=>
  rintro c st' ⟨hc,hB',hs'⟩
  refine⟨hc,hB',?_⟩
  have e:min (max (max ok 1) n) n=n:=by omega
  rwa[e] at hs'
 case step=>
  rintro k c st' hak hkn ⟨rfl,hB',hs'⟩
  have e:min k n=k:=by omega
  rw[e] at hs'
  have hz:=hB'.size
  have hks:lo+k< (arrOf st').size:=by omega
  have hU':=hU.of_perm hB'.perm
  refine i9 (mO (lA (I:=fun x c st''=>st''=st'∧∃l r,c=(none,l,r)∧l≤r∧r≤k∧r-l≤k-x∧
    (∀i,i<l→RK rk (arrOf st') (lo+i)≤RK rk (arrOf st') (lo+k))∧(∀i,r≤i→i<k→RK rk (arrOf st') (lo+k)<RK rk (arrOf st') (lo+i)))
   (Q:=fun c st''=>st''=st'∧∃l r,c=(none,l,r)∧l≤k∧
    (∀i,i<l→RK rk (arrOf st') (lo+i)≤RK rk (arrOf st') (lo+k))∧(∀i,l≤i→i<k→RK rk (arrOf st') (lo+k)<RK rk (arrOf st') (lo+i))) ?istep ?ifin ?iinit) ?ipost)
  case iinit=>exact⟨rfl,0,k,rfl,by omega,by omega,by omega,fun i hi=>by omega,fun i h1 h2=>by omega⟩
  case ifin=>
   rintro c st'' ⟨rfl,l,r,rfl,hlr,hrk,hm,hlo,hhi⟩
   have:l=r:=by omega
   subst this
   exact⟨rfl,l,l,rfl,hrk,hlo,hhi⟩
  case istep=>
   rintro x c st'' _ hxk ⟨rfl,l,r,rfl,hlr,hrk,hm,hlo,hhi⟩
   dsimp only
   by_cases hge:l≥r
   ·rw[if_pos hge]
    have:l=r:=by omega
    subst this
    exact jq ⟨rfl,l,l,rfl,hrk,hlo,hhi⟩
   ·rw[if_neg hge]
    refine i9 (Bl C (hB'.kd.trans hk) hU' hks (by omega) ?_)
    dsimp only
    by_cases hless:RK rk (arrOf st'') (lo+k)<RK rk (arrOf st'') (lo+(l+r)/2)
    ·rw[if_pos (decide_eq_true hless)]
     refine jq ⟨rfl,l,(l+r)/2,rfl,by omega,by omega,by omega,hlo,fun i q1 q2=>?_⟩
     exact Int.lt_of_lt_of_le hless (hs' _ _ (by omega) (by omega) (by omega))
    ·rw[if_neg (fun q=>hless (of_decide_eq_true q))]
     refine jq ⟨rfl,(l+r)/2+1,r,rfl,by omega,by omega,by omega,fun i q1=>?_,hhi⟩
     exact n8 (hs' (lo+i) (lo+(l+r)/2) (by omega) (by omega) (by omega)) (Int.not_lt.mp hless)
  case ipost=>
   rintro c st'' ⟨rfl,l,r,rfl,hlk,hlo,hhi⟩
   show wpS _ _ _ _ (do moveDown' (lo+k) (lo+l);pure (nr (none,()))) _ _
   rw[moveDown'_eq]
   have ed:lo+k- (lo+l)=k-l:=by omega
   refine i9 (oC (jq ⟨rfl,hB'.setA (Array.perm_iff_toList_perm.mp (bubble_perm _ _ _)) ?_,?_⟩))
   ·intro x hx
    rw[ed,getElem?_bubble hks _ (by omega),if_neg (by omega),if_neg (by omega)]
   have e2:lo+min (k+1) n=lo+k+1:=by omega
   rw[e2]
   intro i j hi hij hj
   show RK rk (bubble (arrOf st'') (lo+k) (lo+k- (lo+l))) i≤RK rk (bubble (arrOf st'') (lo+k) (lo+k- (lo+l))) j
   rw[ed,Io hks (by omega),Io hks (by omega)]
   have e3:lo+k- (k-l)=lo+l:=by omega
   rw[e3]
   have hlo':∀i,lo≤i→i<lo+l→RK rk (arrOf st'') i≤RK rk (arrOf st'') (lo+k):=fun i q1 q2=>by
    have:=hlo (i-lo) (by omega)
    have e4:lo+(i-lo)=i:=by omega
    rwa[e4] at this
   have hhi':∀i,lo+l≤i→i<lo+k→RK rk (arrOf st'') (lo+k)≤RK rk (arrOf st'') i:=fun i q1 q2=>by
    have:=hhi (i-lo) (by omega) (by omega)
    have e4:lo+(i-lo)=i:=by omega
    rw[e4] at this
    exact nM this
   repeat' split
   all_goals first
    | (exfalso;omega)
    |exact nP _
    |exact hlo' _ (by omega) (by omega)
    |exact hhi' _ (by omega) (by omega)
    |exact hs' _ _ (by omega) (by omega) (by omega)
local macro_rules | `(tactic| omega) => `(tactic| first | lia | omega)
open PySem PyProof.Rows
variable {rk:Keyed→Int}
noncomputable def Dsc(rk:Keyed→Int)(arr:Array Keyed)(lo hi:Nat):Prop:=∀x y,lo≤x→x≤y→y<hi→RK rk arr y≤RK rk arr x
theorem Pz(hj:j≤xs.size)(k:Nat):RK rk (mirror xs i j ((j-i)/2)) k=if i≤k∧k<j then RK rk xs (i+j-1-k) else RK rk xs k:=by
 have e:=getElem?_mirror_all (i:=i) hj k
 by_cases c1:i≤k∧k<j
 ·rw[if_pos c1] at e ⊢;exact Dl e
 ·rw[if_neg c1] at e ⊢;exact Dl e
theorem Ez{st:kG}{lo:Nat}(k:Kp st0 st lo hi)(h1:lo≤i)(h2:j≤hi)(hj:j≤(arrOf st).size)
  (h:∀st',Kp st0 st' lo hi→(∀k,RK rk (arrOf st') k=if i≤k∧k<j then RK rk (arrOf st) (i+j-1-k) else RK rk (arrOf st) k)→Q () st'):wpS (model prog w) A E s (reverseSlice' i j) Q st:=by
 rw[reverseSlice'_eq]
 refine oC (h _ (k.setA (Array.perm_iff_toList_perm.mp (mirror_perm _ _ _ _)) fun x hx=>?_) fun k=>Pz hj k)
 rw[getElem?_mirror_all hj,if_neg (by omega)]
theorem Dm{st:kG}{lo:Nat}(k:Kp st0 st lo hi)(h1:lo≤i)(h2:j≤hi)(hj:j≤(arrOf st).size)(heq:∀k,i≤k→k<j→RK rk (arrOf st) k=RK rk (arrOf st) (j-1))
  (h:∀st',Kp st0 st' lo hi→(∀k,RK rk (arrOf st') k=RK rk (arrOf st) k)→Q () st'):wpS (model prog w) A E s (reverseSlice' i j) Q st:=by
 refine Ez (rk:=rk) k h1 h2 hj fun st' k' e=>h st' k' fun x=>?_
 rw[e x]
 split
 ·rw[heq _ (by omega) (by omega),heq x (by omega) (by omega)]
 ·rfl
theorem Seg.up{lo:Nat}(sg:Seg rk arr lo (lo+n))(h1:1≤n)(hx:¬RK rk arr (lo+n)<RK rk arr (lo+n-1)):Seg rk arr lo (lo+(n+1)):=fun i j hi hij hj=>by
 by_cases c:j<lo+n
 ·exact sg i j hi hij c
 ·have e:j=lo+n:=by omega
  subst e
  by_cases c2:i=lo+n
  ·subst c2;exact nP _
  ·exact n8 (sg i (lo+n-1) hi (by omega) (by omega)) (Int.not_lt.mp hx)
theorem Dsc.up{lo:Nat}(sg:Dsc rk arr lo (lo+n))(h1:1≤n)(hx:RK rk arr (lo+n)≤RK rk arr (lo+n-1))(he:∀k,RK rk arr' k=RK rk arr k):Dsc rk arr' lo (lo+(n+1)):=fun i j hi hij hj=>by
 rw[he,he]
 by_cases c:j<lo+n
 ·exact sg i j hi hij c
 ·have e:j=lo+n:=by omega
  subst e
  by_cases c2:i=lo+n
  ·subst c2;exact nP _
  ·exact n8 hx (sg i (lo+n-1) hi (by omega) (by omega))
theorem Mo{st:kG}{lo:Nat}(C:Px prog w A E s kd U rk)(hk:kindOf st=kd)(hU:AllU U (arrOf st))(hn:lo+nrem≤(arrOf st).size)(h1:1≤nrem)
  (h:∀m st',Kp st st' lo (lo+nrem)→1≤m→m≤nrem→Seg rk (arrOf st') lo (lo+m)→Q (some m) st'):
  wpS (model prog w) A E s (countRun' lo nrem) Q st:=by
 rw[countRun'_eq]
 refine i9 (mO (lA (I:=fun x c st'=>st'=st∧c=(none,x)∧Seg rk (arrOf st) lo (lo+x))
  (Q:=fun c st'=>st'=st∧∃n,c=(none,n)∧1≤n∧n≤nrem∧Seg rk (arrOf st) lo (lo+n)∧(n=nrem∨RK rk (arrOf st) (lo+n)<RK rk (arrOf st) (lo+n-1))) ?step ?fin ⟨rfl,rfl,fun i j hi hij hj=>by have:i=j:=(by omega);subst this;exact nP _⟩) ?post)
 case fin=>
  rintro c st' ⟨rfl,rfl,hs'⟩
  have e:max 1 nrem=nrem:=by omega
  rw[e] at hs' ⊢
  exact⟨rfl,nrem,rfl,h1,jm _,hs',.inl rfl⟩
 case step=>
  rintro x c st' hax hxn ⟨rfl,rfl,hs'⟩
  dsimp only
  refine i9 (Bl C hk hU (by omega) (by omega) ?_)
  dsimp only
  by_cases hless:RK rk (arrOf st') (lo+x)<RK rk (arrOf st') (lo+x-1)
  ·rw[if_pos (decide_eq_true hless)]
   exact jq ⟨rfl,x,rfl,hax,by omega,hs',.inr hless⟩
  ·rw[if_neg (fun q=>hless (of_decide_eq_true q))]
   exact jq ⟨rfl,rfl,hs'.up hax hless⟩
 case post=>
  rintro c st' ⟨rfl,n,rfl,hn1,hn2,hsn,hor⟩
  dsimp only
  by_cases hnn:n=nrem
  ·rw[if_pos (beq_iff_eq.mpr hnn)]
   exact jq (h n _ (Kp.refl _ _ _) hn1 hn2 hsn)
  rw[if_neg (fun q=>hnn (beq_iff_eq.mp q))]
  have hlt:=hor.resolve_left hnn
  by_cases hgt:n>1
  ·rw[if_pos hgt]
   refine i9 (Bl C hk hU (by omega) (by omega) ?_)
   dsimp only
   by_cases hrose:RK rk (arrOf st') lo<RK rk (arrOf st') (lo+n-1)
   ·rw[if_pos (decide_eq_true hrose)]
    exact jq (h n _ (Kp.refl _ _ _) hn1 hn2 hsn)
   rw[if_neg (fun q=>hrose (of_decide_eq_true q))]
   have hall:∀k,lo≤k→k<lo+n→RK rk (arrOf st') k=RK rk (arrOf st') (lo+n-1):=fun k q1 q2=>by
    have a1:=hsn lo k (by omega) q1 q2
    have a2:=hsn k (lo+n-1) q1 (by omega) (by omega)
    omega
   refine i9 (Dm (rk:=rk) (Kp.refl st' lo (lo+nrem)) (jm _) (by omega) (by omega) hall fun st2 kp hRK=>?_)
   have hd:Dsc rk (arrOf st2) lo (lo+(n+1)):=Dsc.up (arr:=arrOf st') (fun i j q1 q2 q3=>by rw[hall i q1 (by omega),hall j (by omega) q3];exact nP _) hn1 (nM hlt) hRK
   refine i9 (qv (og ⟨rfl,?_⟩))
   refine i9 (mO (lA (I:=fun x c st3=>∃neq,c=(none,x,neq)∧Kp st' st3 lo (lo+nrem)∧Dsc rk (arrOf st3) lo (lo+x)∧neq+1≤x∧(∀i,lo+x- (neq+1)≤i→i<lo+x→RK rk (arrOf st3) i=RK rk (arrOf st3) (lo+x-1)))
    (Q:=fun c st3=>∃m neq,c=(none,m,neq)∧Kp st' st3 lo (lo+nrem)∧n+1≤m∧m≤nrem∧Dsc rk (arrOf st3) lo (lo+m)∧neq+1≤m∧(∀i,lo+m- (neq+1)≤i→i<lo+m→RK rk (arrOf st3) i=RK rk (arrOf st3) (lo+m-1))) ?_ ?_ ⟨0,rfl,kp,hd,by omega,fun i q1 q2=>by congr 1;omega⟩) ?_)
   ·rintro x c st3 hax hxn ⟨neq,rfl,kp,hd,hq,he⟩
    have hz:=kp.size
    have hU3:=hU.of_perm kp.perm
    dsimp only
    refine i9 (Bl C (kp.kd.trans hk) hU3 (by omega) (by omega) ?_)
    dsimp only
    by_cases hless:RK rk (arrOf st3) (lo+x)<RK rk (arrOf st3) (lo+x-1)
    ·rw[if_pos (decide_eq_true hless)]
     by_cases hneq:neq>0
     ·rw[if_pos hneq]
      refine i9 (Dm (rk:=rk) kp (by omega) (by omega) (by omega) he fun st4 kp4 hRK=>?_)
      exact jq ⟨0,rfl,kp4,hd.up (by omega) (nM hless) hRK,by omega,fun i q1 q2=>by congr 1;omega⟩
     ·rw[if_neg hneq]
      exact jq ⟨0,rfl,kp,hd.up (by omega) (nM hless) fun _=>rfl,by omega,fun i q1 q2=>by congr 1;omega⟩
    ·rw[if_neg (fun q=>hless (of_decide_eq_true q))]
     refine i9 (Bl C (kp.kd.trans hk) hU3 (by omega) (by omega) ?_)
     dsimp only
     by_cases hlarger:RK rk (arrOf st3) (lo+x-1)<RK rk (arrOf st3) (lo+x)
     ·rw[if_pos (decide_eq_true hlarger)]
      exact jq ⟨x,neq,rfl,kp,hax,by omega,hd,hq,he⟩
     ·rw[if_neg (fun q=>hlarger (of_decide_eq_true q))]
      have heqx:RK rk (arrOf st3) (lo+x)=RK rk (arrOf st3) (lo+x-1):=by omega
      refine jq ⟨neq+1,rfl,kp,hd.up (by omega) (by omega) fun _=>rfl,by omega,fun i q1 q2=>?_⟩
      have e1:lo+(x+1)-1=lo+x:=by omega
      rw[e1]
      by_cases hix:i=lo+x
      ·rw[hix]
      ·rw[heqx];exact he i (by omega) (by omega)
   ·rintro c st3 ⟨neq,rfl,kp,hd,hq,he⟩
    have e:max (n+1) nrem=nrem:=by omega
    rw[e] at hd hq he ⊢
    exact⟨nrem,neq,rfl,kp,by omega,jm _,hd,hq,he⟩
   rintro c st3 ⟨m,neq,rfl,kp,hm1,hm2,hd,hq,he⟩
   have hz:=kp.size
   dsimp only
   have rest:∀(st4:kG),Kp st' st4 lo (lo+nrem)→Dsc rk (arrOf st4) lo (lo+m)→∀st5,Kp st' st5 lo (lo+nrem)→(∀k,RK rk (arrOf st5) k=if lo≤k∧k<lo+m then RK rk (arrOf st4) (lo+(lo+m)-1-k) else RK rk (arrOf st4) k)→Seg rk (arrOf st5) lo (lo+m):=fun st4 _ d4 st5 _ e5 i j q1 q2 q3=>by
    rw[e5,e5,if_pos (by omega),if_pos (by omega)]
    exact d4 _ _ (by omega) (by omega) (by omega)
   by_cases hneq:neq>0
   ·rw[if_pos hneq]
    refine i9 (Dm (rk:=rk) kp (by omega) (by omega) (by omega) he fun st4 kp4 hRK=>?_)
    have d4:Dsc rk (arrOf st4) lo (lo+m):=fun i j q1 q2 q3=>by rw[hRK,hRK];exact hd i j q1 q2 q3
    have hz4:=kp4.size
    refine i9 (Ez (rk:=rk) kp4 (jm _) (by omega) (by omega) fun st5 kp5 e5=>?_)
    have s5:=rest _ kp4 d4 st5 kp5 e5
    have hz5:=kp5.size
    have hU5:=hU.of_perm kp5.perm
    refine i9 (mO (lA (I:=fun x c st6=>st6=st5∧c=(none,x)∧Seg rk (arrOf st5) lo (lo+x))
     (Q:=fun c st6=>st6=st5∧∃n,c=(none,n)∧1≤n∧n≤nrem∧Seg rk (arrOf st5) lo (lo+n)) ?_ ?_ ⟨rfl,rfl,s5⟩) ?_)
    ·rintro x c st6 hax hxn ⟨rfl,rfl,hs'⟩
     dsimp only
     refine i9 (Bl C (kp5.kd.trans hk) hU5 (by omega) (by omega) ?_)
     dsimp only
     by_cases hless:RK rk (arrOf st6) (lo+x)<RK rk (arrOf st6) (lo+x-1)
     ·rw[if_pos (decide_eq_true hless)]
      exact jq ⟨rfl,x,rfl,by omega,by omega,hs'⟩
     ·rw[if_neg (fun q=>hless (of_decide_eq_true q))]
      exact jq ⟨rfl,rfl,hs'.up (by omega) hless⟩
    ·rintro c st6 ⟨rfl,rfl,hs'⟩
     have e:max m nrem=nrem:=by omega
     rw[e] at hs' ⊢
     exact⟨rfl,nrem,rfl,h1,jm _,hs'⟩
    rintro c st6 ⟨rfl,n5,rfl,q1,q2,q3⟩
    exact jq (h n5 _ kp5 q1 q2 q3)
   ·rw[if_neg hneq]
    have kp4:=kp
    have d4:=hd
    have hz4:=hz
    refine i9 (Ez (rk:=rk) kp4 (jm _) (by omega) (by omega) fun st5 kp5 e5=>?_)
    have s5:=rest _ kp4 d4 st5 kp5 e5
    have hz5:=kp5.size
    have hU5:=hU.of_perm kp5.perm
    refine i9 (mO (lA (I:=fun x c st6=>st6=st5∧c=(none,x)∧Seg rk (arrOf st5) lo (lo+x))
     (Q:=fun c st6=>st6=st5∧∃n,c=(none,n)∧1≤n∧n≤nrem∧Seg rk (arrOf st5) lo (lo+n)) ?_ ?_ ⟨rfl,rfl,s5⟩) ?_)
    ·rintro x c st6 hax hxn ⟨rfl,rfl,hs'⟩
     dsimp only
     refine i9 (Bl C (kp5.kd.trans hk) hU5 (by omega) (by omega) ?_)
     dsimp only
     by_cases hless:RK rk (arrOf st6) (lo+x)<RK rk (arrOf st6) (lo+x-1)
     ·rw[if_pos (decide_eq_true hless)]
      exact jq ⟨rfl,x,rfl,by omega,by omega,hs'⟩
     ·rw[if_neg (fun q=>hless (of_decide_eq_true q))]
      exact jq ⟨rfl,rfl,hs'.up (by omega) hless⟩
    ·rintro c st6 ⟨rfl,rfl,hs'⟩
     have e:max m nrem=nrem:=by omega
     rw[e] at hs' ⊢
     exact⟨rfl,nrem,rfl,h1,jm _,hs'⟩
    rintro c st6 ⟨rfl,n5,rfl,q1,q2,q3⟩
    exact jq (h n5 _ kp5 q1 q2 q3)
  ·rw[if_neg hgt]
   have hd:Dsc rk (arrOf st') lo (lo+(n+1)):=Dsc.up (arr:=arrOf st') (fun i j q1 q2 q3=>by have:i=j:=(by omega);subst this;exact nP _) hn1 (nM hlt) fun _=>rfl
   have kp:=Kp.refl st' lo (lo+nrem)
   refine i9 (qv (og ⟨rfl,?_⟩))
   refine i9 (mO (lA (I:=fun x c st3=>∃neq,c=(none,x,neq)∧Kp st' st3 lo (lo+nrem)∧Dsc rk (arrOf st3) lo (lo+x)∧neq+1≤x∧(∀i,lo+x- (neq+1)≤i→i<lo+x→RK rk (arrOf st3) i=RK rk (arrOf st3) (lo+x-1)))
    (Q:=fun c st3=>∃m neq,c=(none,m,neq)∧Kp st' st3 lo (lo+nrem)∧n+1≤m∧m≤nrem∧Dsc rk (arrOf st3) lo (lo+m)∧neq+1≤m∧(∀i,lo+m- (neq+1)≤i→i<lo+m→RK rk (arrOf st3) i=RK rk (arrOf st3) (lo+m-1))) ?_ ?_ ⟨0,rfl,kp,hd,by omega,fun i q1 q2=>by congr 1;omega⟩) ?_)
   ·rintro x c st3 hax hxn ⟨neq,rfl,kp,hd,hq,he⟩
    have hz:=kp.size
    have hU3:=hU.of_perm kp.perm
    dsimp only
    refine i9 (Bl C (kp.kd.trans hk) hU3 (by omega) (by omega) ?_)
    dsimp only
    by_cases hless:RK rk (arrOf st3) (lo+x)<RK rk (arrOf st3) (lo+x-1)
    ·rw[if_pos (decide_eq_true hless)]
     by_cases hneq:neq>0
     ·rw[if_pos hneq]
      refine i9 (Dm (rk:=rk) kp (by omega) (by omega) (by omega) he fun st4 kp4 hRK=>?_)
      exact jq ⟨0,rfl,kp4,hd.up (by omega) (nM hless) hRK,by omega,fun i q1 q2=>by congr 1;omega⟩
     ·rw[if_neg hneq]
      exact jq ⟨0,rfl,kp,hd.up (by omega) (nM hless) fun _=>rfl,by omega,fun i q1 q2=>by congr 1;omega⟩
    ·rw[if_neg (fun q=>hless (of_decide_eq_true q))]
     refine i9 (Bl C (kp.kd.trans hk) hU3 (by omega) (by omega) ?_)
     dsimp only
     by_cases hlarger:RK rk (arrOf st3) (lo+x-1)<RK rk (arrOf st3) (lo+x)
     ·rw[if_pos (decide_eq_true hlarger)]
      exact jq ⟨x,neq,rfl,kp,hax,by omega,hd,hq,he⟩
     ·rw[if_neg (fun q=>hlarger (of_decide_eq_true q))]
      have heqx:RK rk (arrOf st3) (lo+x)=RK rk (arrOf st3) (lo+x-1):=by omega
      refine jq ⟨neq+1,rfl,kp,hd.up (by omega) (by omega) fun _=>rfl,by omega,fun i q1 q2=>?_⟩
      have e1:lo+(x+1)-1=lo+x:=by omega
      rw[e1]
      by_cases hix:i=lo+x
      ·rw[hix]
      ·rw[heqx];exact he i (by omega) (by omega)
   ·rintro c st3 ⟨neq,rfl,kp,hd,hq,he⟩
    have e:max (n+1) nrem=nrem:=by omega
    rw[e] at hd hq he ⊢
    exact⟨nrem,neq,rfl,kp,by omega,jm _,hd,hq,he⟩
   rintro c st3 ⟨m,neq,rfl,kp,hm1,hm2,hd,hq,he⟩
   have hz:=kp.size
   dsimp only
   have rest:∀(st4:kG),Kp st' st4 lo (lo+nrem)→Dsc rk (arrOf st4) lo (lo+m)→∀st5,Kp st' st5 lo (lo+nrem)→(∀k,RK rk (arrOf st5) k=if lo≤k∧k<lo+m then RK rk (arrOf st4) (lo+(lo+m)-1-k) else RK rk (arrOf st4) k)→Seg rk (arrOf st5) lo (lo+m):=fun st4 _ d4 st5 _ e5 i j q1 q2 q3=>by
    rw[e5,e5,if_pos (by omega),if_pos (by omega)]
    exact d4 _ _ (by omega) (by omega) (by omega)
   by_cases hneq:neq>0
   ·rw[if_pos hneq]
    refine i9 (Dm (rk:=rk) kp (by omega) (by omega) (by omega) he fun st4 kp4 hRK=>?_)
    have d4:Dsc rk (arrOf st4) lo (lo+m):=fun i j q1 q2 q3=>by rw[hRK,hRK];exact hd i j q1 q2 q3
    have hz4:=kp4.size
    refine i9 (Ez (rk:=rk) kp4 (jm _) (by omega) (by omega) fun st5 kp5 e5=>?_)
    have s5:=rest _ kp4 d4 st5 kp5 e5
    have hz5:=kp5.size
    have hU5:=hU.of_perm kp5.perm
    refine i9 (mO (lA (I:=fun x c st6=>st6=st5∧c=(none,x)∧Seg rk (arrOf st5) lo (lo+x))
     (Q:=fun c st6=>st6=st5∧∃n,c=(none,n)∧1≤n∧n≤nrem∧Seg rk (arrOf st5) lo (lo+n)) ?_ ?_ ⟨rfl,rfl,s5⟩) ?_)
    ·rintro x c st6 hax hxn ⟨rfl,rfl,hs'⟩
     dsimp only
     refine i9 (Bl C (kp5.kd.trans hk) hU5 (by omega) (by omega) ?_)
     dsimp only
     by_cases hless:RK rk (arrOf st6) (lo+x)<RK rk (arrOf st6) (lo+x-1)
     ·rw[if_pos (decide_eq_true hless)]
      exact jq ⟨rfl,x,rfl,by omega,by omega,hs'⟩
     ·rw[if_neg (fun q=>hless (of_decide_eq_true q))]
      exact jq ⟨rfl,rfl,hs'.up (by omega) hless⟩
    ·rintro c st6 ⟨rfl,rfl,hs'⟩
     have e:max m nrem=nrem:=by omega
     rw[e] at hs' ⊢
     exact⟨rfl,nrem,rfl,h1,jm _,hs'⟩
    rintro c st6 ⟨rfl,n5,rfl,q1,q2,q3⟩
    exact jq (h n5 _ kp5 q1 q2 q3)
   ·rw[if_neg hneq]
    have kp4:=kp
    have d4:=hd
    have hz4:=hz
    refine i9 (Ez (rk:=rk) kp4 (jm _) (by omega) (by omega) fun st5 kp5 e5=>?_)
    have s5:=rest _ kp4 d4 st5 kp5 e5
    have hz5:=kp5.size
    have hU5:=hU.of_perm kp5.perm
    refine i9 (mO (lA (I:=fun x c st6=>st6=st5∧c=(none,x)∧Seg rk (arrOf st5) lo (lo+x))
     (Q:=fun c st6=>st6=st5∧∃n,c=(none,n)∧1≤n∧n≤nrem∧Seg rk (arrOf st5) lo (lo+n)) ?_ ?_ ⟨rfl,rfl,s5⟩) ?_)
    ·rintro x c st6 hax hxn ⟨rfl,rfl,hs'⟩
     dsimp only
     refine i9 (Bl C (kp5.kd.trans hk) hU5 (by omega) (by omega) ?_)
     dsimp only
     by_cases hless:RK rk (arrOf st6) (lo+x)<RK rk (arrOf st6) (lo+x-1)
     ·rw[if_pos (decide_eq_true hless)]
      exact jq ⟨rfl,x,rfl,by omega,by omega,hs'⟩
     ·rw[if_neg (fun q=>hless (of_decide_eq_true q))]
      exact jq ⟨rfl,rfl,hs'.up (by omega) hless⟩
    ·rintro c st6 ⟨rfl,rfl,hs'⟩
     have e:max m nrem=nrem:=by omega
     rw[e] at hs' ⊢
     exact⟨rfl,nrem,rfl,h1,jm _,hs'⟩
    rintro c st6 ⟨rfl,n5,rfl,q1,q2,q3⟩
    exact jq (h n5 _ kp5 q1 q2 q3)
end SrtG
namespace SrtG
local macro_rules | `(tactic| omega) => `(tactic| first | lia | omega)
open PySem PyProof.Rows
variable {rk:Keyed→Int}
noncomputable abbrev Rq:=Nat×Nat×Nat
noncomputable def Cov(rk:Keyed→Int)(arr:Array Keyed):Nat→List Rq→Nat→Prop
 |a,[],hi=>a=hi
 |a,e::l,hi=>e.1=a∧0<e.2.1∧Seg rk arr a (a+e.2.1)∧Cov rk arr (a+e.2.1) l hi
theorem Cov.le:∀{l:List Rq} {a hi:Nat},Cov rk arr a l hi→a+l.length≤hi
 | [],a,hi,h=>by have:a=hi:=h;simp only[List.length_nil];omega
 |e::l,a,hi,h=>by have:=Cov.le h.2.2.2;have:=h.2.1;rw[km];omega
theorem Cov.app:∀{l1:List Rq} {l2:List Rq} {a hi:Nat},Cov rk arr a (l1++l2) hi↔∃m,Cov rk arr a l1 m∧Cov rk arr m l2 hi
 | [],l2,a,hi=> ⟨fun h=> ⟨a,rfl,h⟩,fun⟨m,h1,h2⟩=>by have:a=m:=h1;subst this;exact h2⟩
 |e::l1,l2,a,hi=> ⟨fun⟨h1,h2,h3,h4⟩=>by
   obtain⟨m,q1,q2⟩:=Cov.app.mp h4
   exact⟨m,⟨h1,h2,h3,q1⟩,q2⟩,fun⟨m,⟨h1,h2,h3,h4⟩,q2⟩=> ⟨h1,h2,h3,Cov.app.mpr ⟨m,h4,q2⟩⟩⟩
theorem Cov.cong:∀{l:List Rq} {a hi:Nat},(∀x,a≤x→x<hi→RK rk arr' x=RK rk arr x)→Cov rk arr a l hi→Cov rk arr' a l hi
 | [],_,_,_,h=>h
 |e::l,a,hi,hx,⟨h1,h2,h3,h4⟩=>by
  have hl:=h4.le
  exact⟨h1,h2,fun x y q1 q2 q3=>by rw[hx x q1 (by omega),hx y (by omega) (by omega)];exact h3 x y q1 q2 q3,h4.cong fun x q1 q2=>hx x (by omega) q2⟩
theorem ZL{p:Array Rq}(h:i+1<p.size):∃l1 e1 e2 l2,p.toList=l1++e1::e2::l2∧l1.length=i∧p[i]?=some e1∧p[i+1]?=some e2:=by
 have hl:p.toList.length=p.size:=i8
 have h1:i<p.toList.length:=by omega
 have h2:i+1<p.toList.length:=by omega
 refine⟨p.toList.take i,p.toList[i],p.toList[i+1],p.toList.drop (i+2),?_,?_,?_,?_⟩
 ·rw[←ny h2,←ny h1,mU]
 ·rw[kH];omega
 ·rw[←kJ];exact jv h1
 ·rw[←kJ];exact jv h2
theorem ZM{p:Array Rq}(hp:p.toList=l1++e1::e2::l2)(hl:l1.length=i):((p.setIfInBounds i e).eraseIdxIfInBounds (i+1)).toList=l1++e::l2:=by
 have hz:i+1<p.size:=by
  rw[←i8,hp,j8,km,km];omega
 have hz':i+1< (p.setIfInBounds i e).size:=by rw[Array.size_setIfInBounds];exact hz
 unfold Array.eraseIdxIfInBounds
 rw[dif_pos hz',Array.toList_eraseIdx,Array.toList_setIfInBounds,hp]
 subst hl
 rw[List.set_append_right _ _ (jm _),Nat.sub_self,List.set_cons_zero,List.eraseIdx_append_of_length_le (by omega)]
 have e:l1.length+1-l1.length=1:=by omega
 rw[e]
 rfl
structure Bs(kd:oW)(a₀:Array Keyed)(st:kG):Prop where
 kd:kindOf st=kd
 fl:oz st=none
 perm:(arrOf st).toList.Perm a₀.toList
theorem Bs.size{kd:oW}{st:kG}(b:Bs kd a₀ st):(arrOf st).size=a₀.size:=by
 rw[←i8,←i8];exact b.perm.length_eq
theorem Bs.kp{kd:oW}{st:kG}{lo:Nat}(b:Bs kd a₀ st)(k:Kp st st' lo hi):Bs kd a₀ st':=⟨k.kd.trans b.kd,k.fl.trans b.fl,k.perm.trans b.perm⟩
theorem Ec{st:kG}(C:Px prog w A E s kd U rk)(hU:AllU U a₀)(b:Bs kd a₀ st)(hc:Cov rk (arrOf st) 0 (pendingOf st).toList hi)(hhi:hi≤a₀.size)(hi1:i+1< (pendingOf st).size)
  (h:∀st',Bs kd a₀ st'→Cov rk (arrOf st') 0 (pendingOf st').toList hi→(pendingOf st').size+1=(pendingOf st).size→(∀x,hi≤x→RK rk (arrOf st') x=RK rk (arrOf st) x)→Q true st'):wpS (model prog w) A E s (mergeAt' i) Q st:=by
 obtain⟨l1,⟨s1,n1,p1⟩,⟨s2,n2,p2⟩,l2,hp,hl,e1,e2⟩:=ZL hi1
 have hc0:=hc
 rw[hp] at hc0
 obtain⟨m,c1,q1,q2,q3,q4,q5,q6,q7⟩:=Cov.app.mp hc0
 dsimp only at q1 q2 q3 q4 q5 q6 q7
 subst q1
 have hle:=q7.le
 have hz:=b.size
 refine LB C b.kd (hU.of_perm b.perm) b.fl e1 e2 q4 q2 q5 (by omega) (by rw[q4];exact q3) (by rw[q4];exact q6) fun st' k1 k2 k3 u=>?_
 have hj:=ZM (e:=(s1,n1+n2,p1)) hp hl
 have c1le:=c1.le
 refine h st' ⟨k1,k2,u.perm.trans b.perm⟩ ?_ ?_ ?_
 ·rw[k3,hj]
  refine Cov.app.mpr ⟨s1,c1.cong fun x _ hx=>Cr (u.out x (.inl hx)),rfl,by show 0<n1+n2;omega,?_,?_⟩
  ·show Seg rk (arrOf st') s1 (s1+(n1+n2))
   have:=u.seg
   rw[q4,tL] at this
   exact this
  ·show Cov rk (arrOf st') (s1+(n1+n2)) l2 hi
   rw[←tL]
   exact q7.cong fun x hx _=>Cr (u.out x (.inr (by omega)))
 ·rw[←i8,←i8,k3,hj,hp,j8,j8,km,km,km]
  omega
 ·intro x hx
  exact Cr (u.out x (.inr (by omega)))
end SrtG
namespace SrtG
local macro_rules | `(tactic| omega) => `(tactic| first | lia | omega)
open PySem PyProof.Rows
theorem Cov.shape:∀{l l':List Rq} {a hi:Nat},l'.map (fun e=> (e.1,e.2.1))=l.map (fun e=> (e.1,e.2.1))→Cov rk arr a l hi→Cov rk arr a l' hi
 | [],[],_,_,_,h=>h
 |e::l,e'::l',a,hi,hm,⟨h1,h2,h3,h4⟩=>by
  rw[kg,kg] at hm
  injection hm with hm1 hm2
  injection hm1 with q1 q2
  exact⟨q1.trans h1,by rw[q2];exact h2,by rw[q2];exact h3,by rw[q2];exact h4.shape hm2⟩
 | [],_::_,_,_,hm,_=>by cases hm
 |_::_,[],_,_,hm,_=>by cases hm
theorem Cov.power{p:Array Rq}(h:Cov rk arr 0 p.toList hi):Cov rk arr 0 (p.modify i fun e=> (e.1,e.2.1,pw)).toList hi:=by
 refine h.shape ?_
 apply lN
 intro j
 rw[i6,i6,kJ,kJ,Array.getElem?_modify]
 split
 ·cases p[j]?<;>rfl
 ·rfl
theorem Rr{st:kG}(C:Px prog w A E s kd U rk)(hU:AllU U a₀)(b:Bs kd a₀ st)(hp:pendingOf st= #[])
  (h:∀st',Bs kd a₀ st'→Fl rk (arrOf st')→Q () st'):wpS (model prog w) A E s sortRuns' Q st:=by
 rw[sortRuns'_eq]
 refine i9 (pF ?_)
 dsimp only
 have hz:=b.size
 refine i9 (mO (lA
  (I:=fun x c st'=>∃lo,c=(none,lo)∧x≤lo∧lo≤(arrOf st).size∧Bs kd a₀ st'∧Cov rk (arrOf st') 0 (pendingOf st').toList lo)
  (Q:=fun c st'=>c.1=none∧Bs kd a₀ st'∧Cov rk (arrOf st') 0 (pendingOf st').toList (arrOf st).size) ?step ?fin ⟨0,rfl,jm _,kZ _,b,by rw[hp];rfl⟩) ?post)
 case fin=>
  rintro c st' ⟨lo,rfl,h1,h2,bs,cv⟩
  have e:lo=(arrOf st).size:=by omega
  subst e
  exact⟨rfl,bs,cv⟩
 case step=>
  rintro x c st1 _ hx ⟨lo,rfl,h1,h2,bs,cv⟩
  dsimp only
  have hz1:=bs.size
  by_cases cl:lo≥(arrOf st).size
  ·rw[if_pos cl]
   have e:lo=(arrOf st).size:=by omega
   subst e
   exact jq ⟨rfl,bs,cv⟩
  rw[if_neg cl]
  have nextOf:∀(st3:kG) (n:Nat),Bs kd a₀ st3→Cov rk (arrOf st3) 0 (pendingOf st3).toList lo→0<n→lo+n≤(arrOf st).size→Seg rk (arrOf st3) lo (lo+n)→∀{c:Option PUnit×Nat},c=(none,lo+n)→∃lo',c=(none,lo')∧x+1≤lo'∧lo'≤(arrOf st).size∧Bs kd a₀ (qS st3 ((pendingOf st3).push (lo,n,0)))∧Cov rk (arrOf (qS st3 ((pendingOf st3).push (lo,n,0)))) 0 (pendingOf (qS st3 ((pendingOf st3).push (lo,n,0)))).toList lo':=fun st3 n bs3 cv3 hpos hfit sg c hc=>by
   refine⟨lo+n,hc,by omega,hfit,⟨bs3.kd,bs3.fl,bs3.perm⟩,?_⟩
   show Cov rk (arrOf st3) 0 ((pendingOf st3).push (lo,n,0)).toList (lo+n)
   rw[oa]
   exact Cov.app.mpr ⟨lo,cv3,rfl,hpos,sg,rfl⟩
  refine i9 (Mo C bs.kd (hU.of_perm bs.perm) (by omega) (by omega) fun n st2 kp2 hn1 hn2 sg2=>?_)
  have bs2:=bs.kp kp2
  have cv2:Cov rk (arrOf st2) 0 (pendingOf st2).toList lo:=by
   rw[kp2.pd]
   exact cv.cong fun x _ hx=>Cr (kp2.out x (.inl hx))
  dsimp only
  by_cases cm:n<tq (arrOf st).size (arrOf st).size 0
  ·rw[if_pos cm]
   refine i9 (qv (og ⟨rfl,?_⟩))
   have hz2:=bs2.size
   refine i9 (Mn (n:=min ((arrOf st).size-lo) (tq (arrOf st).size (arrOf st).size 0)) C bs2.kd (hU.of_perm bs2.perm) (by omega) (by omega) sg2 fun st3 kp3 sg3=>?_)
   rw[if_neg (by decide)]
   have bs3:=bs2.kp kp3
   have cv3:Cov rk (arrOf st3) 0 (pendingOf st3).toList lo:=by
    rw[kp3.pd]
    exact cv2.cong fun x _ hx=>Cr (kp3.out x (.inl hx))
   have hpos:0<min ((arrOf st).size-lo) (tq (arrOf st).size (arrOf st).size 0):=by omega
   have hfit:lo+min ((arrOf st).size-lo) (tq (arrOf st).size (arrOf st).size 0)≤(arrOf st).size:=by omega
   refine i9 (pF ?_)
   cases hb:(pendingOf st3).back? with
   |none=>
    dsimp only
    exact i9 (oC (jq (nextOf st3 _ bs3 cv3 hpos hfit sg3 rfl)))
   |some e=>
    obtain⟨s1,n1,p1⟩:=e
    dsimp only
    refine i9 (mO (lA (I:=fun _ c st4=>c=(none,())∧Bs kd a₀ st4∧Cov rk (arrOf st4) 0 (pendingOf st4).toList lo∧∀x,lo≤x→RK rk (arrOf st4) x=RK rk (arrOf st3) x)
     (Q:=fun c st4=>c=(none,())∧Bs kd a₀ st4∧Cov rk (arrOf st4) 0 (pendingOf st4).toList lo∧∀x,lo≤x→RK rk (arrOf st4) x=RK rk (arrOf st3) x) ?_ (fun _ _ q=>q) ⟨rfl,bs3,cv3,fun _ _=>rfl⟩) ?_)
    ·rintro y c st4 _ _ ⟨rfl,bs4,cv4,ou4⟩
     refine i9 (pF ?_)
     by_cases cp:(pendingOf st4).size>1
     ·rw[if_pos cp]
      obtain⟨o1,o2,o3⟩:=(pendingOf st4)[(pendingOf st4).size-2]
      have hge:(pendingOf st4)[(pendingOf st4).size-2]?=some (pendingOf st4)[(pendingOf st4).size-2]:=getElem?_pos _ _ (by omega)
      rw[hge]
      dsimp only
      by_cases co:(pendingOf st4)[(pendingOf st4).size-2].2.2≤power' (arrOf st).size (2*s1+n1) (2*s1+n1+n1+min ((arrOf st).size-lo) (tq (arrOf st).size (arrOf st).size 0)) (arrOf st).size
      ·rw[if_pos co]
       exact jq ⟨rfl,bs4,cv4,ou4⟩
      ·rw[if_neg co]
       refine i9 (Ec C hU bs4 cv4 (by omega) (by omega) fun st5 bs5 cv5 _ ou5=>?_)
       rw[if_neg (by decide)]
       exact jq ⟨rfl,bs5,cv5,fun x hx=> (ou5 x hx).trans (ou4 x hx)⟩
     ·rw[if_neg cp]
      exact jq ⟨rfl,bs4,cv4,ou4⟩
    ·rintro c st4 ⟨rfl,bs4,cv4,ou4⟩
     dsimp only
     refine i9 (oC ?_)
     refine i9 (oC (jq ?_))
     have sg4:Seg rk (arrOf st4) lo (lo+min ((arrOf st).size-lo) (tq (arrOf st).size (arrOf st).size 0)):=fun i j q1 q2 q3=>by rw[ou4 i q1,ou4 j (by omega)];exact sg3 i j q1 q2 q3
     exact nextOf (qS st4 ((pendingOf st4).modify ((pendingOf st4).size-1) fun e=> (e.1,e.2.1,power' (arrOf st).size (2*s1+n1) (2*s1+n1+n1+min ((arrOf st).size-lo) (tq (arrOf st).size (arrOf st).size 0)) (arrOf st).size))) _ ⟨bs4.kd,bs4.fl,bs4.perm⟩ (Cov.power cv4) hpos hfit sg4 rfl
  ·rw[if_neg cm]
   have bs3:=bs2
   have cv3:=cv2
   have sg3:=sg2
   have hpos:0<n:=by omega
   have hfit:lo+n≤(arrOf st).size:=by omega
   refine i9 (pF ?_)
   cases hb:(pendingOf st2).back? with
   |none=>
    dsimp only
    exact i9 (oC (jq (nextOf st2 _ bs3 cv3 hpos hfit sg3 rfl)))
   |some e=>
    obtain⟨s1,n1,p1⟩:=e
    dsimp only
    refine i9 (mO (lA (I:=fun _ c st4=>c=(none,())∧Bs kd a₀ st4∧Cov rk (arrOf st4) 0 (pendingOf st4).toList lo∧∀x,lo≤x→RK rk (arrOf st4) x=RK rk (arrOf st2) x)
     (Q:=fun c st4=>c=(none,())∧Bs kd a₀ st4∧Cov rk (arrOf st4) 0 (pendingOf st4).toList lo∧∀x,lo≤x→RK rk (arrOf st4) x=RK rk (arrOf st2) x) ?_ (fun _ _ q=>q) ⟨rfl,bs3,cv3,fun _ _=>rfl⟩) ?_)
    ·rintro y c st4 _ _ ⟨rfl,bs4,cv4,ou4⟩
     refine i9 (pF ?_)
     by_cases cp:(pendingOf st4).size>1
     ·rw[if_pos cp]
      obtain⟨o1,o2,o3⟩:=(pendingOf st4)[(pendingOf st4).size-2]
      have hge:(pendingOf st4)[(pendingOf st4).size-2]?=some (pendingOf st4)[(pendingOf st4).size-2]:=getElem?_pos _ _ (by omega)
      rw[hge]
      dsimp only
      by_cases co:(pendingOf st4)[(pendingOf st4).size-2].2.2≤power' (arrOf st).size (2*s1+n1) (2*s1+n1+n1+n) (arrOf st).size
      ·rw[if_pos co]
       exact jq ⟨rfl,bs4,cv4,ou4⟩
      ·rw[if_neg co]
       refine i9 (Ec C hU bs4 cv4 (by omega) (by omega) fun st5 bs5 cv5 _ ou5=>?_)
       rw[if_neg (by decide)]
       exact jq ⟨rfl,bs5,cv5,fun x hx=> (ou5 x hx).trans (ou4 x hx)⟩
     ·rw[if_neg cp]
      exact jq ⟨rfl,bs4,cv4,ou4⟩
    ·rintro c st4 ⟨rfl,bs4,cv4,ou4⟩
     dsimp only
     refine i9 (oC ?_)
     refine i9 (oC (jq ?_))
     have sg4:Seg rk (arrOf st4) lo (lo+n):=fun i j q1 q2 q3=>by rw[ou4 i q1,ou4 j (by omega)];exact sg3 i j q1 q2 q3
     exact nextOf (qS st4 ((pendingOf st4).modify ((pendingOf st4).size-1) fun e=> (e.1,e.2.1,power' (arrOf st).size (2*s1+n1) (2*s1+n1+n1+n) (arrOf st).size))) _ ⟨bs4.kd,bs4.fl,bs4.perm⟩ (Cov.power cv4) hpos hfit sg4 rfl
 case post=>
  rintro⟨c1,c2⟩ st1 ⟨e,bs,cv⟩
  cases e
  dsimp only
  have done:∀st',Bs kd a₀ st'→Cov rk (arrOf st') 0 (pendingOf st').toList (arrOf st).size→(pendingOf st').size≤1→Fl rk (arrOf st'):=fun st' bs' cv' hl=>by
   have hz':=bs'.size
   intro i j hij hj
   rw[←i8] at hl
   revert cv' hl
   generalize (pendingOf st').toList=l
   intro cv' hl
   match l,cv',hl with
   | [],cv',_=>
    have:0=(arrOf st).size:=cv'
    omega
   | [e],cv',_=>
    obtain⟨q1,q2,q3,q4⟩:=cv'
    have:0+e.2.1=(arrOf st).size:=q4
    exact q3 i j (by omega) hij (by omega)
   |_::_::_,_,hl=>simp only[km] at hl;omega
  have hlen:=cv.le
  rw[i8] at hlen
  refine i9 (mO (lA (I:=fun x c st'=>c=(none,())∧Bs kd a₀ st'∧Cov rk (arrOf st') 0 (pendingOf st').toList (arrOf st).size∧(pendingOf st').size+x≤(arrOf st).size)
   (Q:=fun c st'=>c=(none,())∧Bs kd a₀ st'∧Cov rk (arrOf st') 0 (pendingOf st').toList (arrOf st).size∧(pendingOf st').size≤1) ?_ ?_ ⟨rfl,bs,cv,by omega⟩) ?_)
  ·rintro x c st2 _ hx ⟨rfl,bs2,cv2,hm⟩
   refine i9 (pF ?_)
   by_cases cp:(pendingOf st2).size≤1
   ·rw[if_pos cp]
    exact jq ⟨rfl,bs2,cv2,cp⟩
   ·rw[if_neg cp]
    refine i9 (Ec C hU bs2 cv2 (by omega) ?_ fun st5 bs5 cv5 hs5 _=>?_)
    ·split<;>split<;>omega
    ·rw[if_neg (by decide)]
     exact jq ⟨rfl,bs5,cv5,by omega⟩
  ·rintro c st2 ⟨rfl,bs2,cv2,hm⟩
   exact⟨rfl,bs2,cv2,by omega⟩
  ·rintro c st2 ⟨rfl,bs2,cv2,hm⟩
   exact jq (h _ bs2 (done _ bs2 cv2 hm))
end SrtG
namespace SrtG
open PySem PyProof.Rows
noncomputable def Mp(h:Heap)(v:Value)(a b:Int):Prop:=∃x o t u n,v=.ref x∧h.get? x=some o∧o.data=.seq #[.int a t,.int b u] n
noncomputable def Uo(h:Heap)(k:Keyed):Int:=match k.1 with
  | .ref x=>match h.get? x with
    |some o=>match o.data with
     | .seq xs _=>match (xs[0]?:Option Value),(xs[1]?:Option Value) with
      |some (.int a _),some (.int b _)=>65536*a+b
      |_,_=>0
     |_=>0
    |_=>0
  |_=>0
theorem Fm(p:Mp h k.1 a b):Uo h k=65536*a+b:=by
 obtain⟨x,o,t,u,n,e1,e2,e3⟩:=p
 unfold Uo
 rw[e1]
 dsimp only
 rw[e2]
 dsimp only
 rw[e3]
 rfl
noncomputable def cO(h:Heap)(k:Keyed):Prop:=∃a b,Mp h k.1 a b∧0≤b∧b<65536
variable {prog:Program} {w:World} {A:j6} {E:Value→Shared→Prop} {s:Shared}
theorem QA:Px prog w A E s (uh true) (cO s.heap) (Uo s.heap):=by
 intro st x y Q hk hx hy h
 obtain⟨a,b,px,b0,b1⟩:=hx
 obtain⟨c,d,py,d0,d1⟩:=hy
 rw[Fm px,Fm py] at h
 obtain⟨p,o,t,u,n,e1,e2,e3⟩:=px
 obtain⟨p',o',t',u',n',e1',e2',e3'⟩:=py
 rw[lt'_eq]
 refine i9 (pF ?_)
 rw[hk,e1,e1']
 refine i9 (qv (pA ?_))
 refine PySem.W.kat_lt e2 e3 e2' e3' ?_
 have fin:∀r:Bool,r=decide (65536*a+b<65536*c+d)→(s=s∧wpS (model prog w) A E s (match (Except.ok r:Except Value Bool) with
   | .ok b=>pure (some b)
   | .error e=>do
    modify (fun s=>qX (kindOf s) (arrOf s) (pendingOf s) (gallopOf s) (some e))
    pure none) Q st):=fun r hr=> ⟨rfl,by rw[hr];exact jq h⟩
 refine rW (o9 ?_)
 refine sW (fun e=>?_) (fun e=>?_)
 ·have e':=eq_of_beq e
  refine sE (rW (o9 ?_))
  refine sW (fun q=>?_) (fun q=>?_)
  ·have q':=eq_of_beq q
   exact sE (PySem.W.kat_nil (fin _ (by rw[e',q'];simp)))
  ·exact sV (PySem.W.kat_one _ _ (lt_int (fin _ (by congr 1;rw[e'];apply propext;constructor<;>intro<;>omega))))
 ·have e':a≠c:=fun q=>by rw[q] at e;simp at e
  refine sV (oneLt_int (fin _ ?_))
  congr 1
  apply propext
  constructor<;>intro<;>omega
open PySem.Calls PySem.W
theorem HM:∀(vs:List Value),vs.zip vs=vs.map fun v=> (v,v)
 | []=>rfl
 |v::vs=>by rw[List.zip_cons_cons,kg,HM vs]
structure Rk(prog:Program)(w:World)(U:Heap→Value→Prop)(rk:Heap→Value→Int)(T:Value):Prop where
 cmp:∀{A:j6} {E:Value→Shared→Prop} {s:Shared},Px prog w A E s (uh true) (fun k=>U s.heap k.1) (fun k=>rk s.heap k.1)
 kept:∀{h h':Heap} {v:Value},U h v→(∀b o,o.cls=.type "tuple"→h.get? b=some o→h'.get? b=some o)→U h' v∧rk h' v=rk h v
 kat:∀{h:Heap} {vs:List Value},(∀v∈vs,U h v)→∃fs:List Value,tB h vs fs∧fs.length=vs.length∧∀v∈fs,∀M h',Looks M h' (typeOf v) T
 t1:(T==T)=true
 t2:(T !=oh "tuple")=true
theorem VY{Q:kG→Shared→Prop}(R:Rk prog w U rk T)(ok:∀v∈vs,U s.heap v)
  (h:∀st',oz st'=none→((arrOf st').map (·.2)).toList.Perm vs→((arrOf st').map (·.2)).toList.Pairwise (fun x y=>rk s.heap x≤rk s.heap y)→Q st' s):
  wpAny (model prog w) A ((sortRuns').run (qX (uh true) (vs.toArray.zip vs.toArray) #[] 7 none)) (fun r s'=>Q r.2 s') E s:=by
 have hz:(vs.toArray.zip vs.toArray)=(vs.map fun v=> (v,v)).toArray:=by
  apply o8
  rw[Array.toList_zip]
  show vs.zip vs=vs.map fun v=> (v,v)
  exact HM vs
 have hU:AllU (fun k=>U s.heap k.1) (vs.toArray.zip vs.toArray):=fun i p e=>by
  rw[hz] at e
  have e':(vs.map fun v=> ((v,v):Keyed))[i]?=some p:=by rw[←kJ] at e;exact e
  obtain⟨v,hv,rfl⟩:=jw.mp (i7 e')
  exact ok v hv
 have hwp:wpS (model prog w) A E s sortRuns' (fun _ st'=>Q st' s) (qX (uh true) (vs.toArray.zip vs.toArray) #[] 7 none):=by
  refine Rr (a₀:=vs.toArray.zip vs.toArray) (rk:=fun k=>rk s.heap k.1) R.cmp hU ⟨rfl,rfl,nB.refl _⟩ rfl fun st' b srt=>?_
  have hpm:=b.perm
  rw[hz] at hpm
  have hsame:∀k,k∈(arrOf st').toList→k=(k.2,k.2):=fun k hk=>by
   obtain⟨v,_,rfl⟩:=jw.mp (hpm.mem_iff.mp hk)
   rfl
  refine h st' b.fl ?_ ?_
  ·rw[r9]
   have:=hpm.map (fun k:Keyed=>k.2)
   rw[show((vs.map fun v=> ((v,v):Keyed)).toArray.toList.map fun k:Keyed=>k.2)=vs from by
    show(vs.map fun v=> ((v,v):Keyed)).map (fun k:Keyed=>k.2)=vs
    rw[kI]
    exact tj vs] at this
   exact this
  ·rw[r9,lY]
   refine kW.mpr fun i j hi hj hij=>?_
   have hi':i< (arrOf st').size:=by rw[←i8];exact hi
   have hj':j< (arrOf st').size:=by rw[←i8];exact hj
   have q:=srt i j (nq hij) hj'
   rw[BM hi',BM hj'] at q
   have e1:=hsame (arrOf st').toList[i] (mJ hi)
   have e2:=hsame (arrOf st').toList[j] (mJ hj)
   rw[←(show(arrOf st').toList[i].1=(arrOf st').toList[i].2 from congrArg ni e1),←(show(arrOf st').toList[j].1=(arrOf st').toList[j].2 from congrArg ni e2)]
   exact q
 exact nz hwp (fun r s' q=>by rw[q.1];exact q.2) fun _ _ e=>e
theorem LD(ho:s.heap.get? a=some (lp "list" vs.toArray n))(R:Rk prog w U rk T)(ok:∀v∈vs,U s.heap v)(h2:2≤vs.length)(hn:vs.length≤9000000)
  (h:∀out c h',out.Perm vs→out.Pairwise (fun x y=>rk s.heap x≤rk s.heap y)→h'.get? a=some (lp "list" (sq out) c)→(∀b o,b≠a→s.heap.get? b=some o→h'.get? b=some o)→P (.done (.ret .none)) {s with heap:=h'}):
  wpAny (model prog w) A (Builtin.«list.sort» ⟨[.ref a],[]⟩) P E s:=by
 obtain⟨e1,ho1⟩:∃e1,(s.heap.update a (mB fun _=> (#[]:Array Value))).get? a=some (lp "list" #[] e1):=⟨_,qC ho fun _=> #[]⟩
 have keep:∀b o,b≠a→s.heap.get? b=some o→(((s.heap.update a (mB fun _=> (#[]:Array Value))).push (lp "tuple" vs.toArray 0)).push (lp "list" #[] 0)).get? b=some o:=fun b o hb e=>
  c9 _ (c9 _ (by rw[pz _ _ _ _ hb];exact e))
 have keepT:∀b o,o.cls=.type "tuple"→s.heap.get? b=some o→(((s.heap.update a (mB fun _=> (#[]:Array Value))).push (lp "tuple" vs.toArray 0)).push (lp "list" #[] 0)).get? b=some o:=fun b o ht e=>by
  refine keep b o (fun q=>?_) e
  rw[q,ho] at e
  cases e
  exact absurd (show oh "list" =oh "tuple" from ht) (by decide)
 have ho3:(((s.heap.update a (mB fun _=> (#[]:Array Value))).push (lp "tuple" vs.toArray 0)).push (lp "list" #[] 0)).get? a=some (lp "list" #[] e1):=c9 _ (c9 _ ho1)
 have ok3:∀v∈vs,U _ v:=fun v hv=> (R.kept (ok v hv) keepT).1
 have rk3:∀v∈vs,rk _ v=rk s.heap v:=fun v hv=> (R.kept (ok v hv) keepT).2
 rw[list_sort_plain]
 refine a9 (listItems_at ho rfl ?_)
 refine a9 (rL ho rfl ?_ (by rw[jy,lB];omega) (kZ _))
 refine a9 (sO ho1 rfl ?_)
 refine a9 (wpAny_newTuple ?_ (by show vs.length≤_;rw[lB];omega))
 refine a9 (qm ?_ (kZ _))
 refine ko ?_
 show wpAny (model prog w) A _ P E {s with heap:=((s.heap.update a (mB fun _=> (#[]:Array Value))).push (lp "tuple" vs.toArray 0)).push (lp "list" #[] 0)}
 generalize hG:((s.heap.update a (mB fun _=> (#[]:Array Value))).push (lp "tuple" vs.toArray 0)).push (lp "list" #[] 0)=G at keep ho3 ok3 rk3 ⊢
 dsimp only
 have hn2:¬vs.toArray.size<2:=by rw[jy];omega
 rw[if_neg hn2,if_neg hn2]
 obtain⟨fs,kt,hl,hf⟩:=R.kat ok3
 refine a9 (kat_kind (s:={s with heap:=G}) (T:=T) kt (by omega) (fun v hv=>hf v hv _ _) R.t1 ?_)
 rw[R.t2]
 refine a9 (nz (VY (s:={s with heap:=G}) (Q:=fun st' s'=>s'={s with heap:=G}∧oz st'=none∧((arrOf st').map (·.2)).toList.Perm vs∧((arrOf st').map (·.2)).toList.Pairwise (fun x y=>rk G x≤rk G y)) R ok3 (fun st' a1 a2 a3=> ⟨rfl,a1,a2,a3⟩)) ?_ fun _ _ e=>e)
 rintro⟨⟨⟩,st'⟩ s' ⟨rfl,hfl,hpm,hpw⟩
 dsimp only
 have hsz:((arrOf st').map (·.2)).size=vs.length:=by rw[←i8];exact hpm.length_eq
 obtain⟨c2,hc2⟩:∃c2,(G.update a (mB fun _=> (arrOf st').map (·.2))).get? a=some (lp "list" ((arrOf st').map (·.2)) c2):=⟨_,qC ho3 fun _=> (arrOf st').map (·.2)⟩
 refine a9 (sO ho3 rfl ?_)
 refine a9 (rL ho3 rfl ?_ (kZ _) (kO (Nat.le_of_eq hsz) (by rw[lB];omega)))
 rw[hfl]
 simp only[bne_self_eq_false,j9,if_false]
 refine b8 (h ((arrOf st').map (·.2)).toList c2 _ hpm ?_ hc2 fun b o hb e=>by rw[pz _ _ _ _ hb];exact keep b o hb e)
 refine lS (fun{x y} hx hy q=>?_) hpw
 rw[rk3 _ (hpm.mem_iff.mp hx),rk3 _ (hpm.mem_iff.mp hy)] at q
 exact q
noncomputable def TupAt(h:Heap)(v:Value)(a b:Int):Prop:=∃x o t u n,v=.ref x∧h.get? x=some o∧o.cls=.type "tuple"∧o.data=.seq #[.int a t,.int b u] n
noncomputable def TupsOk(h:Heap)(vs:List Value):Prop:=∀v,v∈vs→∃a b,TupAt h v a b∧0≤b∧b<65536
theorem TupAt.pair(t:TupAt h v a b):Mp h v a b:=by
 obtain⟨x,o,t,u,n,e1,e2,_,e4⟩:=t
 exact⟨x,o,t,u,n,e1,e2,e4⟩
theorem TupsOk.kat:∀{vs:List Value},TupsOk h vs→∃fs:List Value,tB h vs fs∧fs.length=vs.length∧∀v∈fs,∃a t,v=.int a t
 | [],_=> ⟨[],tB.nil,rfl,fun v hv=>by cases hv⟩
 |v::vs,ok=>by
  obtain⟨fs,k,hl,hf⟩:=TupsOk.kat (vs:=vs) fun v hv=>ok v (.tail _ hv)
  obtain⟨a,b,⟨x,o,t,u,n,rfl,e,hc,hd⟩,_,_⟩:=ok v (.head _)
  exact⟨.int a t::fs,tB.cons e hc hd rfl k,by rw[km,km,hl],fun v hv=>by
   rcases ju.mp hv with rfl|hv
   ·exact⟨a,t,rfl⟩
   ·exact hf v hv⟩
theorem TupsOk.kept(ok:TupsOk h vs)(k:∀b o,o.cls=.type "tuple"→h.get? b=some o→h'.get? b=some o):TupsOk h' vs:=fun v hv=>by
 obtain⟨a,b,⟨x,o,t,u,n,e1,e2,e3,e4⟩,q⟩:=ok v hv
 exact⟨a,b,⟨x,o,t,u,n,e1,k _ _ e3 e2,e3,e4⟩,q⟩
theorem TupsOk.rk(ok:TupsOk h vs)(k:∀b o,o.cls=.type "tuple"→h.get? b=some o→h'.get? b=some o)(hv:v∈vs):Uo h' (v,v)=Uo h (v,v):=by
 obtain⟨a,b,t,q⟩:=ok v hv
 obtain⟨x,o,t',u,n,e1,e2,e3,e4⟩:=t
 rw[Fm (k:=(v,v)) (TupAt.pair ⟨x,o,t',u,n,e1,e2,e3,e4⟩),Fm (k:=(v,v)) (TupAt.pair ⟨x,o,t',u,n,e1,k _ _ e3 e2,e3,e4⟩)]
theorem Rt:Rk prog w (fun h v=>∃a b,TupAt h v a b∧0≤b∧b<65536) (fun h v=>Uo h (v,v)) (.type "int") where
 cmp:=by
  intro A E s st x y Q hk hx hy h
  obtain⟨a,b,t,q⟩:=hx
  obtain⟨c,d,u,r⟩:=hy
  exact QA st x y Q hk ⟨a,b,t.pair,q⟩ ⟨c,d,u.pair,r⟩ h
 kept:=fun{h h' v} ok k=> ⟨TupsOk.kept (vs:=[v]) (fun u hu=>jz.mp hu▸ok) k v (by simp),TupsOk.rk (vs:=[v]) (fun u hu=>jz.mp hu▸ok) k (by simp)⟩
 kat:=fun{h vs} ok=>by
  obtain⟨fs,kt,hl,hf⟩:=TupsOk.kat ok
  refine⟨fs,kt,hl,fun v hv M h'=>?_⟩
  obtain⟨x,t,rfl⟩:=hf v hv
  exact fun _ _ _ _ _ q=>b8 q
 t1:=rfl
 t2:=rfl
theorem Mq(ho:s.heap.get? a=some (lp "list" vs.toArray n))(ok:TupsOk s.heap vs)(h2:2≤vs.length)(hn:vs.length≤4096)
  (h:∀out c h',out.Perm vs→out.Pairwise (fun x y=>Uo s.heap (x,x)≤Uo s.heap (y,y))→h'.get? a=some (lp "list" (sq out) c)→(∀b o,b≠a→s.heap.get? b=some o→h'.get? b=some o)→P (.done (.ret .none)) {s with heap:=h'}):
  wpAny (model prog w) A (Builtin.«list.sort» ⟨[.ref a],[]⟩) P E s:=LD ho Rt ok h2 (by omega) h
end SrtG
namespace StT
open PySem PySem.SetTable PyProof.Rows
section
variable {prog:Program} {w:World} {A:j6} {E:Value→Shared→Prop} {s:Shared}
noncomputable abbrev BH(w:World):Obj:={cls:=.type "set",dict:=none,data:=.set #[] 0 (.fresh 0 0 (!w.params.followText "set-order"))}
theorem LF(a:Value)(h:Q₁ (.ref s.heap.objs.size) {s with heap:=s.heap.push (BH w)}):
  oF (model prog w) A (.call (.builtin "set.__new__") ⟨[.type "set",a],[]⟩) (wants Q₁ E) s:=by
 refine codeAny_of_tree ?_
 show wpAny _ A.in1 (do rS "set.__new__" ⟨[.type "set",a],[]⟩;again (.builtin "set.__new__" ⟨[.type "set",a],[]⟩)) _ _ s
 refine a9 (rB (PySem.F.newCall_set_1 a) (b8 ⟨nN PySem.F.plain_set_new _,mW PySem.F.entry_set_new ?_⟩))
 rw[mD PySem.F.plain_set_new _]
 unfold Builtin.«set.__new__» Builtin.Frozenset.newClass
 have hsub:=sub_set_self
 obtain⟨hp,g,d,tk,os⟩:=s
 dsimp only
 wp_walk
 refine qc (b8 ?_)
 dsimp only
 simp only[newObj]
 refine a9 (wpAny_alloc (b8 ?_))
 exact b8 h
theorem HN(ft:TypeCalled T newId initId)
  (hct:checkTypeCall T ⟨args,[]⟩=pure ())
  (hnew:oF (model prog w) A.in1 (.call (.builtin newId) ⟨.type T::args,[]⟩) (wants Q₁ E) s)
  (hnext:∀obj s₁,Q₁ obj s₁→s₁.TypeIs obj T∧oF (model prog w) A.in1 (.call (.builtin initId) ⟨obj::args,[]⟩) (wants (fun r s₂=>r=.none∧Q obj s₂) E) s₁):
  wpAny (model prog w) A (call (.type T) args) Q E s:=by
 obtain⟨c,tl,hmro⟩:=ft.mro
 have hmade:=ft.made
 have hsub:=ft.sub
 refine pJ (codeAny_of_tree ?_)
 show wpAny _ _ (callAny (.type T) _) _ _ _
 refine b8 ⟨Code.quiet_builtin _ (by decide+kernel),mW PySem.F.entry_type_call ?_⟩
 rw[j6.under_plain (weight_type_call_type T args []) rfl]
 have h1:=ft.notType
 have h2:=ft.canCreate
 repeat (any_goals (first|assumption|wp_step))
 refine oD hnew fun r s₁ hr=>?_
 cases r with
 |error e=>exact hr
 |ok fl=>
  cases fl with
  |ret obj=>
   obtain⟨hT,hsi⟩:=hnext _ _ hr
   have hli:=ft.init.lookup
   have hbi:=ft.init.bind obj
   repeat (any_goals (first|assumption|wp_step))
   refine oD hsi fun r₂ s₂ hr₂=>?_
   cases r₂ with
   |error e=>exact hr₂
   |ok fl₂=>
    cases fl₂ with
    |ret r=>
     obtain⟨rfl,hq⟩:=hr₂
     repeat (any_goals (first|assumption|wp_step))
    |_=>exact hr₂.elim
  |_=>exact hr.elim
theorem HP
  (hh:A.handled=none) (hl:s.heap.IsList l items) (hps:items.toList=ps.map fun p=>Value.ref p.2) (hp:∀k x,(k,x)∈ps→IK prog w s.heap k x) (hz:ps.length≤300) (hu:A.units+8<cLine)
  (h:∀(h':Heap) (tk:Nat) (xs:List (List Int×Addr)),SetX prog w h' s.heap.objs.size xs→JY ps xs→
   (∀b o,b<s.heap.objs.size→s.heap.get? b=some o→h'.get? b=some o)→Q (.ref s.heap.objs.size) {s with heap:=h',toks:=tk}):
  wpAny (model prog w) A (call (.type "set") [.ref l]) Q E s:=by
 refine HN (Q₁:=fun obj s₁=>obj=.ref s.heap.objs.size∧s₁={s with heap:=s.heap.push (BH w)}) pN (PySem.F.typeCall_set_1 _) (LF _ ⟨rfl,rfl⟩) ?_
 rintro obj s₁ ⟨rfl,rfl⟩
 have hS:(s.heap.push (BH w)).get? s.heap.objs.size=some (BH w):=kb _ rfl
 have hT:Shared.TypeIs {s with heap:=s.heap.push (BH w)} (.ref s.heap.objs.size) "set":=⟨_,hS,rfl⟩
 refine⟨hT,nY pN.init.plain PySem.F.entry_set_init (check_set_init_1 hT ?_)⟩
 obtain⟨ol,hol,hcl,nl,hdl⟩:=hl
 obtain⟨ocls,odict,odata,oslots⟩:=ol
 simp only at hcl hdl
 subst hcl;subst hdl
 have hol':(s.heap.push (BH w)).get? l=some {cls:=.type "list",dict:=odict,data:=.seq items nl,slots:=oslots}:=c9 _ hol
 have hsls:=PySem.F.sub_list_set
 have hslf:=PySem.F.sub_list_frozenset
 have hne:(oh "list" ==oh "dict")=false:=by decide
 have hl1:(s.heap.push (BH w)).IsList l items:=⟨_,hol',rfl,nl,rfl⟩
 unfold Builtin.«set.__init__» noKeywords Builtin.Frozenset.updateFrom
 generalize hPI:sQ=PI
 wp_walk
 subst hPI
 refine oQ hl1 ?_
 refine a9 (wpAny_runValue ?_)
 have hlS:l<s.heap.objs.size:=jo hol
 have hneI:l≠(s.heap.push (BH w)).objs.size:=by
  rw[lU];exact ke (mq hlS)
 have kp:∀b o,s.heap.get? b=some o→((s.heap.push (BH w)).push {cls:=.type "list_iterator",data:=.fields #[.ref l,.int 0 0]}).get? b=some o:=fun b o e=>c9 _ (c9 _ e)
 refine VV (a:=s.heap.objs.size) (l:=l) (ps:=ps) (by simpa using hh) hneI (by rw[lU];exact ke (nQ _)) (p7 hlS) hps hz (by
   show A.in1.in1.units+1<cLine
   exact qZ (show A.units+1+1+1≤A.units+8 by omega) hu) (ps.length-0) 0 _ [] rfl (kZ _)
  ⟨_,kb _ rfl,rfl,rfl⟩ (hl1.push _) (fun k x hx=> ⟨DP (hp k x hx) fun u e=>kp x u e,?_⟩) ⟨BH w,#[],0,_,c9 _ hS,⟨rfl,rfl,rfl⟩,rfl,rfl,fun i k x e=>by simp at e,sZ,Tb.fresh _ _ _,rfl,(by show 0*5<7*3;decide),rfl⟩ ⟨fun p hp=>by simp at hp,fun k y hy=>by simp at hy,by simp⟩ ?_
 ·obtain⟨o',_,_,ho',_⟩:=hp k x hx
  have:=jo ho'
  rw[lU]
  exact ke (mq this)
 ·intro h' tk' xs' kk sx so
  refine b8 ?_
  show wpAny _ _ (ret nU) _ _ _
  refine b8 ⟨rfl,h h' tk' xs' sx so fun b o hb e=>kk b o (ke hb) ?_ (kp b o e)⟩
  rw[lU];exact ke (mq hb)
end
open PySem.Calls PySem.W
theorem LG{vs:List Value}(ho:s.heap.get? a=some (lp "list" vs.toArray n))(h2:vs.length<2)
  (h:∀c h',h'.get? a=some (lp "list" vs.toArray c)→(∀b o,b≠a→s.heap.get? b=some o→h'.get? b=some o)→P (.done (.ret .none)) {s with heap:=h'}):
  wpAny (model prog w) A (Builtin.«list.sort» ⟨[.ref a],[]⟩) P E s:=by
 obtain⟨e1,ho1⟩:∃e1,(s.heap.update a (mB fun _=> (#[]:Array Value))).get? a=some (lp "list" #[] e1):=⟨_,qC ho fun _=> #[]⟩
 have keep:∀b o,b≠a→s.heap.get? b=some o→(((s.heap.update a (mB fun _=> (#[]:Array Value))).push (lp "tuple" vs.toArray 0)).push (lp "list" #[] 0)).get? b=some o:=fun b o hb e=>
  c9 _ (c9 _ (by rw[pz _ _ _ _ hb];exact e))
 have ho3:(((s.heap.update a (mB fun _=> (#[]:Array Value))).push (lp "tuple" vs.toArray 0)).push (lp "list" #[] 0)).get? a=some (lp "list" #[] e1):=c9 _ (c9 _ ho1)
 rw[list_sort_plain]
 refine a9 (listItems_at ho rfl ?_)
 refine a9 (rL ho rfl ?_ (by rw[jy,lB];omega) (kZ _))
 refine a9 (sO ho1 rfl ?_)
 refine a9 (wpAny_newTuple ?_ (by show vs.length≤_;rw[lB];omega))
 refine a9 (qm ?_ (kZ _))
 refine ko ?_
 show wpAny (model prog w) A _ P E {s with heap:=((s.heap.update a (mB fun _=> (#[]:Array Value))).push (lp "tuple" vs.toArray 0)).push (lp "list" #[] 0)}
 generalize hG:((s.heap.update a (mB fun _=> (#[]:Array Value))).push (lp "tuple" vs.toArray 0)).push (lp "list" #[] 0)=G at keep ho3 ⊢
 dsimp only
 have hn2:vs.toArray.size<2:=by rw[jy];omega
 rw[if_pos hn2,if_pos hn2]
 refine a9 (b8 ?_)
 refine a9 (b8 ?_)
 dsimp only
 have har:((vs.toArray.zip vs.toArray).map (·.2))=vs.toArray:=by
  apply o8
  rw[r9,Array.toList_zip]
  show(vs.zip vs).map (·.2)=vs
  rw[SrtG.HM,kI]
  exact tj vs
 have har':(arrOf (qX general' (vs.toArray.zip vs.toArray) #[] 7 none)).map (·.2)=vs.toArray:=har
 rw[har']
 obtain⟨c2,hc2⟩:∃c2,(G.update a (mB fun _=>vs.toArray)).get? a=some (lp "list" vs.toArray c2):=⟨_,qC ho3 fun _=>vs.toArray⟩
 refine a9 (sO ho3 rfl ?_)
 refine a9 (rL ho3 rfl ?_ (kZ _) (by rw[jy,lB];omega))
 show wpAny _ _ (if(e1 !=e1)=true then _ else _) _ _ _
 rw[if_neg (by simp)]
 exact b8 (h c2 _ hc2 fun b o hb e=>by rw[pz _ _ _ _ hb];exact keep b o hb e)
theorem Bm {α β : Type} {f : α → β} {l1 l2 : List β} (h : l1.Perm l2) : ∀ {xs : List α}, l2 = xs.map f → ∃ ys : List α, ys.Perm xs ∧ ys.map f = l1 := by
  induction h with
  | nil => intro xs e; cases xs with
    | nil => exact ⟨[], .refl _, rfl⟩
    | cons x xs => cases e
  | cons x _ ih => intro xs e; cases xs with
    | nil => cases e
    | cons y xs =>
      rw [kg] at e
      injection e with e1 e2
      obtain ⟨ys, h1, h2⟩ := ih e2
      exact ⟨y :: ys, h1.cons y, by rw [kg, h2, e1]⟩
  | swap x y l => intro xs e; match xs, e with
    | a :: b :: xs, e =>
      simp only [kg] at e
      injection e with e1 e2
      injection e2 with e2 e3
      exact ⟨b :: a :: xs, .swap _ _ _, by simp only [kg]; rw [← e1, ← e2, ← e3]⟩
  | trans _ _ ih1 ih2 => intro xs e
                         obtain ⟨ys, h1, h2⟩ := ih2 e
                         obtain ⟨zs, h3, h4⟩ := ih1 h2.symm
                         exact ⟨zs, h3.trans h1, h4⟩
theorem Mr(hh:A.handled=none)(S:SetX prog w s.heap a xs)(hz:xs.length≤300)
  (hp:∀k x,(k,x)∈xs→∃p q,k=[p,q]∧0≤q∧q<65536)
  (h:∀(h':Heap) (tk:Nat) (ys:List (List Int×Addr)) (D:Addr) (c:Nat),s.heap.get? D=none→h'.get? D=some (lp "list" (ys.map fun p=>Value.ref p.2).toArray c)→(∀b o,s.heap.get? b=some o→h'.get? b=some o)→
   ys.Perm xs→ys.Pairwise (fun x y=>65536*x.1.getD 0 0+x.1.getD 1 0≤65536*y.1.getD 0 0+y.1.getD 1 0)→Q (.ref D) {s with heap:=h',toks:=tk}):
  wpAny (model prog w) A (call (.builtin "sorted") [.ref a]) Q E s:=by
 obtain⟨o,es,ep,t,S⟩:=S
 refine call_function_entry ud tR tU (t4 _) ?_
 unfold Builtin.«sorted»
 refine a9 (m:=checkCount "sorted" 1 1 _) (b8 ?_)
 refine a9 (kdu_collect (A:=A.in1) (OK S.wk) hh S.get (by rw[S.size,lB];omega) fun h1 tk1 acc hk1 hacc=>?_)
 have hsz:acc.toList.length=xs.length:=by rw[i8,hacc.1,S.size]
 have hacc2:acc.toList=(Df w a ep es).toList.map (·.2):=by
  apply lN
  intro i
  rw[i6]
  by_cases hi:i<acc.size
  ·have e1:acc[i]?=some acc[i]:=by simp[hi]
   obtain⟨hh',e2⟩:=hacc.2 i _ e1
   have e2':(Df w a ep es).toList[i]?=some (hh',acc[i]):=by simpa using e2
   rw[e2']
   simpa using e1
  ·have h1':acc.toList[i]?=none:=by simp;omega
   have h2':(Df w a ep es).toList[i]?=none:=by
    apply mn
    rw[i8,EG,←hacc.1];omega
   rw[h1',h2'];rfl
 have hperm:acc.toList.Perm (xs.map fun p=>Value.ref p.2):=by
  rw[hacc2]
  refine((Fk w a ep es).map (·.2)).trans ?_
  rw[S.es,Pq,kI]
  exact nB.refl _
 have hIK:∀k x,(k,x)∈xs→IK prog w h1 k x:=fun k x hx=>by
  obtain⟨i,hi⟩:=lj hx
  exact DP (S.key i k x hi) fun u e=>hk1 x u e
 have tupAt:∀k x,(k,x)∈xs→∃p q,k=[p,q]∧SrtG.TupAt h1 (.ref x) p q∧0≤q∧q<65536:=fun k x hx=>by
  obtain⟨p,q,rfl,h0,h1'⟩:=hp k x hx
  obtain⟨o',items,n,ho',hc',hd',hi'⟩:=hIK _ x hx
  refine⟨p,q,rfl,?_,h0,h1'⟩
  generalize hL:items.toList=L at hi'
  cases hi' with
  |cons i1 i2=>
   cases i2 with
   |cons i3 i4=>
    cases i4
    obtain⟨t1,rfl⟩:=EE i1
    obtain⟨t2,rfl⟩:=EE i3
    have:items= #[.int p t1,.int q t2]:=by
     apply o8
     rw[hL]
    exact⟨x,o',t1,t2,n,rfl,ho',hc',by rw[hd',this]⟩
 refine a9 (qm ?_ (by rw[hsz,lB];omega))
 have hoL:(h1.push (lp "list" acc.toList.toArray 0)).get? h1.objs.size=some (lp "list" acc.toList.toArray 0):=kb _ rfl
 have hDn:s.heap.get? h1.objs.size=none:=by
  cases e:s.heap.get? h1.objs.size with
  |none=>rfl
  |some o'=>exact absurd (jo (hk1 _ _ e)) (lH _)
 have hkp:∀b o,h1.get? b=some o→(h1.push (lp "list" acc.toList.toArray 0)).get? b=some o:=fun b o e=>c9 _ e
 obtain⟨ws,hw1,hw2⟩:=Bm hperm rfl
 have fin:∀(out:List Value) (c:Nat) (h2:Heap),out.Perm acc.toList→out.Pairwise (fun x y=>SrtG.Uo (h1.push (lp "list" acc.toList.toArray 0)) (x,x)≤SrtG.Uo (h1.push (lp "list" acc.toList.toArray 0)) (y,y))→
   h2.get? h1.objs.size=some (lp "list" (sq out) c)→(∀b o,b≠h1.objs.size→(h1.push (lp "list" acc.toList.toArray 0)).get? b=some o→h2.get? b=some o)→Q (.ref h1.objs.size) {s with heap:=h2,toks:=tk1}:=fun out c h2 pm pw hg hk=>by
  obtain⟨ys,y1,y2⟩:=Bm (pm.trans hperm) rfl
  subst y2
  refine h h2 tk1 ys _ c hDn hg (fun b o e=>?_) y1 ?_
  ·have hlt:=jo (hk1 b o e)
   exact hk b o (ke hlt) (hkp b o (hk1 b o e))
  ·rw[lY] at pw
   refine lS (fun{x y} hx hy q=>?_) pw
   obtain⟨k1,x1⟩:=x
   obtain⟨k2,x2⟩:=y
   obtain⟨p,q',rfl,t1,_⟩:=tupAt k1 x1 (y1.mem_iff.mp hx)
   obtain⟨p2,q2,rfl,t2,_⟩:=tupAt k2 x2 (y1.mem_iff.mp hy)
   have keepT:∀{v:Value} {i j:Int},SrtG.TupAt h1 v i j→SrtG.TupAt (h1.push (lp "list" acc.toList.toArray 0)) v i j:=fun t=>by
    obtain⟨x,o,t,u,n,e1,e2,e3,e4⟩:=t
    exact⟨x,o,t,u,n,e1,hkp _ _ e2,e3,e4⟩
   rw[SrtG.Fm (k:=(Value.ref x1,Value.ref x1)) (keepT t1).pair,SrtG.Fm (k:=(Value.ref x2,Value.ref x2)) (keepT t2).pair] at q
   exact q
 refine a9 (ko (mG sN ⟨_,hoL,rfl⟩ sC ?body (sT _)))
 case body=>
  by_cases hlen:acc.toList.length<2
  ·refine LG (s:={s with heap:=h1.push (lp "list" acc.toList.toArray 0),toks:=tk1}) hoL hlen fun c h2 hg hk=> ⟨_,rfl,b8 ⟨_,rfl,fin acc.toList c h2 (.refl _) ?_ hg hk⟩⟩
   generalize acc.toList=l at hlen
   cases l with
   |nil=>exact .nil
   |cons x l=>
    cases l with
    |nil=>exact mZ _ _
    |cons y l=>simp only[km] at hlen;omega
  ·refine SrtG.Mq (s:={s with heap:=h1.push (lp "list" acc.toList.toArray 0),toks:=tk1}) hoL (fun v hv=>?_) (by omega) (by omega) fun out c h2 pm pw hg hk=> ⟨_,rfl,b8 ⟨_,rfl,fin out c h2 pm pw hg hk⟩⟩
   obtain⟨⟨k,x⟩,hx,rfl⟩:=jw.mp (hperm.mem_iff.mp hv)
   obtain⟨p,q,rfl,⟨x',o',t1,t2,n,e1,e2,e3,e4⟩,h0,h1'⟩:=tupAt k x hx
   exact⟨p,q,⟨x',o',t1,t2,n,e1,hkp _ _ e2,e3,e4⟩,h0,h1'⟩
end StT
namespace L2
open PySem PySem.Spec PyProof.Rows
section
variable {X:Cx} {σ:St} {H:Hp}
theorem Inv.laidF(I:Inv X pins σ H s)(k:∀b u,s.heap.get? b=some u→h'.get? b=some u)(hp:s.heap.get? a=none)(new:ObjOk X.prog X.w (upd H a o) h' a o):
  Inv X pins σ (upd H a o) {s with heap:=h',toks:=t'}:=by
 have hn:H a=none:=by
  cases q:H a with
  |none=>rfl
  |some u=>
   obtain⟨ob,e⟩:=(I.hok a u q).obj
   rw[hp] at e;cases e
 have ne:∀b u,s.heap.get? b=some u→b≠a:=fun b u e z=>by rw[z,hp] at e;cases e
 refine I.un ⟨fun b u q _ _ _=>k b u q,fun b u q _ _ _=> ⟨u.slots,k b u q⟩,fun b u q n _=>by rw[AR (ne b u q)];exact n,fun b u q _=> ⟨u,k b u q⟩,fun b xs q=>by rw[AR (AW q hn)];exact q,fun b u xs q=>by rw[AR (AW q hn)];exact q,fun b ps q=> ⟨#[],by rw[AR (AW q hn),q];simp⟩⟩ ?_
 intro b u e
 by_cases hb:b=a
 ·subst hb;rw[AL] at e;cases e;exact new
 ·rw[AR hb] at e
  exact(I.hok b u e).stay (fun c v _ q=>k c v q) (fun c q=>by rw[AR (AW q hn)];exact q) fun c xs q=>by rw[AR (AW q hn)];exact q
noncomputable def cP(P:Program)(w:World)(a:Addr)(xs:List (List Int×Addr))(h:Heap):Prop:=∃o es ep t,h.get? a=some o∧o.ExactSet∧o.data=.set es ep t∧es.toList=StT.Pq xs P w∧(xs.map (·.1)).Nodup∧StT.Tb t (xs.map fun p=> (StT.tk P w).hash p.1)∧t.plain=true∧xs.length*5<t.mask*3∧t.led=!w.params.followText "set-order"
noncomputable def SetO(P:Program)(w:World)(a:Addr)(xs:List (List Int×Addr)):HO:=.ext (cP P w a xs)
theorem VZ(S:StT.SetX P w h a xs):ObjOk P w H h a (SetO P w a xs):=by
 obtain⟨o,es,ep,t,S⟩:=S
 refine⟨⟨o,es,ep,t,S.get,S.ex,S.dat,S.es,S.nd,S.tb,S.pl,S.room,S.led⟩,⟨o,S.get⟩,fun h1 h2 ⟨o,es,ep,t,g,r⟩ hk=> ⟨o,es,ep,t,hk _ g,r⟩⟩
noncomputable def Ru(K:a8)(H:Hp)(xs:List (List Int×Addr)):Prop:=∀k x,(k,x)∈xs→GG K H x (k.map V.int)
theorem Ip:∀{k:List Int} {us:List Value},Vals (k.map V.int) us→ItemsAre (intKind prog w) k us
 | [],us,r=>by rw[pj] at r;cases r;exact .nil
 |n::k,us,r=>by
  rw[kg] at r
  cases r with
  |cons r1 r2=>
   obtain⟨t,rfl⟩:=r1
   exact .cons (qT _ _ _ _) (Ip r2)
theorem Inv.ik(I:Inv X pins σ H s)(h:GG X.K H x (k.map V.int)):StT.IK X.prog X.w s.heap k x:=by
 obtain⟨its,r,⟨o,ho,hc,n,hd⟩,hz⟩:=I.tuple h
 exact⟨o,its.toArray,n,ho,hc,hd,by simpa using Ip r⟩
noncomputable def gM(X:Cx):List V→Hp→VK→Prop:=fun vs H Q=>∃a ps,vs=[.ref a]∧SqL X.K H a (ps.map fun p=>V.ref p.2)∧Ru X.K H ps∧ps.length≤300∧
 ∀p xs,H p=none→StT.JY ps xs→(xs.map (·.1)).Nodup→Q (.ref p) (upd H p (SetO X.prog X.w p xs))
theorem Iq:∀{ps:List (List Int×Addr)} {us:List Value},Vals (ps.map fun p=>V.ref p.2) us→us=ps.map fun p=>Value.ref p.2
 | [],us,r=>by rw[pj] at r;cases r;rfl
 |p::ps,us,r=>by
  rw[kg] at r
  cases r with
  |cons r1 r2=>
   rw[Iq r2]
   have r1:_=Value.ref p.2:=r1
   rw[r1]
   rfl
theorem QB(hc:X.calm=true)(hu:X.A.units+8<cLine):Bb X (.type "set") (gM X):=by
 intro pins s σ H vs us Q I r h
 obtain⟨a,ps,rfl,hl,hk,hz,q⟩:=h
 obtain⟨u,rfl,ru⟩:=Vals.one r
 cases ru
 obtain⟨its,rv,p,_⟩:=I.list hl
 refine StT.HP (ps:=ps) (I.ok.hd hc) p.isList (by simpa using Iq rv) (fun k x hx=>I.ik (hk k x hx)) hz hu fun h' tk xs sx so kp=>?_
 have hf:H s.heap.objs.size=none:=I.hok.fresh (jm _)
 have nd:(xs.map (·.1)).Nodup:=by obtain⟨_,_,_,_,S⟩:=sx;exact S.nd
 exact⟨.ref s.heap.objs.size,upd H s.heap.objs.size (SetO X.prog X.w s.heap.objs.size xs),I.laid (t':=tk) (fun b u e=>kp b u (jo e) e) (jm _) (VZ sx),rfl,q _ _ hf so nd⟩
noncomputable def ZN(X:Cx):List V→Hp→VK→Prop:=fun vs H Q=>∃p xs,vs=[.ref p]∧H p=some (SetO X.prog X.w p xs)∧Ru X.K H xs∧xs.length≤300∧(∀k x,(k,x)∈xs→∃i j,k=[i,j]∧0≤j∧j<65536)∧
 ∀(q:Addr) (ys:List (List Int×Addr)),H q=none→ys.Perm xs→ys.Pairwise (fun x y=>65536*x.1.getD 0 0+x.1.getD 1 0≤65536*y.1.getD 0 0+y.1.getD 1 0)→Q (.ref q) (upd H q (.lst (ys.map fun p=>V.ref p.2)))
theorem Ir:∀(ps:List (List Int×Addr)),Vals (ps.map fun p=>V.ref p.2) (ps.map fun p=>Value.ref p.2)
 | []=> .nil
 |p::ps=> .cons rfl (Ir ps)
theorem Jb(hc:X.calm=true):Bb X (.builtin "sorted") (ZN X):=by
 intro pins s σ H vs us Q I r h
 obtain⟨p,xs,rfl,hp,hk,hz,h2,q⟩:=h
 obtain⟨u,rfl,ru⟩:=Vals.one r
 cases ru
 obtain⟨⟨o,es,ep,t,g1,g2,g3,g4,g5,g6,g7,g8,g9⟩,_,_⟩:=I.hok p _ hp
 refine StT.Mr (xs:=xs) (I.ok.hd hc) ⟨o,es,ep,t,g1,g2,g3,g4,fun i k x e=>I.ik (hk k x (i7 e)),g5,g6,g7,g8,g9⟩ hz h2 fun h' tk ys D c hD hg kp pm pw=>?_
 have hf:H D=none:=I.hok.none_of hD
 refine⟨.ref D,upd H D (.lst (ys.map fun p=>V.ref p.2)),I.laidF (t':=tk) kp hD ⟨?_,_,c,Ir ys,hg⟩,rfl,q D ys hf pm pw⟩
 rw[b9,pm.length_eq,lB]
 omega
end
end L2
namespace ZpT
open PySem PySem.Spec PyProof.Rows
end ZpT
namespace L2
open PySem PySem.Spec PyProof.Rows
open PySem.Calls
noncomputable def SqS(K:a8)(H:Hp)(a:Addr)(xs:List V):Prop:=SqL K H a xs∨GG K H a xs
theorem Inv.walk{σ:St}(I:Inv X pins σ H s)(hq:SqS X.K H a xs):∃its:List Value,Vals xs its∧a<s.heap.objs.size∧∀(A:j6) (E:Value→Shared→Prop) (Q:Value→Shared→Prop),A.handled=none→
  (∀(o:Obj) (St:Nat→Heap→Prop),Walks X.prog X.w A s.heap.objs.size [s.heap.objs.size,a] [s.heap.objs.size] its.length (fun i v=>its[i]?=some v) St→St 0 (s.heap.push o)→Q (.ref s.heap.objs.size) {s with heap:=s.heap.push o})→wpAny (model X.prog X.w) A (sQ (.ref a)) Q E s:=by
 rcases hq with hq|hq
 ·obtain⟨its,rv,p,_⟩:=I.list hq
  have lt:a<s.heap.objs.size:=by obtain⟨_,_,e,_⟩:=p;exact jo e
  refine⟨its,rv,lt,fun A E Q hh h=>oQ p.isList ?_⟩
  have W:=Walks.list (prog:=X.prog) (w:=X.w) (A:=A) hh s.heap.objs.size a (ke lt) its.toArray
  have W':Walks X.prog X.w A s.heap.objs.size [s.heap.objs.size,a] [s.heap.objs.size] its.length (fun i v=>its[i]?=some v) (fun i h=>h.IsListIter s.heap.objs.size a i∧h.IsList a its.toArray):=by simpa using W
  exact h _ _ W' ⟨⟨_,kb _ rfl,rfl,rfl⟩,p.isList.push _⟩
 ·obtain⟨its,rv,p,_⟩:=I.tuple hq
  have lt:a<s.heap.objs.size:=by obtain⟨_,e,_⟩:=p;exact jo e
  refine⟨its,rv,lt,fun A E Q hh h=>wpAny_pyIter_tuple (items:=its.toArray) p ?_⟩
  have W:=Walks.tuple (prog:=X.prog) (w:=X.w) (A:=A) hh s.heap.objs.size a (ke lt) its.toArray
  have W':Walks X.prog X.w A s.heap.objs.size [s.heap.objs.size,a] [s.heap.objs.size] its.length (fun i v=>its[i]?=some v) (fun i h=>h.IsTupleIter s.heap.objs.size a i∧h.IsTuple a its.toArray):=by simpa using W
  have p':s.heap.IsTuple a its.toArray:=p
  exact h _ _ W' ⟨⟨_,kb _ rfl,rfl,rfl⟩,p'.at fun o e=>c9 _ e⟩
theorem HQ{s:Shared}{h':Heap}(hk:∀b x,b∉[s.heap.objs.size]→(s.heap.push o).get? b=some x→h'.get? b=some x):∀b x,s.heap.get? b=some x→h'.get? b=some x:=fun b x e=>
 hk b x (by simpa using ke (jo e)) (c9 _ e)
theorem Va{bs:List Bool}:∀{us:List Value},Vals (bs.map V.bl) us→us=bs.map qf:=by
 induction bs with
 |nil=>intro us r;rw[pj] at r;cases r;rfl
 |cons b bs ih=>
  intro us r
  rw[kg] at r
  cases r with
  |cons r1 r2=>
   cases r1
   rw[ih r2];rfl
theorem LH(bs:List Bool):((jr bs.length).all fun i=> (bs[i]?).getD true)=bs.all id:=LSm.range_all bs
theorem Rv(hc:X.calm=true):Bb X (.builtin "all") (fun vs H Q=>∃(a:Addr) (bs:List Bool),vs=[.ref a]∧SqS X.K H a (bs.map V.bl)∧Q (.bl (bs.all id)) H):=by
 intro pins s σ H vs us Q I r h
 obtain⟨a,bs,rfl,hq,q⟩:=h
 obtain⟨u,rfl,ru⟩:=GH r
 cases ru
 obtain⟨its,rv,lt,wk⟩:=I.walk hq
 have e:=Va rv
 refine call_all_walk (wk X.A.in1 _ _ (I.ok.hd hc) fun o St W st=> ⟨_,_,_,_,_,_,fun i=> (bs[i]?).getD true,rfl,W,st,fun i v s' Q' E' hP hQ=>?_,fun h' tk hk=>?_⟩)
 ·rw[e,i6] at hP
  cases hb:bs[i]? with
  |none=>rw[hb] at hP;cases hP
  |some b=>
   rw[hb] at hP
   cases hP
   simp only[hb,Option.getD_some] at hQ
   exact nF hQ
 ·have e2:its.length=bs.length:=by rw[e,b9]
  rw[e2,LH]
  exact⟨.bl _,H,I.kept (t':=tk) (HQ hk),rfl,q⟩
theorem DD{ns:List Int}(r:Vals (ns.map V.int) us)(i:Nat)(v:Value)(h:us[i]?=some v):∃t,v=.int (ns.getD i 0) t:=by
 have hl:=r.length
 have hi:i<ns.length:=by
  have:=(jn.mp h).1
  rw[b9] at hl;omega
 obtain⟨u,e,t,rfl⟩:=r.get (i:=i) (x:=.int ns[i]) (by simp[hi])
 rw[h] at e;cases e
 exact⟨t,by simp[qP,hi]⟩
noncomputable def HR(ns:List Int)(m:Int):Prop:=m∈ns∧∀n∈ns,m≤n
noncomputable def OO(ns:List Int)(m:Int):Prop:=m∈ns∧∀n∈ns,n≤m
theorem HU{ns:List Int}(h:i<ns.length):ns.getD i 0∈ns:=by simp[qP,h]
theorem Iu(hc:X.calm=true):Bb X (.builtin "min") (fun vs H Q=>∃(a:Addr) (ns:List Int),vs=[.ref a]∧SqS X.K H a (ns.map V.int)∧0<ns.length∧∀m,HR ns m→Q (.int m) H):=by
 intro pins s σ H vs us Q I r h
 obtain⟨a,ns,rfl,hq,h0,q⟩:=h
 obtain⟨u,rfl,ru⟩:=GH r
 cases ru
 obtain⟨its,rv,lt,wk⟩:=I.walk hq
 have hl:its.length=ns.length:=by have:=rv.length;rw[b9] at this;exact this.symm
 refine call_min_walk (wk X.A.in1 _ _ (I.ok.hd hc) fun o St W st=> ⟨_,_,_,_,_,_,_,rfl,W,st,fun b hb=>?_,by omega,CmpOf.ints_lt (fun i=>ns.getD i 0) (fun i v hv=>DD rv i v hv),fun v h' tk hP hk=>?_⟩)
 ·show b< (s.heap.push o).objs.size
  rw[lU]
  simp only[ju,mi,or_false] at hb
  rcases hb with rfl|rfl
  ·exact nQ _
  ·exact mq lt
 ·obtain⟨t,rfl⟩:=DD rv _ v hP
  obtain⟨b1,b2⟩:=argBest_lt (fun i=>ns.getD i 0) (its.length-1)
  exact⟨.int _,H,I.kept (t':=tk) (HQ hk),⟨t,rfl⟩,q _ ⟨HU (by omega),fun n hn=>by
   obtain⟨j,hj,rfl⟩:=ou hn
   have:=b2 j (by omega)
   simpa[qP,hj] using this⟩⟩
theorem QC(hc:X.calm=true):Bb X (.builtin "max") (fun vs H Q=>∃(a:Addr) (ns:List Int),vs=[.ref a]∧SqS X.K H a (ns.map V.int)∧0<ns.length∧∀m,OO ns m→Q (.int m) H):=by
 intro pins s σ H vs us Q I r h
 obtain⟨a,ns,rfl,hq,h0,q⟩:=h
 obtain⟨u,rfl,ru⟩:=GH r
 cases ru
 obtain⟨its,rv,lt,wk⟩:=I.walk hq
 have hl:its.length=ns.length:=by have:=rv.length;rw[b9] at this;exact this.symm
 refine call_max_walk (wk X.A.in1 _ _ (I.ok.hd hc) fun o St W st=> ⟨_,_,_,_,_,_,_,rfl,W,st,fun b hb=>?_,by omega,CmpOf.ints_gt (fun i=>ns.getD i 0) (fun i v hv=>DD rv i v hv),fun v h' tk hP hk=>?_⟩)
 ·show b< (s.heap.push o).objs.size
  rw[lU]
  simp only[ju,mi,or_false] at hb
  rcases hb with rfl|rfl
  ·exact nQ _
  ·exact mq lt
 ·obtain⟨t,rfl⟩:=DD rv _ v hP
  obtain⟨b1,b2⟩:=argBest_gt (fun i=>ns.getD i 0) (its.length-1)
  exact⟨.int _,H,I.kept (t':=tk) (HQ hk),⟨t,rfl⟩,q _ ⟨HU (by omega),fun n hn=>by
   obtain⟨j,hj,rfl⟩:=ou hn
   have:=b2 j (by omega)
   simpa[qP,hj] using this⟩⟩
theorem LI:Bb X (.type "tuple") (fun vs H Q=>∃a xs,vs=[.ref a]∧SqL X.K H a xs∧∀p,H p=none→Q (.ref p) (upd H p (.tup xs))):=by
 intro pins s σ H vs us Q I r h
 obtain⟨a,xs,rfl,hq,q⟩:=h
 obtain⟨u,rfl,ru⟩:=GH r
 cases ru
 obtain⟨its,rv,p,hz⟩:=I.list hq
 have hl:=rv.length
 refine call_tuple_list p.isList (fun h' hk=>?_) (by simpa[←hl] using hz)
 have hn:s.heap.get? h'.objs.size=none:=by
  cases e:s.heap.get? h'.objs.size with
  |none=>rfl
  |some o=>exact absurd (jo (hk _ _ e)) (lH _)
 exact⟨.ref h'.objs.size,upd H h'.objs.size (.tup xs),I.laidF (t':=s.toks) (fun b u e=>c9 _ (hk b u e)) hn ⟨hz,its,rv,⟨_,kb _ rfl,rfl,_,rfl⟩⟩,rfl,q _ (I.hok.none_of hn)⟩
theorem Ed:Bb X (.type "list") (fun vs H Q=>∃a xs,vs=[.ref a]∧SqS X.K H a xs∧∀p,H p=none→Q (.ref p) (upd H p (.lst xs))):=by
 intro pins s σ H vs us Q I r h
 obtain⟨a,xs,rfl,hq,q⟩:=h
 obtain⟨u,rfl,ru⟩:=GH r
 cases ru
 have hf:H s.heap.objs.size=none:=I.hok.fresh (jm _)
 have fin:∀(its:List Value) (h':Heap) (c:Nat),Vals xs its→xs.length≤sizeLine→(∀b o',s.heap.get? b=some o'→h'.get? b=some o')→h'.get? s.heap.objs.size=some {cls:=.type "list",dict:=none,data:=.seq its.toArray c,slots:=#[]}→EP X pins σ Q (.ref s.heap.objs.size) {s with heap:=h'}:=fun its h' c rv hz hk hD=>
  ⟨.ref s.heap.objs.size,upd H s.heap.objs.size (.lst xs),I.laid (t':=s.toks) hk (jm _) ⟨hz,its,c,rv,hD⟩,rfl,q _ hf⟩
 rcases hq with hq|hq
 ·obtain⟨its,rv,⟨o,n,ho,hc,hd,hdt⟩,hz⟩:=I.list hq
  have hl:=rv.length
  exact call_list_seq (hsz:=by simpa[←hl] using hz) a (.inl rfl) ho hc hdt fun h' c' hk hD=>fin its h' c' rv hz hk hD
 ·obtain⟨its,rv,⟨o,ho,hc,n,hdt⟩,hz⟩:=I.tuple hq
  have hl:=rv.length
  exact call_list_seq (hsz:=by simpa[←hl] using hz) a (.inr rfl) ho hc hdt fun h' c' hk hD=>fin its h' c' rv hz hk hD
end L2
namespace HT
open PySem PySem.Spec PyProof.Rows
section
open PySem.SeqAt
open PySem.AutoSeq1 (wpAny_loadPart')
open PySem.MeetsSeq PySem.MeetsSeq2 PySem.MeetsSeq3
end
theorem LJ(l b:Addr)(items items2:Array Value)(n n2:Nat)(dd dd2:Option Addr)(sl sl2:Array (Option Value))(hc0:items.isEmpty=true):
  Meets (Builtin.«tuple.__add__» ⟨[.ref l,.ref b],[]⟩) (fun _ R s=>s.heap.get? l=some ⟨.type "tuple",dd,.seq items n,sl⟩∧s.heap.get? b=some ⟨.type "tuple",dd2,.seq items2 n2,sl2⟩∧R (.ok (.ret (Value.ref b))) s):=
 .of_wp fun prog w A R s h=>by
  obtain⟨hp,g,d,tk,os⟩:=s
  obtain⟨hl,hb,h⟩:=h
  have f2:=AutoSeq1.sub_tuple_tuple
  wp_walk using AutoSeq1.wpAny_loadPart' hl,AutoSeq1.wpAny_loadPart' hb
  exact⟨_,rfl,h⟩
theorem Rx{ws:List Value}(ht:IsTup s.heap t #[])(hb:IsTup s.heap b ws.toArray)(h1:Q (.ref b) s):wpAny (model prog w) A (nE .Add (.ref t) (.ref b)) Q E s:=by
 obtain⟨⟨cls,dd,data,sl⟩,ho,hc,n,hd⟩:=id ht
 obtain⟨⟨cls2,dd2,data2,sl2⟩,ho2,hc2,n2,hd2⟩:=id hb
 simp only at hc hd hc2 hd2
 subst hc hd hc2 hd2
 exact tY ⟨_,ho,rfl⟩ ⟨_,ho2,rfl⟩ rR tH pZ pR (pC _ _) (LJ t b _ ws.toArray n n2 dd dd2 sl sl2 rfl) ⟨ho,ho2,h1⟩
theorem EV{lo:Option Int}(ht:IsTup s.heap t items)(hs:s.heap.IsSliceOf sl vl vu .none)(pl:sr vl lo)(pu:sr vu hi)
  (h1:BX items.size 0 lo=0) (h2:BX items.size items.size hi=items.size) (h:Q (.ref t) s):wpAny (model prog w) A (rE (.ref t) (.ref sl)) Q E s:=by
 obtain⟨os,hos,hcs,hds⟩:=id hs
 have hTs:s.TypeIs (.ref sl) "slice":=⟨os,hos,hcs⟩
 unfold rE
 try with_reducible refine ko ?_
 first|refine a9 (b8 ?_)|skip
 refine a9 (rA ht.typeIs (by decide) ?_)
 refine a9 (nG (name:=qJ "__getitem__") ht.typeIs kQ
  (mG kQ ht.typeIs qF ?_ (qW _ _)))
 show wpAny _ _ (oZ (.ref t)>>=_) _ _ s
 refine a9 (tE ht ?_)
 refine a9 (pT hTs ?_)
 rw[if_pos (by decide)]
 refine a9 (DA hs pl pu ?_)
 rw[h1,h2]
 show wpAny _ _ (if(((0:Nat):Int)==0&&(1:Int)==1&&(items.size-0)==items.size)=true then _ else _) _ _ s
 rw[if_pos (by simp)]
 unfold Builtin.Tuple.tupleIsExact
 refine a9 (a9 (pT ht.typeIs (b8 ?_)))
 rw[if_pos (by decide)]
 exact a9 (og (b8 ⟨_,rfl,b8 h⟩))
theorem FA(ht:IsTup s.heap t items)(hs:s.heap.IsSliceOf sl .none .none (.int (-1) tk))
  (h:Q (.ref s.heap.objs.size) {s with heap:=s.heap.push {cls:=.type "tuple",data:=.seq items.toList.reverse.toArray}}) (hsz:items.size≤sizeLine):wpAny (model prog w) A (rE (.ref t) (.ref sl)) Q E s:=by
 obtain⟨os,hos,hcs,hds⟩:=id hs
 have hTs:s.TypeIs (.ref sl) "slice":=⟨os,hos,hcs⟩
 unfold rE
 try with_reducible refine ko ?_
 first|refine a9 (b8 ?_)|skip
 refine a9 (rA ht.typeIs (by decide) ?_)
 refine a9 (nG (name:=qJ "__getitem__") ht.typeIs kQ
  (mG kQ ht.typeIs qF ?_ (qW _ _)))
 show wpAny _ _ (oZ (.ref t)>>=_) _ _ s
 refine a9 (tE ht ?_)
 refine a9 (pT hTs ?_)
 rw[if_pos (by decide)]
 refine a9 ?_
 unfold o7 Builtin.Slice.sliceFields
 refine a9 (a9 (qw hos hds (x:=.none) rfl (a9 (qw hos hds (x:=.none) rfl (a9 (qw hos hds (x:=.int (-1) tk) rfl (b8 ?_)))))))
 refine a9 (slicePart_int ?_)
 show wpAny _ _ (if((-1:Int)==0)=true then _ else _) _ _ s
 rw[if_neg (by decide)]
 refine a9 (qR (a9 (qR (a9 (b8 ?_)))))
 have e1:lP none none (-1) (items.size:Int)=((items.size:Int)-1,-1):=by
  unfold lP
  simp
 have e2:l7 ((items.size:Int)-1) (-1) (-1)=items.size:=by
  unfold l7
  rw[if_neg (by decide)]
  simp only[Int.neg_neg,Int.ediv_one]
  split<;>omega
 show wpAny _ _ (pure ((lP none none (-1) (items.size:Int)).1,(-1:Int),l7 (lP none none (-1) (items.size:Int)).1 (lP none none (-1) (items.size:Int)).2 (-1))) _ _ s
 rw[e1]
 dsimp only
 rw[e2]
 refine b8 ?_
 have hno:¬((((items.size:Int)-1)==0&&(-1:Int)==1&&items.size==items.size)=true):=by simp
 show wpAny _ _ (if(((items.size:Int)-1)==0&&(-1:Int)==1&&items.size==items.size)=true then _ else _) _ _ s
 rw[if_neg hno]
 have e3:((jr items.size).filterMap fun(k:Nat)=>items[(((items.size:Int)-1)+(k:Int)*(-1)).toNat]?)=items.toList.reverse:=by
  have:∀n,n≤items.size→((jr n).filterMap fun(k:Nat)=>items[(((items.size:Int)-1)+(k:Int)*(-1)).toNat]?)=(items.toList.drop (items.size-n)).reverse:=by
   intro n
   induction n with
   |zero=>intro _;simp
   |succ n ih=>
    intro hn
    rw[List.range_succ,List.filterMap_append,ih (by omega)]
    have hk:(((items.size:Int)-1)+(n:Int)*(-1)).toNat=items.size- (n+1):=by omega
    have hlt:items.size- (n+1)<items.size:=by omega
    have hd:items.toList.drop (items.size- (n+1))=items[items.size- (n+1)]::items.toList.drop (items.size-n):=by
     rw[ny (by simpa using hlt)]
     congr 2
     omega
    rw[hd,nZ]
    congr 1
    rw[lT,hk,Array.getElem?_eq_getElem hlt]
    rfl
  have:=this items.size (jm _)
  rw[this]
  simp
 rw[e3]
 have hz:sizeOk (.seq items.toList.reverse.toArray):=by
  show items.toList.reverse.toArray.size≤sizeLine
  simpa using hsz
 first
  |exact a9 (m:=mj _) (lK (b8 ⟨_,rfl,b8 h⟩) hz)
  |exact a9 (a9 (m:=mj _) (lK (b8 (b8 ⟨_,rfl,b8 h⟩)) hz))
  |exact a9 (a9 (m:=mj _) (lK (b8 ⟨_,rfl,b8 h⟩) hz))
end HT
namespace L2
open PySem PySem.Spec PyProof.Rows
noncomputable def cQ(K:a8):V→Option Int→Option Int→Hp→VK→Prop:=fun x lo hi H Q=>∃a xs,x=.ref a∧GG K H a xs∧∀p H',((p=a∧H'=H∧Ff xs lo hi=xs)∨(H p=none∧H'=upd H p (.tup (Ff xs lo hi))))→Q (.ref p) H'
theorem OP:fD X (cQ X.K):=by
 intro pins s σ H x v vl vu lo hi sl Q I rx hs pl pu h
 obtain⟨a,xs,rfl,hx,q⟩:=h
 cases rx
 by_cases hw:HT.BX xs.length 0 lo=0∧HT.BX xs.length xs.length hi=xs.length
 ·obtain⟨its,r,ht,hz⟩:=I.tuple hx
  have hlen:its.toArray.size=xs.length:=by rw[jy];exact r.length.symm
  refine⟨"tuple",_,kQ.lookup,ht.typeIs,HT.EV ht hs pl pu (by rw[hlen];exact hw.1) (by rw[hlen];exact hw.2) ⟨.ref a,H,I,rfl,q a H (.inl ⟨rfl,rfl,?_⟩)⟩⟩
  unfold Ff
  rw[hw.1,hw.2]
  simp
 ·exact Ys pins s σ H (.ref a) (.ref a) vl vu lo hi sl Q I rfl hs pl pu ⟨a,xs,rfl,hx,hw,fun p hp=>q p _ (.inr ⟨hp,rfl⟩)⟩
theorem Vb(he:PE X e te):PE X (.Subscript e (.Slice none none (some (.UnaryOp .USub (.Constant (.int 1) 0 p3) p4)) p2) pos) (fun σ H Q=>te σ H fun x H1=>∃a xs,x=.ref a∧GG X.K H1 a xs∧∀p,H1 p=none→Q (.ref p) (upd H1 p (.tup xs.reverse))):=by
 intro pins s σ H Q I h
 refine Subscript_ (Az (he pins s σ H _ I h) fun v s1 ⟨x,H1,I1,r1,q1⟩=>?_)
 obtain⟨a,xs,rfl,hx,q⟩:=q1
 cases r1
 refine wpAny_Slice ?_
 rw[tI]
 refine b8 ?_
 refine b8 ?_
 rw[evalPart_some]
 refine Az (Xb RD JJ pins s1 σ H1 (fun x H'=>x=.int (-1)∧H'=H1) I1 ⟨1,rfl,rfl,rfl⟩) fun st s2 ⟨x2,H2,I2,r2,ex,eH⟩=>?_
 subst ex eH
 obtain⟨tk,rfl⟩:=r2
 have I4:Inv X pins σ H2 {s2 with heap:=s2.heap.push {cls:=.type "slice",data:=.fields #[.none,.none,.int (-1) tk]}}:=I2.kept (t':=s2.toks) fun b ob q=>c9 _ q
 obtain⟨its,r,ht,hz⟩:=I4.tuple hx
 have hl:=r.length
 show wpAny (model X.prog X.w) X.A (tF e (.Slice none none (some (.UnaryOp .USub (.Constant (.int 1) 0 p3) p4)) p2) (.ref a) (.ref s2.heap.objs.size)) (EP X pins σ Q) X.xe {s2 with heap:=s2.heap.push {cls:=.type "slice",data:=.fields #[.none,.none,.int (-1) tk]}}
 refine tail_any (ops:=[.ref a,.ref s2.heap.objs.size]) ht.typeIs kQ.lookup (HT.FA ht (Heap.IsSliceOf.new ..) ?_ (by simpa[←hl] using hz)) (by with_unfolding_all rfl)
 have hf:=I4.hok.fresh (jm _)
 have rr:Vals xs.reverse its.reverse:=by
  have:∀{xs:List V} {us:List Value},Vals xs us→Vals xs.reverse us.reverse:=by
   intro xs us r
   induction r with
   |nil=>exact .nil
   |cons r1 _ ih=>rw[nZ,nZ];exact ih.append (.cons r1 .nil)
  exact this r
 exact⟨.ref _,_,I4.laid (o:=.tup xs.reverse) (fun b ob q=>c9 _ q) (jm _) ⟨by rw[List.length_reverse];exact hz,_,rr,⟨_,kb _ rfl,rfl,_,rfl⟩⟩,rfl,q _ hf⟩
noncomputable def cR(K:a8):R2:=fun x y H Q=>∃a b xs ys,x=.ref a∧y=.ref b∧GG K H a xs∧GG K H b ys∧xs.length+ys.length≤sizeLine∧∀p H',((p=a∧H'=H∧ys=[])∨(p=b∧H'=H∧xs=[])∨(H p=none∧H'=upd H p (.tup (xs++ys))))→Q (.ref p) H'
theorem Vc:Cy X (nE .Add) (cR X.K):=by
 intro pins s σ H x y v u Q I rx ry h
 obtain⟨a,b,xs,ys,rfl,rfl,ha,hb,hz,q⟩:=h
 cases xs with
 |cons x xs=>exact VG pins s σ H _ _ v u Q I rx ry ⟨a,b,x::xs,ys,rfl,rfl,ha,hb,by simp,hz,fun e=>q a H (.inl ⟨rfl,rfl,e⟩),fun _ p hp=>q p _ (.inr (.inr ⟨hp,rfl⟩))⟩
 |nil=>
  cases rx;cases ry
  obtain⟨its,r1,p1,_⟩:=I.tuple ha
  obtain⟨its2,r2,p2,_⟩:=I.tuple hb
  cases r1
  exact HT.Rx p1 p2 ⟨.ref b,H,I,rfl,q b H (.inr (.inl ⟨rfl,rfl,rfl⟩))⟩
end L2
namespace L2.TL
open PySem PySem.Spec PyProof.Rows
inductive T where
 |non|bl (b:Bool)|int (i:Int)|str (x:Str)|tup (ts:List T)|lst (ts:List T)|frz (ts:List T)|dct|raw (v:V)
noncomputable abbrev AO:=Addr→Option (List T)
noncomputable def Am(O:AO)(a:Addr)(ts:List T):AO:=fun b=>if b=a then some ts else O b
noncomputable def Dn(O:AO)(a:Addr):AO:=fun b=>if b=a then none else O b
theorem AE:Am O a ts a=some ts:=by unfold Am;rw[if_pos rfl]
theorem Ai(h:b≠a):Am O a ts b=O b:=by unfold Am;rw[if_neg h]
theorem Aq:Am (Am O a ts) a us=Am O a us:=by
 funext b;unfold Am;split<;>rfl
theorem DR:Dn O a a=none:=by unfold Dn;rw[if_pos rfl]
theorem FB(h:b≠a):Dn O a b=O b:=by unfold Dn;rw[if_neg h]
mutual
inductive Rep (K:a8) (O:AO) (H:Hp):V→T→Prop
 |non:Rep K O H .non .non
 |bl (b:Bool):Rep K O H (.bl b) (.bl b)
 |int (i:Int):Rep K O H (.int i) (.int i)
 |str (x:Str):Rep K O H (.str x) (.str x)
 |tup {a:Addr} {xs:List V} {ts:List T}:H a=some (.tup xs)→Reps K O H xs ts→Rep K O H (.ref a) (.tup ts)
 |lst {a:Addr} {xs:List V} {ts:List T}:H a=some (.lst xs)→O a=none→Reps K O H xs ts→Rep K O H (.ref a) (.lst ts)
 |frz {a:Addr} {o:Obj} {xs:List V} {ts:List T}:H a=some (.frz o (.lst xs))→Reps K O H xs ts→Rep K O H (.ref a) (.frz ts)
 |dct {a:Addr}:H a=some (.dK [])→Rep K O H (.ref a) .dct
 |raw (v:V):Rep K O H v (.raw v)
inductive Reps (K:a8) (O:AO) (H:Hp):List V→List T→Prop
 |nil:Reps K O H [] []
 |cons {v:V} {t:T} {vs:List V} {ts:List T}:Rep K O H v t→Reps K O H vs ts→Reps K O H (v::vs) (t::ts)
end
section
variable {K:a8} {O O':AO} {H H':Hp}
mutual
theorem Rep.mono (hT:∀a o,H a=some o→(∀xs,o≠.lst xs)→H' a=some o) (hL:∀a xs,H a=some (.lst xs)→O a=none→H' a=some (.lst xs)∧O' a=none):∀{v:V} {t:T},Rep K O H v t→Rep K O' H' v t
 |_,_,.non=> .non
 |_,_,.bl b=> .bl b
 |_,_,.int i=> .int i
 |_,_,.str x=> .str x
 |_,_,.tup h r=> .tup (hT _ _ h fun _ z=>by cases z) (Reps.mono hT hL r)
 |_,_,.lst h o r=> .lst (hL _ _ h o).1 (hL _ _ h o).2 (Reps.mono hT hL r)
 |_,_,.frz h r=> .frz (hT _ _ h fun _ z=>by cases z) (Reps.mono hT hL r)
 |_,_,.dct h=> .dct (hT _ _ h fun _ z=>by cases z)
 |_,_,.raw v=> .raw v
theorem Reps.mono (hT:∀a o,H a=some o→(∀xs,o≠.lst xs)→H' a=some o) (hL:∀a xs,H a=some (.lst xs)→O a=none→H' a=some (.lst xs)∧O' a=none):∀{v:List V} {t:List T},Reps K O H v t→Reps K O' H' v t
 |_,_,.nil=> .nil
 |_,_,.cons h r=> .cons (Rep.mono hT hL h) (Reps.mono hT hL r)
end
theorem Reps.length:∀{vs:List V} {ts:List T},Reps K O H vs ts→vs.length=ts.length
 |_,_,.nil=>rfl
 |_,_,.cons _ r=>congrArg (· +1) r.length
theorem Reps.get:∀{vs:List V} {ts:List T} {i:Nat} {t:T},Reps K O H vs ts→ts[i]?=some t→∃v,vs[i]?=some v∧Rep K O H v t
 |_,_,_,_,.nil,e=>by simp at e
 |_,_,0,_,.cons h _,e=>by simp at e;subst e;exact⟨_,rfl,h⟩
 |_,_,i+1,t,.cons _ r,e=>by
  obtain⟨u,h1,h2⟩:=Reps.get (i:=i) (t:=t) r (by simpa using e)
  exact⟨u,by simpa using h1,h2⟩
theorem Reps.append:∀{vs ws:List V} {ts us:List T},Reps K O H vs ts→Reps K O H ws us→Reps K O H (vs++ws) (ts++us)
 |_,_,_,_,.nil,s=>s
 |_,_,_,_,.cons h r,s=> .cons h (r.append s)
theorem Reps.take:∀{vs:List V} {ts:List T} (n:Nat),Reps K O H vs ts→Reps K O H (vs.take n) (ts.take n)
 |_,_,0,_=> .nil
 |_,_,_+1,.nil=> .nil
 |_,_,n+1,.cons h r=> .cons h (r.take n)
theorem Reps.drop:∀{vs:List V} {ts:List T} (n:Nat),Reps K O H vs ts→Reps K O H (vs.drop n) (ts.drop n)
 |_,_,0,r=>r
 |_,_,_+1,.nil=> .nil
 |_,_,n+1,.cons h r=>r.drop n
theorem Reps.set(h:Rep K O H x t):∀{vs:List V} {ts:List T} (i:Nat),Reps K O H vs ts→Reps K O H (vs.set i x) (ts.set i t)
 |_,_,_,.nil=> .nil
 |_,_,0,.cons _ r=> .cons h r
 |_,_,i+1,.cons q r=> .cons q (Reps.set h i r)
theorem Reps.one(h:Rep K O H v t):Reps K O H [v] [t]:=.cons h .nil
theorem Reps.rev:∀{vs:List V} {ts:List T},Reps K O H vs ts→Reps K O H vs.reverse ts.reverse
 |_,_,.nil=> .nil
 |_,_,.cons h r=>by
  rw[nZ,nZ]
  exact r.rev.append (.one h)
noncomputable def Kp(O:AO)(H:Hp)(O':AO)(H':Hp):Prop:=∀b o,H b=some o→O b=none→H' b=some o∧O' b=none
noncomputable def OwnOk(K:a8)(O:AO)(H:Hp):Prop:=∀a ts,O a=some ts→∃xs,H a=some (.lst xs)∧Reps K O H xs ts
theorem OwnOk.free(w:OwnOk K O H)(h:H a=some o)(hn:∀xs,o≠.lst xs):O a=none:=by
 cases e:O a with
 |none=>rfl
 |some ts=>
  obtain⟨xs,e',_⟩:=w a ts e
  rw[h] at e'
  exact absurd (lu.inj e') (hn xs)
theorem OwnOk.none_of(w:OwnOk K O H)(h:H a=none):O a=none:=by
 cases e:O a with
 |none=>rfl
 |some ts=>
  obtain⟨xs,e',_⟩:=w a ts e
  rw[h] at e';cases e'
theorem Kp.refl:Kp O H O H:=fun _ _ h n=> ⟨h,n⟩
theorem Kp.trans(a:Kp O H O1 H1)(b:Kp O1 H1 O' H'):Kp O H O' H':=fun c o h n=>b c o (a c o h n).1 (a c o h n).2
theorem Kp.oth(k:Kp O H O' H')(w:OwnOk K O H)(h:H a=some o)(hn:∀xs,o≠.lst xs):H' a=some o:=(k a _ h (w.free h hn)).1
theorem Kp.lst(k:Kp O H O' H')(h:H a=some (.lst xs))(n:O a=none):H' a=some (.lst xs)∧O' a=none:=k a _ h n
theorem Rep.kp(k:Kp O H O' H')(w:OwnOk K O H)(r:Rep K O H v t):Rep K O' H' v t:=r.mono (fun _ _ h hn=>k.oth w h hn) fun _ _=>k.lst
theorem Reps.kp(k:Kp O H O' H')(w:OwnOk K O H)(r:Reps K O H v t):Reps K O' H' v t:=r.mono (fun _ _ h hn=>k.oth w h hn) fun _ _=>k.lst
structure Frm(K:a8)(O:AO)(H:Hp)(O':AO)(H':Hp):Prop where
 kp:Kp O H O' H'
 own:∀b ts,O b=some ts→∃ts',O' b=some ts'
 ok:OwnOk K O' H'
theorem Frm.refl(w:OwnOk K O H):Frm K O H O H:=⟨.refl,fun _ ts e=> ⟨ts,e⟩,w⟩
theorem Frm.trans(a:Frm K O H O1 H1)(b:Frm K O1 H1 O' H'):Frm K O H O' H':=⟨a.kp.trans b.kp,fun c ts e=>by
 obtain⟨t1,e1⟩:=a.own c ts e
 exact b.own c t1 e1,b.ok⟩
theorem BO(w:OwnOk K O H)(hp:H p=none):Kp O H O (upd H p o):=fun b u h n=> ⟨by rw[AR (AW h hp)];exact h,n⟩
theorem Frm.new(w:OwnOk K O H)(hp:H p=none):Frm K O H O (upd H p o) where
 kp:=BO w hp
 own:=fun _ ts e=> ⟨ts,e⟩
 ok:=fun a ts e=>by
  obtain⟨xs,h,r⟩:=w a ts e
  exact⟨xs,by rw[AR (AW h hp)];exact h,r.kp (BO w hp) w⟩
theorem Jc(w:OwnOk K O H)(hp:H p=none):Kp O H (Am O p ts) (upd H p o):=fun b u h n=>by
 have:=AW h hp
 rw[AR this,Ai this]
 exact⟨h,n⟩
theorem Frm.newO(w:OwnOk K O H)(hp:H p=none)(r:Reps K O H xs ts):Frm K O H (Am O p ts) (upd H p (.lst xs)) where
 kp:=Jc w hp
 own:=fun b us e=>by
  by_cases hb:b=p
  ·exact⟨ts,by rw[hb,AE]⟩
  ·exact⟨us,by rw[Ai hb];exact e⟩
 ok:=fun a us e=>by
  by_cases hb:a=p
  ·subst hb
   rw[AE] at e;cases e
   exact⟨xs,AL,r.kp (Jc w hp) w⟩
  ·rw[Ai hb] at e
   obtain⟨ys,h,q⟩:=w a us e
   exact⟨ys,by rw[AR hb];exact h,q.kp (Jc w hp) w⟩
theorem Ms(ha:O a=some ts):Kp O H (Am O a us) (upd H a o):=fun b u h n=>by
 have:b≠a:=fun z=>by rw[z,ha] at n;cases n
 rw[AR this,Ai this]
 exact⟨h,n⟩
theorem Frm.put(w:OwnOk K O H)(ha:O a=some ts)(r:Reps K O H xs us):Frm K O H (Am O a us) (upd H a (.lst xs)) where
 kp:=Ms ha
 own:=fun b vs e=>by
  by_cases hb:b=a
  ·exact⟨us,by rw[hb,AE]⟩
  ·exact⟨vs,by rw[Ai hb];exact e⟩
 ok:=fun b vs e=>by
  by_cases hb:b=a
  ·subst hb
   rw[AE] at e;cases e
   exact⟨xs,AL,r.kp (Ms ha) w⟩
  ·rw[Ai hb] at e
   obtain⟨ys,h,q⟩:=w b vs e
   exact⟨ys,by rw[AR hb];exact h,q.kp (Ms ha) w⟩
theorem EH:Kp O H (Dn O a) H:=fun b u h n=> ⟨h,by
 by_cases hb:b=a
 ·rw[hb,DR]
 ·rw[FB hb];exact n⟩
theorem OwnOk.drop(w:OwnOk K O H):OwnOk K (Dn O a) H:=fun b ts e=>by
 by_cases hb:b=a
 ·rw[hb,DR] at e;cases e
 ·rw[FB hb] at e
  obtain⟨xs,h,r⟩:=w b ts e
  exact⟨xs,h,r.kp EH w⟩
theorem OwnOk.rep(w:OwnOk K O H)(e:O a=some ts):Rep K (Dn O a) H (.ref a) (.lst ts):=by
 obtain⟨xs,h,r⟩:=w a ts e
 exact .lst h DR (r.kp EH w)
end
noncomputable def Rl(K:a8)(O:AO)(H:Hp)(σ:St)(ρ:List (Option T)):Prop:=σ.length=ρ.length∧∀(i:Nat) (t:T),ρ[i]?=some (some t)→∃v,σ[i]?=some (some v)∧Rep K O H v t
section
variable {K:a8}
theorem Rl.kp(k:Kp O H O' H')(w:OwnOk K O H)(r:Rl K O H σ ρ):Rl K O' H' σ ρ:=⟨r.1,fun i t e=>by
 obtain⟨v,h1,h2⟩:=r.2 i t e
 exact⟨v,h1,h2.kp k w⟩⟩
theorem Rl.set(r:Rl K O H σ ρ)(h:Rep K O H v t):Rl K O H (σ.set i (some v)) (ρ.set i (some t)):=⟨by simpa using r.1,fun j u e=>by
 by_cases hj:j=i
 ·subst hj
  have hl:j<ρ.length:=by
   have:=(jn.mp e).1
   simpa using this
  rw[kB hl] at e
  cases e
  exact⟨v,by rw[kB (by rw[r.1];exact hl)],h⟩
 ·rw[j7 (Ne.symm hj)] at e ⊢
  exact r.2 j u e⟩
end
structure Zx where
 X:Cx
 Oe:AO
 He:Hp
 Xi:Value→AO→Prop
noncomputable abbrev Zx.K(Z:Zx):a8:=Z.X.K
noncomputable def Zx.W(Z:Zx):St→XK:=fun _ cls d H'=>d=none∧∃O',Z.Xi cls O'∧Frm Z.K Z.Oe Z.He O' H'
structure Asr(Z:Zx)(ρ:List (Option T))(O:AO)(σ:St)(H:Hp):Prop where
 rl:Rl Z.K O H σ ρ
 fr:Frm Z.K Z.Oe Z.He O H
theorem Asr.ok(a:Asr Z ρ O σ H):OwnOk Z.K O H:=a.fr.ok
theorem Asr.step(a:Asr Z ρ O σ H)(f:Frm Z.K O H O' H'):Asr Z ρ O' σ H':=⟨a.rl.kp f.kp a.ok,a.fr.trans f⟩
theorem Asr.refl(a:Asr Z ρ O σ H):Frm Z.K O H O H:=.refl a.ok
noncomputable abbrev CJ:=T→AO→Prop
noncomputable abbrev Mt:=List T→AO→Prop
noncomputable abbrev Jd:=Bool→AO→Prop
noncomputable def Acc(K:a8)(O:AO)(H:Hp)(Φ:CJ)(Q:VK):Prop:=∀v H' t O',Φ t O'→Frm K O H O' H'→Rep K O' H' v t→Q v H'
noncomputable def gN(K:a8)(O:AO)(H:Hp)(Φ:Mt)(Q:List V→Hp→Prop):Prop:=∀vs H' ts O',Φ ts O'→Frm K O H O' H'→Reps K O' H' vs ts→Q vs H'
noncomputable def AccT(K:a8)(O:AO)(H:Hp)(Φ:Jd)(Q:Bool→Hp→Prop):Prop:=∀b H' O',Φ b O'→Frm K O H O' H'→Q b H'
noncomputable def tW(Z:Zx)(ρ:List (Option T))(O:AO)(Φ:CJ):TE:=fun σ H Q=>Asr Z ρ O σ H∧Acc Z.K O H Φ Q
noncomputable def iQ(Z:Zx)(ρ:List (Option T))(O:AO)(Φ:Mt):TA:=fun σ H Q=>Asr Z ρ O σ H∧gN Z.K O H Φ Q
noncomputable def bJ(Z:Zx)(ρ:List (Option T))(O:AO)(Φ:Jd):TT:=fun σ H Q=>Asr Z ρ O σ H∧AccT Z.K O H Φ Q
noncomputable def WE(Z:Zx)(ρ:List (Option T))(O:AO)(e:Expr)(Φ:CJ):Prop:=PE Z.X e (tW Z ρ O Φ)
noncomputable def WA(Z:Zx)(ρ:List (Option T))(O:AO)(es:List Expr)(Φ:Mt):Prop:=PA Z.X es (iQ Z ρ O Φ)
noncomputable def WT(Z:Zx)(ρ:List (Option T))(O:AO)(e:Expr)(Φ:Jd):Prop:=PT Z.X e (bJ Z ρ O Φ)
noncomputable def WW(Z:Zx)(ρ:List (Option T))(O:AO)(e:Expr)(Φ:Jd):Prop:=PW Z.X e (bJ Z ρ O Φ)
noncomputable def ET(Z:Zx)(ρ:List (Option T))(O:AO)(e:Expr)(t:T):Prop:=∀Φ:CJ,Φ t O→WE Z ρ O e Φ
noncomputable def EA(Z:Zx)(ρ:List (Option T))(O:AO)(es:List Expr)(ts:List T):Prop:=∀Φ:Mt,Φ ts O→WA Z ρ O es Φ
noncomputable def EB(Z:Zx)(ρ:List (Option T))(O:AO)(e:Expr)(b:Bool):Prop:=∀Φ:Jd,Φ b O→WT Z ρ O e Φ
theorem PE.weak(h:PE X e t)(w:∀σ H Q,t' σ H Q→t σ H Q):PE X e t':=fun pins s σ H Q I q=>h pins s σ H Q I (w σ H Q q)
theorem PA.weak(h:PA X e t)(w:∀σ H Q,t' σ H Q→t σ H Q):PA X e t':=fun pos pins s σ H Q I q=>h pos pins s σ H Q I (w σ H Q q)
theorem PT.weak(h:PT X e t)(w:∀σ H Q,t' σ H Q→t σ H Q):PT X e t':=fun pins s σ H Q I q=>h pins s σ H Q I (w σ H Q q)
theorem PW.weak(h:PW X e t)(w:∀σ H Q,t' σ H Q→t σ H Q):PW X e t':=fun whole pins s σ H Q I q=>h whole pins s σ H Q I (w σ H Q q)
theorem PS.weak(h:PS X e t)(w:∀D σ H,t' D σ H→t D σ H):PS X e t':=fun pins s σ H D I q=>h pins s σ H D I (w D σ H q)
theorem PSs.weak(h:PSs X e t)(w:∀D σ H,t' D σ H→t D σ H):PSs X e t':=fun pins s σ H D I q=>h pins s σ H D I (w D σ H q)
noncomputable def tX(Z:Zx)(ρ:List (Option T))(e:Expr):TE:=fun σ H Q=>∃O Φ,WE Z ρ O e Φ∧tW Z ρ O Φ σ H Q
theorem Bd:PE Z.X e (tX Z ρ e):=fun pins s σ H Q I ⟨_,_,w,q⟩=>w pins s σ H Q I q
noncomputable def jB(Z:Zx)(ρ:List (Option T))(e:List Expr):TA:=fun σ H Q=>∃O Φ,WA Z ρ O e Φ∧iQ Z ρ O Φ σ H Q
theorem IJ:PA Z.X e (jB Z ρ e):=fun pos pins s σ H Q I ⟨_,_,w,q⟩=>w pos pins s σ H Q I q
noncomputable def jC(Z:Zx)(ρ:List (Option T))(e:Expr):TT:=fun σ H Q=>∃O Φ,WW Z ρ O e Φ∧bJ Z ρ O Φ σ H Q
theorem cS:PW Z.X e (jC Z ρ e):=fun whole pins s σ H Q I ⟨_,_,w,q⟩=>w whole pins s σ H Q I q
section
variable {Z:Zx} {ρ:List (Option T)} {O:AO} {e a b:Expr} {es:List Expr} {Φ:CJ} {pos:Pos} {t ta tb:T}
theorem Acc.mono{K:a8}(h:Acc K O H Φ' Q)(w:∀t O',Φ t O'→Φ' t O'):Acc K O H Φ Q:=fun v H' t O' p=>h v H' t O' (w t O' p)
theorem Acc.step{K:a8}(h:Acc K O H Φ Q)(f:Frm K O H O1 H1):Acc K O1 H1 Φ Q:=fun v H' t O' p f' r=>h v H' t O' p (f.trans f') r
theorem AccT.step{K:a8}{Φ:Jd}(h:AccT K O H Φ Q)(f:Frm K O H O1 H1):AccT K O1 H1 Φ Q:=fun v H' O' p f'=>h v H' O' p (f.trans f')
theorem EJ(h:WE Z ρ O e Φ)(w:∀t O',Φ t O'→Φ' t O'):WE Z ρ O e Φ':=PE.weak h fun _ _ _ q=> ⟨q.1,q.2.mono w⟩
theorem ET.we(h:ET Z ρ O e t)(p:Φ t O):WE Z ρ O e Φ:=h Φ p
theorem ZO{i:Nat}(hN:Z.X.N[i]?=some x)(hv:Ut Z.X.env.scope x)(e:ρ[i]?=some (some t))(p:Φ t O)(hd:(x==("__debug__" :Str))=false:=by decide)(hcd:(x==("__classdict__" :Str))=false:=by decide):WE Z ρ O (.Name x pos) Φ:=
 PE.weak (Qq hN hv hd hcd) fun σ H Q q=>by
  obtain⟨v,h1,h2⟩:=q.1.rl.2 i t e
  exact⟨v,h1,q.2 v H t O p q.1.refl h2⟩
theorem ev(i:Nat){x:Str}(e:ρ[i]?=some (some t):=by rfl)(hN:Z.X.N[i]?=some x:=by rfl)(hv:Ut Z.X.env.scope x:=by first|exact nv rfl|exact nW (nv rfl)|exact nW (nW rfl))(hd:(x==("__debug__" :Str))=false:=by decide)
  (hcd:(x==("__classdict__" :Str))=false:=by decide):ET Z ρ O (.Name x pos) t:=fun _ p=>ZO hN hv e p hd hcd
theorem Mu(h:PE Z.X e (tC v))(r:∀O H,Rep Z.K O H v t):ET Z ρ O e t:=fun _ p=>PE.weak h fun _ H _ q=>q.2 v H _ O p q.1.refl (r O H)
theorem AB:ET Z ρ O (.Constant (.int i) j pos) (.int i):=Mu JJ fun _ _=> .int i
theorem Do:ET Z ρ O (.Constant (.bool i) j pos) (.bl i):=Mu Qr fun _ _=> .bl i
theorem Cc:ET Z ρ O (.Constant .none j pos) .non:=Mu YR fun _ _=> .non
theorem AQ:ET Z ρ O (.Constant (.str x) j pos) (.str x):=Mu CK fun _ _=> .str x
theorem FD(hm:∃t:Tok,Z.X.mg x=some (.int i t))(hg:Gl Z.X x:=by rfl)(hd:(x==("__debug__" :Str))=false:=by decide):ET Z ρ O (.Name x pos) (.int i):=by
 cases hm with
 |intro t hm=>exact Mu (By (v:=.int i) hg hm ⟨t,rfl⟩ hd) fun _ _=> .int i
theorem cT(hm:Z.X.mg x=none)(hv:kS x=some (.type n))(hg:Gl Z.X x:=by rfl)(hn:x≠"__name__":=by decide)(hd:(x==("__debug__" :Str))=false:=by decide):ET Z ρ O (.Name x pos) (.raw (.ty n)):=
 Mu (Nm (v:=.ty n) hg hm hv rfl hn hd) fun _ _=> .raw _
theorem CB{a:Addr}(hm:Z.X.mg x=some (.ref a))(hg:Gl Z.X x:=by rfl)(hd:(x==("__debug__" :Str))=false:=by decide):ET Z ρ O (.Name x pos) (.raw (.ref a)):=
 Mu (By (v:=.ref a) hg hm rfl hd) fun _ _=> .raw _
noncomputable def RT(K:a8)(r:R2)(ta tb:T)(O:AO)(Φ:CJ):Prop:=∀H v w Q,OwnOk K O H→Rep K O H v ta→Rep K O H w tb→Acc K O H Φ Q→r v w H Q
noncomputable def RP(K:a8)(r:R2)(ta tb:T)(O:AO)(t:T):Prop:=∀Φ:CJ,Φ t O→RT K r ta tb O Φ
theorem Je(q:tW Z ρ O Φ σ H Q)(h:WE Z ρ O a fun ta O1=>WE Z ρ O1 b fun tb O2=>RT Z.K r ta tb O2 Φ):bh r (tX Z ρ a) (tX Z ρ b) σ H Q:=
 ⟨O,_,h,q.1,fun v H1 ta O1 p f1 r1=> ⟨O1,_,p,q.1.step f1,fun w H2 tb O2 p2 f2 r2=>p2 H2 v w Q f2.ok (r1.kp f2.kp f1.ok) r2 (q.2.step (f1.trans f2))⟩⟩
theorem LK(ho:Cy Z.X (nE op) r)(h:WE Z ρ O a fun ta O1=>WE Z ρ O1 b fun tb O2=>RT Z.K r ta tb O2 Φ):WE Z ρ O (.BinOp a op b pos) Φ:=
 PE.weak (Xa ho Bd Bd) fun _ _ _ q=>Je q h
theorem ZP(ho:Cy Z.X (l5 op) r)(hm:behindInMarks op b=false)(h:WE Z ρ O a fun ta O1=>WE Z ρ O1 b fun tb O2=>RT Z.K r ta tb O2 Φ):WE Z ρ O (.Compare a [op] [b] pos) Φ:=
 PE.weak (VB ho Bd Bd hm) fun _ _ _ q=>Je q h
theorem Dp(ho:Cy Z.X (nE op) r)(hp:RP Z.K r ta tb O t)(ha:ET Z ρ O a ta)(hb:ET Z ρ O b tb):ET Z ρ O (.BinOp a op b pos) t:=fun Φ p=>LK ho (ha _ (hb _ (hp Φ p)))
theorem Cu(ho:Cy Z.X (l5 op) r)(hm:behindInMarks op b=false)(hp:RP Z.K r ta tb O t)(ha:ET Z ρ O a ta)(hb:ET Z ρ O b tb):ET Z ρ O (.Compare a [op] [b] pos) t:=fun Φ p=>ZP ho hm (ha _ (hb _ (hp Φ p)))
theorem HV(ho:bG Z.X r)(hs:DL b)(h:WE Z ρ O a fun ta O1=>WE Z ρ O1 b fun tb O2=>RT Z.K r ta tb O2 Φ):WE Z ρ O (.Subscript a b pos) Φ:=
 PE.weak (Nw ho Bd Bd hs) fun _ _ _ q=>Je q h
theorem Ry(ho:bG Z.X r)(hs:DL b)(hp:RP Z.K r ta tb O t)(ha:ET Z ρ O a ta)(hb:ET Z ρ O b tb):ET Z ρ O (.Subscript a b pos) t:=fun Φ p=>HV ho hs (ha _ (hb _ (hp Φ p)))
theorem BC{Φ:Mt}(p:Φ [] O):WA Z ρ O [] Φ:=PA.weak Au fun _ H _ q=>q.2 [] H [] O p q.1.refl .nil
theorem EK{Φ:Mt}(h:WE Z ρ O e fun t O1=>WA Z ρ O1 es fun ts O2=>Φ (t::ts) O2)(hs:i5 (e::es) Z.X.env=(false,eval e Z.X.env)::i5 es Z.X.env:=by rfl):WA Z ρ O (e::es) Φ:=
 PA.weak (AJ Bd IJ hs) fun σ H Q q=> ⟨O,_,h,q.1,fun v H1 t O1 p f1 r1=> ⟨O1,_,p,q.1.step f1,fun vs H2 ts O2 p2 f2 r2=>q.2 _ H2 _ O2 p2 (f1.trans f2) (.cons (r1.kp f2.kp f1.ok) r2)⟩⟩
theorem AD:EA Z ρ O [] []:=fun _ p=>BC p
theorem AX(h:ET Z ρ O e t)(hr:EA Z ρ O es ts)(hs:i5 (e::es) Z.X.env=(false,eval e Z.X.env)::i5 es Z.X.env:=by rfl):EA Z ρ O (e::es) (t::ts):=fun Φ p=>EK (h _ (hr _ p)) hs
theorem Rz(h:WA Z ρ O es fun ts O1=>ts.length≤sizeLine∧Φ (.tup ts) O1):WE Z ρ O (.Tuple es x1 pos) Φ:=
 PE.weak (JM h) fun σ H Q q=> ⟨q.1,fun vs H1 ts O1 p f r=> ⟨by rw[r.length];exact p.1,fun a ha=>q.2 _ _ _ O1 p.2 (f.trans (.new f.ok ha)) (.tup AL (r.kp (BO f.ok ha) f.ok))⟩⟩
theorem AV(h:EA Z ρ O es ts)(hl:ts.length≤sizeLine:=by first| (show 1≤sizeLine;decide)| (show 2≤sizeLine;decide)| (show 3≤sizeLine;decide)| (show 0≤sizeLine;decide)):ET Z ρ O (.Tuple es x1 pos) (.tup ts):=fun _ p=>Rz (h _ ⟨hl,p⟩)
theorem SA(h:WA Z ρ O es fun ts O1=>ts.length≤sizeLine∧Φ (.lst ts) O1):WE Z ρ O (.List es pos) Φ:=
 PE.weak (Gu h) fun σ H Q q=> ⟨q.1,fun vs H1 ts O1 p f r=> ⟨by rw[r.length];exact p.1,fun a ha=>q.2 _ _ _ O1 p.2 (f.trans (.new f.ok ha)) (.lst AL (f.ok.none_of ha) (r.kp (BO f.ok ha) f.ok))⟩⟩
theorem Bn(h:EA Z ρ O es ts)(hl:ts.length≤sizeLine):ET Z ρ O (.List es pos) (.lst ts):=fun _ p=>SA (h _ ⟨hl,p⟩)
theorem Bo(h:WA Z ρ O es fun ts O1=>ts.length≤sizeLine∧∀a,O1 a=none→Φ (.raw (.ref a)) (Am O1 a ts)):WE Z ρ O (.List es pos) Φ:=
 PE.weak (Gu h) fun σ H Q q=> ⟨q.1,fun vs H1 ts O1 p f r=> ⟨by rw[r.length];exact p.1,fun a ha=>q.2 _ _ _ _ (p.2 a (f.ok.none_of ha)) (f.trans (.newO f.ok ha r)) (.raw _)⟩⟩
end
section
variable {K:a8}
theorem Rep.int_inv(r:Rep K O H v (.int i)):v=.int i:=by cases r;rfl
theorem Rep.bl_inv(r:Rep K O H v (.bl i)):v=.bl i:=by cases r;rfl
theorem Rep.non_inv(r:Rep K O H v .non):v=.non:=by cases r;rfl
theorem Rep.str_inv(r:Rep K O H v (.str i)):v=.str i:=by cases r;rfl
theorem Rep.raw_inv(r:Rep K O H v (.raw i)):v=i:=by cases r;rfl
theorem Rep.tup_inv(r:Rep K O H v (.tup ts)):∃a xs,v=.ref a∧H a=some (.tup xs)∧Reps K O H xs ts:=by
 cases r with
 |tup h r=>exact⟨_,_,rfl,h,r⟩
theorem Rep.lst_inv(r:Rep K O H v (.lst ts)):∃a xs,v=.ref a∧H a=some (.lst xs)∧O a=none∧Reps K O H xs ts:=by
 cases r with
 |lst h o r=>exact⟨_,_,rfl,h,o,r⟩
theorem Reps.cons_inv(r:Reps K O H vs (t::ts)):∃v vs',vs=v::vs'∧Rep K O H v t∧Reps K O H vs' ts:=by
 cases r with
 |cons h r=>exact⟨_,_,rfl,h,r⟩
theorem Reps.nil_inv(r:Reps K O H vs []):vs=[]:=by cases r;rfl
theorem Reps.one_inv(r:Reps K O H vs [t]):∃v,vs=[v]∧Rep K O H v t:=by
 obtain⟨v,vs',rfl,h,r⟩:=r.cons_inv
 cases r.nil_inv
 exact⟨v,rfl,h⟩
theorem Reps.two_inv(r:Reps K O H vs [t,u]):∃v w,vs=[v,w]∧Rep K O H v t∧Rep K O H w u:=by
 obtain⟨v,vs',rfl,h,r⟩:=r.cons_inv
 obtain⟨w,rfl,h2⟩:=r.one_inv
 exact⟨v,w,rfl,h,h2⟩
theorem Reps.ints:∀{vs:List V} {ns:List Int},Reps K O H vs (ns.map T.int)→vs=ns.map V.int
 |_,[],r=>r.nil_inv
 |_,n::ns,r=>by
  obtain⟨v,vs',rfl,h,r⟩:=Reps.cons_inv r
  rw[h.int_inv,Reps.ints r]
  rfl
end
section
variable {Z:Zx} {ρ:List (Option T)} {O:AO} {e a b c:Expr} {es:List Expr} {Φ:CJ} {pos:Pos} {t:T} {ts:List T} {K:a8} {i:Int}
theorem OQ{g:Int→Int→Int}:RP K (RA fun i j=> .int (g i j)) (.int i) (.int j) O (.int (g i j)):=fun Φ p H v w Q ok r1 r2 q=> ⟨i,j,r1.int_inv,r2.int_inv,q _ H _ O p (.refl ok) (.int _)⟩
theorem DE{g:Int→Int→Bool}:RP K (RA fun i j=> .bl (g i j)) (.int i) (.int j) O (.bl (g i j)):=fun Φ p H v w Q ok r1 r2 q=> ⟨i,j,r1.int_inv,r2.int_inv,q _ H _ O p (.refl ok) (.bl _)⟩
theorem QD{g:Int→Int→Int}(hc:C i j):RP K (rI C fun i j=> .int (g i j)) (.int i) (.int j) O (.int (g i j)):=fun Φ p H v w Q ok r1 r2 q=> ⟨i,j,r1.int_inv,r2.int_inv,hc,q _ H _ O p (.refl ok) (.int _)⟩
theorem As(ha:ET Z ρ O a (.int i))(hb:ET Z ρ O b (.int j)):ET Z ρ O (.BinOp a .Add b pos) (.int (i+j)):=Dp RC OQ ha hb
theorem BK(ha:ET Z ρ O a (.int i))(hb:ET Z ρ O b (.int j)):ET Z ρ O (.BinOp a .Sub b pos) (.int (i-j)):=Dp Yh OQ ha hb
theorem Bv(ha:ET Z ρ O a (.int i))(hb:ET Z ρ O b (.int j))(h:CMul i j):ET Z ρ O (.BinOp a .Mult b pos) (.int (i*j)):=Dp Yi (QD h) ha hb
theorem OR(ha:ET Z ρ O a (.int i))(hb:ET Z ρ O b (.int j))(h:bj i j):ET Z ρ O (.BinOp a .FloorDiv b pos) (.int (i/j)):=Dp Uz (QD h) ha hb
theorem Cd(ha:ET Z ρ O a (.int i))(hb:ET Z ρ O b (.int j))(h:0<j):ET Z ρ O (.BinOp a .Mod b pos) (.int (i%j)):=Dp Yj (QD h) ha hb
theorem SB(ha:ET Z ρ O a (.int i))(hb:ET Z ρ O b (.int j))(h:RB i j):ET Z ρ O (.BinOp a .Pow b pos) (.int (i^j.toNat)):=Dp Yk (QD h) ha hb
theorem SC(ha:ET Z ρ O a (.int i))(hb:ET Z ρ O b (.int j)):ET Z ρ O (.Compare a [.Lt] [b] pos) (.bl (decide (i<j))):=Cu Gp (Ao _) DE ha hb
theorem cU(ha:ET Z ρ O a (.int i))(hb:ET Z ρ O b (.int j)):ET Z ρ O (.Compare a [.Gt] [b] pos) (.bl (decide (j<i))):=Cu bp (Ao _) DE ha hb
theorem cV(ha:ET Z ρ O a (.int i))(hb:ET Z ρ O b (.int j)):ET Z ρ O (.Compare a [.GtE] [b] pos) (.bl (decide (j≤i))):=Cu Xc (Ao _) DE ha hb
theorem Mv:RP K fm (.int i) (.int j) O (.bl (decide (i=j))):=fun Φ p H v w Q ok r1 r2 q=>by
 cases r1.int_inv;cases r2.int_inv
 refine⟨rfl,?_⟩
 have:decide (V.int i=V.int j)=decide (i=j):=by simp
 rw[this]
 exact q _ H _ O p (.refl ok) (.bl _)
theorem SD:RP K iN (.int i) (.int j) O (.bl (!decide (i=j))):=fun Φ p H v w Q ok r1 r2 q=>by
 cases r1.int_inv;cases r2.int_inv
 refine⟨rfl,?_⟩
 have:decide (V.int i=V.int j)=decide (i=j):=by simp
 rw[this]
 exact q _ H _ O p (.refl ok) (.bl _)
theorem HW(ha:ET Z ρ O a (.int i))(hb:ET Z ρ O b (.int j)):ET Z ρ O (.Compare a [.Eq] [b] pos) (.bl (decide (i=j))):=Cu Gm (Ao _) Mv ha hb
theorem ZQ(ha:ET Z ρ O a (.int i))(hb:ET Z ρ O b (.int j)):ET Z ρ O (.Compare a [.NotEq] [b] pos) (.bl (!decide (i=j))):=Cu RF (Ao _) SD ha hb
theorem cW{g:Int→Int}(ho:fB Z.X (unaryOp op) (rU fun i=> .int (g i)))(h:ET Z ρ O a (.int i)):ET Z ρ O (.UnaryOp op a pos) (.int (g i)):=fun Φ p=>
 PE.weak (Xb ho Bd) fun σ H Q q=> ⟨O,_,h (fun t O'=>t=.int i∧O'=O) ⟨rfl,rfl⟩,q.1,fun v H1 t O1 ⟨e1,e2⟩ f r=>by
  subst e1;subst e2
  exact⟨i,r.int_inv,q.2 _ H1 _ _ p f (.int _)⟩⟩
theorem SE(h:ET Z ρ O a (.int i)):ET Z ρ O (.UnaryOp .USub a pos) (.int (-i)):=cW RD h
theorem FE(ho:Cy Z.X (l5 op) r)(ho':Cy Z.X (l5 op') r')(hp:RP Z.K r ta tb O (.bl x))(hp':x=true→RP Z.K r' tb tc O (.bl y))
  (ha:ET Z ρ O a ta) (hb:ET Z ρ O b tb) (hc:x=true→ET Z ρ O c tc) (hm:lastMarks [op,op'] [b,c]=false:=by with_unfolding_all rfl):ET Z ρ O (.Compare a [op,op'] [b,c] pos) (.bl (x&&y)):=fun Φ p=>
 by
 refine PE.weak (RH ho ho' (Bd (ρ:=ρ)) (Bd (ρ:=ρ)) (Bd (ρ:=ρ)) hm) fun σ H Q q=>?_
 refine⟨O,_,ha (fun t O'=>t=ta∧O'=O) ⟨rfl,rfl⟩,q.1,?_⟩
 rintro v H1 _ _ ⟨rfl,rfl⟩ f1 r1
 refine⟨_,_,hb (fun t O'=>t=tb∧O'=_) ⟨rfl,rfl⟩,q.1.step f1,?_⟩
 rintro w H2 _ _ ⟨rfl,rfl⟩ f2 r2
 refine hp (fun t O'=>t=.bl x∧O'=_) ⟨rfl,rfl⟩ H2 v w _ f2.ok (r1.kp f2.kp f1.ok) r2 ?_
 rintro z H3 _ _ ⟨rfl,rfl⟩ f3 r3
 refine⟨x,r3.bl_inv,?_⟩
 cases x with
 |false=>exact GP (q.2 _ H3 _ _ p (f1.trans (f2.trans f3)) (.bl _))
 |true=>
  refine JP ⟨_,_,hc rfl (fun t O'=>t=tc∧O'=_) ⟨rfl,rfl⟩,q.1.step (f1.trans (f2.trans f3)),?_⟩
  rintro w' H4 _ _ ⟨rfl,rfl⟩ f4 r4
  exact hp' rfl _ p H4 w w' _ f4.ok (r2.kp (f3.trans f4).kp f2.ok) r4 (q.2.step (f1.trans (f2.trans (f3.trans f4))))
noncomputable def TruT(O:AO):T→Bool→Prop
 | .non,k=>k=false
 | .bl b,k=>k=b
 | .int i,k=>k=(i !=0)
 | .str y,k=>y.length≤sizeLine∧k=((y.length:Int) !=0)
 | .tup ts,k=>k=!ts.isEmpty
 | .lst ts,k=>k=!ts.isEmpty
 | .frz ts,k=>k=!ts.isEmpty
 | .dct,_=>False
 | .raw (.ref a),k=>∃ts,O a=some ts∧k=!ts.isEmpty
 | .raw _,_=>False
theorem Reps.isEmpty(r:Reps K O H vs ts):vs.isEmpty=ts.isEmpty:=by cases r<;>rfl
theorem TruT.v{v:V}(h:TruT O t k)(r:Rep K O H v t)(ok:OwnOk K O H):Yp K v H k:=by
 cases r with
 |non=>exact h
 |bl=>exact h
 |int=>exact h
 |str=>exact h
 |tup h1 r=>
  have h:k=!_:=h
  exact .inr (.inl ⟨_,.inl (.inl h1),by rw[h,r.isEmpty]⟩)
 |lst h1 o r=>
  have h:k=!_:=h
  exact .inl ⟨_,.inl (.inl h1),by rw[h,r.isEmpty]⟩
 |frz h1 r=>
  have h:k=!_:=h
  exact .inl ⟨_,.inl (.inr ⟨_,h1⟩),by rw[h,r.isEmpty]⟩
 |dct=>exact h.elim
 |raw v=>
  cases v with
  |ref a=>
   obtain⟨ts,e,h⟩:=h
   obtain⟨xs,h1,r⟩:=ok a ts e
   exact .inl ⟨xs,.inl (.inl h1),by rw[h,r.isEmpty]⟩
  |_=>exact h.elim
theorem LL{Φ:Jd}(h:WE Z ρ O e fun t O'=>∃k,TruT O' t k∧Φ k O')(he:∀whole,isTrue e Z.X.env whole=(do let v←whole;standAt e.pos;holding [v] (truthy v)):=by intro _;rfl):WT Z ρ O e Φ:=
 PT.weak (Kb Bd he) fun σ H Q q=> ⟨O,_,h,q.1,fun v H1 t O1 ⟨k,tr,p⟩ f r=> ⟨k,tr.v r f.ok,q.2 k H1 O1 p f⟩⟩
theorem LM(h:ET Z ρ O e t)(tr:TruT O t k)(he:∀whole,isTrue e Z.X.env whole=(do let v←whole;standAt e.pos;holding [v] (truthy v)):=by intro _;rfl):EB Z ρ O e k:=fun Φ p=>LL (h _ ⟨k,tr,p⟩) he
theorem Dq(h:ET Z ρ O e (.bl k))(he:∀whole,isTrue e Z.X.env whole=(do let v←whole;standAt e.pos;holding [v] (truthy v)):=by intro _;rfl):EB Z ρ O e k:=LM h rfl he
theorem ZR{Φ:Jd}(ho:Cy Z.X (l5 op) r)(hm:behindInMarks op b=false)(h:WE Z ρ O a fun ta O1=>WE Z ρ O1 b fun tb O2=>RT Z.K r ta tb O2 fun t O3=>∃k,t=.bl k∧Φ k O3):WT Z ρ O (.Compare a [op] [b] pos) Φ:=
 PT.weak (ED ho Bd Bd hm) fun σ H Q q=>Je (Φ:=fun t O3=>∃k,t=.bl k∧Φ k O3) ⟨q.1,fun v H' t O' ⟨k,e,p⟩ f r=>by
  subst e
  exact⟨k,r.bl_inv,q.2 k H' O' p f⟩⟩ h
theorem BZ(ho:Cy Z.X (l5 op) r)(hm:behindInMarks op b=false)(hp:RP Z.K r ta tb O (.bl k))(ha:ET Z ρ O a ta)(hb:ET Z ρ O b tb):EB Z ρ O (.Compare a [op] [b] pos) k:=fun Φ p=>
 ZR ho hm (ha _ (hb _ (hp _ ⟨k,rfl,p⟩)))
theorem OS(ha:ET Z ρ O a (.int i))(hb:ET Z ρ O b (.int j)):EB Z ρ O (.Compare a [.Lt] [b] pos) (decide (i<j)):=BZ Gp (Ao _) DE ha hb
theorem Xn(ha:ET Z ρ O a (.int i))(hb:ET Z ρ O b (.int j)):EB Z ρ O (.Compare a [.GtE] [b] pos) (decide (j≤i)):=BZ Xc (Ao _) DE ha hb
theorem SF(ha:ET Z ρ O a (.int i))(hb:ET Z ρ O b (.int j)):EB Z ρ O (.Compare a [.Eq] [b] pos) (decide (i=j)):=BZ Gm (Ao _) Mv ha hb
theorem Mw(ha:ET Z ρ O a (.int i))(hb:ET Z ρ O b (.int j)):EB Z ρ O (.Compare a [.NotEq] [b] pos) (!decide (i=j)):=BZ RF (Ao _) SD ha hb
theorem Jf(ha:ET Z ρ O a (.int i))(hb:ET Z ρ O b (.int j))(hc:ET Z ρ O c (.int k))(hm:lastMarks [CmpOp.LtE,.LtE] [b,c]=false:=by with_unfolding_all rfl):ET Z ρ O (.Compare a [.LtE,.LtE] [b,c] pos) (.bl (decide (i≤j)&&decide (j≤k))):=FE Nq Nq DE (fun _=>DE) ha hb (fun _=>hc) hm
theorem SG{Φ:Jd}(h:WT Z ρ O a fun k O'=>Φ (!k) O'):WT Z ρ O (.UnaryOp .Not a pos) Φ:=PT.weak (Qt h) fun σ H Q q=> ⟨q.1,fun k H1 O1 p f=>q.2 _ H1 O1 p f⟩
theorem Bp(h:EB Z ρ O a k):EB Z ρ O (.UnaryOp .Not a pos) (!k):=fun Φ p=>SG (h _ p)
noncomputable def EW(Z:Zx)(ρ:List (Option T))(O:AO)(e:Expr)(b:Bool):Prop:=∀Φ:Jd,Φ b O→WW Z ρ O e Φ
theorem EW.eb(h:EW Z ρ O e k):EB Z ρ O e k:=fun Φ p=> (h Φ p).pt
theorem Vd{Φ:Jd}(h:WT Z ρ O a Φ):WW Z ρ O (.BoolOp .And [a] pos) Φ:=Uu h
theorem SH{Φ:Jd}(h:WT Z ρ O a Φ):WW Z ρ O (.BoolOp .Or [a] pos) Φ:=Qs h
theorem ZS{Φ:Jd}(h:WT Z ρ O a fun k O1=>if k=true then WW Z ρ O1 (.BoolOp .And (b::es) pos) Φ else Φ false O1):WW Z ρ O (.BoolOp .And (a::b::es) pos) Φ:=
 PW.weak (YS h cS) fun σ H Q q=> ⟨q.1,fun k H1 O1 p f=>by
  cases k with
  |true=>rw[if_pos rfl] at p ⊢;exact⟨O1,_,p,q.1.step f,q.2.step f⟩
  |false=>rw[if_neg e8] at p ⊢;exact q.2 _ H1 O1 p f⟩
theorem Xo{Φ:Jd}(h:WT Z ρ O a fun k O1=>if k=true then Φ true O1 else WW Z ρ O1 (.BoolOp .Or (b::es) pos) Φ):WW Z ρ O (.BoolOp .Or (a::b::es) pos) Φ:=
 PW.weak (XY h cS) fun σ H Q q=> ⟨q.1,fun k H1 O1 p f=>by
  cases k with
  |true=>rw[if_pos rfl] at p ⊢;exact q.2 _ H1 O1 p f
  |false=>rw[if_neg e8] at p ⊢;exact⟨O1,_,p,q.1.step f,q.2.step f⟩⟩
theorem Ve(h:EB Z ρ O a k):EW Z ρ O (.BoolOp .And [a] pos) k:=fun Φ p=>Vd (h _ p)
theorem Mx(h:EB Z ρ O a k):EW Z ρ O (.BoolOp .Or [a] pos) k:=fun Φ p=>SH (h _ p)
theorem SI(ha:EB Z ρ O a x)(hb:x=true→EW Z ρ O (.BoolOp .And (b::es) pos) y):EW Z ρ O (.BoolOp .And (a::b::es) pos) (x&&y):=fun Φ p=>ZS (ha _ (by
 cases x with
 |true=>rw[if_pos rfl];exact hb rfl _ p
 |false=>rw[if_neg e8];exact p))
theorem GL(ha:EB Z ρ O a x)(hb:x=false→EW Z ρ O (.BoolOp .Or (b::es) pos) y):EW Z ρ O (.BoolOp .Or (a::b::es) pos) (x||y):=fun Φ p=>Xo (ha _ (by
 cases x with
 |true=>rw[if_pos rfl];exact p
 |false=>rw[if_neg e8];exact hb rfl _ p))
theorem DS(h:ET Z ρ O a t):ET Z ρ O (.BoolOp op [a] pos) t:=fun Φ p=>YT (h Φ p)
theorem Bw(ha:ET Z ρ O a (.bl x))(hb:x=true→ET Z ρ O (.BoolOp .And (b::es) pos) (.bl y)):ET Z ρ O (.BoolOp .And (a::b::es) pos) (.bl (x&&y)):=fun Φ p=>
 by
 refine PE.weak (YU (Bd (ρ:=ρ)) (Bd (ρ:=ρ))) fun σ H Q q=>?_
 refine⟨O,_,ha (fun t O'=>t=.bl x∧O'=O) ⟨rfl,rfl⟩,q.1,?_⟩
 rintro v H1 _ _ ⟨rfl,rfl⟩ f r
 refine⟨x,r.bl_inv,?_⟩
 cases x with
 |true=>exact JP ⟨_,_,hb rfl _ p,q.1.step f,q.2.step f⟩
 |false=>exact GP (q.2 _ H1 _ _ p f (.bl _))
theorem ZT(ha:ET Z ρ O a (.bl x)):ET Z ρ O (.UnaryOp .Not a pos) (.bl (!x)):=fun Φ p=>
 PE.weak (YV Bd) fun σ H Q q=> ⟨O,_,ha (fun t O'=>t=.bl x∧O'=O) ⟨rfl,rfl⟩,q.1,fun v H1 t O1 ⟨e1,e2⟩ f r=>by
  subst e1;subst e2
  exact⟨x,r.bl_inv,q.2 _ H1 _ _ p f (.bl _)⟩⟩
theorem cX(h:WT Z ρ O c fun k O1=>if k=true then WE Z ρ O1 a Φ else WE Z ρ O1 b Φ):WE Z ρ O (.IfExp c a b pos) Φ:=
 PE.weak (Qu h Bd Bd) fun σ H Q q=> ⟨q.1,fun k H1 O1 p f=>by
  cases k with
  |true=>rw[if_pos rfl] at p ⊢;exact⟨O1,_,p,q.1.step f,q.2.step f⟩
  |false=>rw[if_neg e8] at p ⊢;exact⟨O1,_,p,q.1.step f,q.2.step f⟩⟩
theorem BP(hc:EB Z ρ O c x)(ha:x=true→ET Z ρ O a ta)(hb:x=false→ET Z ρ O b tb):ET Z ρ O (.IfExp c a b pos) (if x=true then ta else tb):=fun Φ p=>cX (hc _ (by
 cases x with
 |true=>rw[if_pos rfl] at p ⊢;exact ha rfl _ p
 |false=>rw[if_neg e8] at p ⊢;exact hb rfl _ p))
theorem Reps.atI(r:Reps K O H vs ts)(e:L2.atI ts i=some t):∃v,L2.atI vs i=some v∧Rep K O H v t:=by
 unfold L2.atI at e ⊢
 rw[r.length]
 cases hx:RM ts.length i with
 |none=>rw[hx] at e;cases e
 |some j=>rw[hx] at e;exact r.get e
theorem ZU(e:atI ts i=some t):RP K (cA K) (.tup ts) (.int i) O t:=fun Φ p H v w Q ok r1 r2 q=>by
 obtain⟨a,xs,rfl,h1,r1⟩:=r1.tup_inv
 obtain⟨x,ex,rx⟩:=r1.atI e
 exact⟨a,xs,i,x,rfl,r2.int_inv,.inl (.inl h1),ex,q _ H _ O p (.refl ok) rx⟩
theorem Ee(e:atI ts i=some t):RP K (Yt K) (.lst ts) (.int i) O t:=fun Φ p H v w Q ok r1 r2 q=>by
 obtain⟨a,xs,rfl,h1,o1,r1⟩:=r1.lst_inv
 obtain⟨x,ex,rx⟩:=r1.atI e
 exact⟨a,xs,i,x,rfl,r2.int_inv,.inl (.inl h1),ex,q _ H _ O p (.refl ok) rx⟩
theorem ZV{a:Addr}(ha:O a=some ts)(e:atI ts i=some t):RP K (Yt K) (.raw (.ref a)) (.int i) O t:=fun Φ p H v w Q ok r1 r2 q=>by
 cases r1.raw_inv
 obtain⟨xs,h1,r1⟩:=ok a ts ha
 obtain⟨x,ex,rx⟩:=r1.atI e
 exact⟨a,xs,i,x,rfl,r2.int_inv,.inl (.inl h1),ex,q _ H _ O p (.refl ok) rx⟩
theorem AI(ha:ET Z ρ O a (.tup ts))(hb:ET Z ρ O b (.int i))(e:atI ts i=some t:=by rfl)(hs:DL b:=by exact fun _ _=>rfl):ET Z ρ O (.Subscript a b pos) t:=Ry Yu hs (ZU e) ha hb
theorem Ef(ha:ET Z ρ O a (.lst ts))(hb:ET Z ρ O b (.int i))(e:atI ts i=some t:=by rfl)(hs:DL b:=by exact fun _ _=>rfl):ET Z ρ O (.Subscript a b pos) t:=Ry Bz hs (Ee e) ha hb
theorem DT(hp:O p=some ts)(ha:ET Z ρ O a (.raw (.ref p)))(hb:ET Z ρ O b (.int i))(e:atI ts i=some t:=by rfl)(hs:DL b:=by exact fun _ _=>rfl):ET Z ρ O (.Subscript a b pos) t:=Ry Bz hs (ZV hp e) ha hb
end
noncomputable abbrev CV:=List T→AO→CJ→(Value→AO→Prop)→Prop
noncomputable def Cf(K:a8)(s:CV):Sp:=fun vs H Q E=>∃ts O Φ Ξ,Reps K O H vs ts∧OwnOk K O H∧s ts O Φ Ξ∧Acc K O H Φ Q∧∀cls O' H',Ξ cls O'→Frm K O H O' H'→E cls none H'
structure FnT(P:Program)(w:World)(K:a8)(mg:Str→Option Value)(base:Heap)(x:Str)(k:Nat)(ps:List Str)(s:CV):Prop where
 ex:∃f fd,FnOk P w K mg base (CXe P w) k f fd ps (Cf K s)∧mg x=some (.ref f)∧lF K (.ref f)=true∧Binds K fd ps []
noncomputable def FX(φ:List T→T→Prop):CV:=fun ts O Φ _=>∃t,φ ts t∧Φ t O
section
variable {Z:Zx} {ρ:List (Option T)} {O:AO} {e a:Expr} {es:List Expr} {Φ:CJ} {pos p:Pos} {t:T} {ts:List T} {K:a8}
theorem Ax(G:FnT Z.X.prog Z.X.w Z.X.K Z.X.mg Z.X.base x k ps s)(hr:Room k Z.X.A)(xf:XFly Z.X Z.W)(h:WA Z ρ O (e::es) fun ts O1=>s ts O1 Φ Z.Xi)(hg:Gl Z.X x:=by rfl)
  (hdb:(x==("__debug__" :Str))=false:=by decide) (he:i5 (e::es) Z.X.env=(false,eval e Z.X.env)::i5 es Z.X.env:=by rfl) (hpl:(mS pos (i5 es Z.X.env)).any (·.1)=false:=by rfl):WE Z ρ O (.Call (.Name x p) (e::es) [] pos) Φ:=by
 obtain⟨f,fd,F,hm,hk,hb⟩:=G.ex
 refine PE.weak (Km xf F hr hg hm hk hb (IJ (ρ:=ρ)) hdb he hpl) fun σ H Q q=>?_
 exact⟨O,_,h,q.1,fun vs H1 ts O1 p f r=> ⟨ts,O1,Φ,Z.Xi,r,f.ok,p,q.2.step f,fun cls O' H' x f'=> ⟨rfl,O',x,(q.1.fr.trans f).trans f'⟩⟩⟩
theorem Jg(G:FnT Z.X.prog Z.X.w Z.X.K Z.X.mg Z.X.base x k ps s)(hr:Room k Z.X.A)(xf:XFly Z.X Z.W)(h:EA Z ρ O (e::es) ts)(hs:∀Φ:CJ,Φ t O→s ts O Φ Z.Xi)(hg:Gl Z.X x:=by rfl)
  (hdb:(x==("__debug__" :Str))=false:=by decide) (he:i5 (e::es) Z.X.env=(false,eval e Z.X.env)::i5 es Z.X.env:=by rfl) (hpl:(mS pos (i5 es Z.X.env)).any (·.1)=false:=by rfl):ET Z ρ O (.Call (.Name x p) (e::es) [] pos) t:=
 fun Φ p=>Ax G hr xf (h _ (hs Φ p)) hg hdb he hpl
theorem Aj(G:FnT Z.X.prog Z.X.w Z.X.K Z.X.mg Z.X.base x k ps (FX φ))(hr:Room k Z.X.A)(xf:XFly Z.X Z.W)(h:EA Z ρ O (e::es) ts)(hs:φ ts t)(hg:Gl Z.X x:=by rfl)
  (hdb:(x==("__debug__" :Str))=false:=by decide) (he:i5 (e::es) Z.X.env=(false,eval e Z.X.env)::i5 es Z.X.env:=by rfl) (hpl:(mS pos (i5 es Z.X.env)).any (·.1)=false:=by rfl):ET Z ρ O (.Call (.Name x p) (e::es) [] pos) t:=
 Jg G hr xf h (fun Φ p=> ⟨t,hs,p⟩) hg hdb he hpl
noncomputable def CT(K:a8)(r:List V→Hp→VK→Prop)(ts:List T)(O:AO)(Φ:CJ):Prop:=∀H vs Q,OwnOk K O H→Reps K O H vs ts→Acc K O H Φ Q→r vs H Q
noncomputable def CP(K:a8)(r:List V→Hp→VK→Prop)(ts:List T)(O:AO)(t:T):Prop:=∀Φ:CJ,Φ t O→CT K r ts O Φ
theorem LN{id:String}(hc:Bb Z.X (.builtin id) r)(hm:Z.X.mg x=none)(hv:kS x=some (.builtin id))(h:WA Z ρ O (e::es) fun ts O1=>CT Z.K r ts O1 Φ)(hg:Gl Z.X x:=by rfl)(hn:x≠"__name__":=by decide)(hdb:(x==("__debug__" :Str))=false:=by decide)
  (he:i5 (e::es) Z.X.env=(false,eval e Z.X.env)::i5 es Z.X.env:=by rfl) (hpl:(mS pos (i5 es Z.X.env)).any (·.1)=false:=by rfl):WE Z ρ O (.Call (.Name x p) (e::es) [] pos) Φ:=
 PE.weak (BA hc hg hm hv (IJ (ρ:=ρ)) hn hdb he hpl) fun σ H Q q=> ⟨O,_,h,q.1,fun vs H1 ts O1 p f r=>p H1 vs Q f.ok r (q.2.step f)⟩
theorem Fn{id:String}(hc:Bb Z.X (.type id) r)(hm:Z.X.mg x=none)(hv:kS x=some (.type id))(h:WA Z ρ O (e::es) fun ts O1=>CT Z.K r ts O1 Φ)(hg:Gl Z.X x:=by rfl)(hn:x≠"__name__":=by decide)(hdb:(x==("__debug__" :Str))=false:=by decide)
  (he:i5 (e::es) Z.X.env=(false,eval e Z.X.env)::i5 es Z.X.env:=by rfl) (hpl:(mS pos (i5 es Z.X.env)).any (·.1)=false:=by rfl):WE Z ρ O (.Call (.Name x p) (e::es) [] pos) Φ:=
 PE.weak (Fe hc hg hm hv (IJ (ρ:=ρ)) hn hdb he hpl) fun σ H Q q=> ⟨O,_,h,q.1,fun vs H1 ts O1 p f r=>p H1 vs Q f.ok r (q.2.step f)⟩
theorem Bq{id:String}(hc:Bb Z.X (.builtin id) r)(hm:Z.X.mg x=none)(hv:kS x=some (.builtin id))(h:EA Z ρ O (e::es) ts)(hp:CP Z.K r ts O t)(hg:Gl Z.X x:=by rfl)(hn:x≠"__name__":=by decide)(hdb:(x==("__debug__" :Str))=false:=by decide)
  (he:i5 (e::es) Z.X.env=(false,eval e Z.X.env)::i5 es Z.X.env:=by rfl) (hpl:(mS pos (i5 es Z.X.env)).any (·.1)=false:=by rfl):ET Z ρ O (.Call (.Name x p) (e::es) [] pos) t:=fun Φ q=>LN hc hm hv (h _ (hp Φ q)) hg hn hdb he hpl
theorem Fo{id:String}(hc:Bb Z.X (.type id) r)(hm:Z.X.mg x=none)(hv:kS x=some (.type id))(h:EA Z ρ O (e::es) ts)(hp:CP Z.K r ts O t)(hg:Gl Z.X x:=by rfl)(hn:x≠"__name__":=by decide)(hdb:(x==("__debug__" :Str))=false:=by decide)
  (he:i5 (e::es) Z.X.env=(false,eval e Z.X.env)::i5 es Z.X.env:=by rfl) (hpl:(mS pos (i5 es Z.X.env)).any (·.1)=false:=by rfl):ET Z ρ O (.Call (.Name x p) (e::es) [] pos) t:=fun Φ q=>Fn hc hm hv (h _ (hp Φ q)) hg hn hdb he hpl
noncomputable def MT(K:a8)(ty:String)(r:V→List V→Hp→VK→Prop)(t:T)(ts:List T)(O:AO)(Φ:CJ):Prop:=∀H v vs Q,OwnOk K O H→Rep K O H v t→Reps K O H vs ts→Acc K O H Φ Q→r v vs H Q
noncomputable def gO(K:a8)(ty:String)(O:AO)(t:T):Prop:=∀H v,OwnOk K O H→Rep K O H v t→gD K ty v H
theorem SJ{apos cpos:Pos}{id:String}(pa:PlainAttrs ty)(slot:Slot ty name id)(hty:typeOf (.builtin id)=pure (.type "method_descriptor"))(hm:iP Z.X id r)
  (h:WE Z ρ O o fun t O1=>gO Z.K ty O1 t∧WA Z ρ O1 (e::es) fun ts O2=>MT Z.K ty r t ts O2 Φ)
  (hbase:oJ o name Z.X.env (eval o Z.X.env)=eval o Z.X.env:=by rfl)
  (hfew:((mS cpos (i5 (e::es) Z.X.env)).all (fun x=>!x.1)&&(rT cpos (pQ [] Z.X.env)).all (fun x=>x.1.isSome)
   &&decide ((e::es).length+([]:List qt).length+(if([]:List qt).isEmpty then 0 else 1)<30))=true:=by rfl)
  (hline:(apos.endLine==cpos.line)=true:=by rfl) (hs:i5 (e::es) Z.X.env=(false,eval e Z.X.env)::i5 es Z.X.env:=by rfl) (hplain:(mS cpos (i5 es Z.X.env)).any (·.1)=false:=by rfl):WE Z ρ O (.Call (.Attribute o name apos) (e::es) [] cpos) Φ:=
 PE.weak (RO pa slot hty hm (Bd (ρ:=ρ)) (IJ (ρ:=ρ)) hbase hfew hline hs hplain) fun σ H Q q=> ⟨O,_,h,q.1,fun v H1 t O1 ⟨ty,p⟩ f1 r1=> ⟨ty H1 v f1.ok r1,O1,_,p,q.1.step f1,fun vs H2 ts O2 p2 f2 r2=>
  p2 H2 v vs Q f2.ok (r1.kp f2.kp f1.ok) r2 (q.2.step (f1.trans f2))⟩⟩
theorem OT{a:Addr}(ha:O a=some ts):gO K "list" O (.raw (.ref a)):=fun H v ok r=>by
 cases r.raw_inv
 obtain⟨xs,h,_⟩:=ok a ts ha
 exact .inl ⟨rfl,xs,.inl (.inl h)⟩
theorem Vf:gO K "list" O (.lst ts):=fun H v ok r=>by
 obtain⟨a,xs,rfl,h,_⟩:=r.lst_inv
 exact .inl ⟨rfl,xs,.inl (.inl h)⟩
theorem My{a:Addr}(ha:O a=some ts)(hl:ts.length<sizeLine)(p:Φ .non (Am O a (ts++[u]))):MT K "list" Ny (.raw (.ref a)) [u] O Φ:=fun H v vs Q ok r1 r2 q=>by
 cases r1.raw_inv
 obtain⟨w,rfl,r3⟩:=r2.one_inv
 obtain⟨xs,h,r⟩:=ok a ts ha
 exact⟨a,xs,w,rfl,rfl,h,by rw[r.length];exact hl,q _ _ _ _ p (.put ok ha (r.append (.one r3))) .non⟩
theorem Fp{apos cpos:Pos}(h:WE Z ρ O o fun t O1=>∃a,t=.raw (.ref a)∧(∃ts,O1 a=some ts)∧WE Z ρ O1 e fun u O2=>∃ts,O2 a=some ts∧ts.length<sizeLine∧Φ .non (Am O2 a (ts++[u])))
  (hbase:oJ o "append" Z.X.env (eval o Z.X.env)=eval o Z.X.env:=by rfl)
  (hfew:((mS cpos (i5 [e] Z.X.env)).all (fun x=>!x.1)&&(rT cpos (pQ [] Z.X.env)).all (fun x=>x.1.isSome)
   &&decide ([e].length+([]:List qt).length+(if([]:List qt).isEmpty then 0 else 1)<30))=true:=by rfl)
  (hline:(apos.endLine==cpos.line)=true:=by rfl) (hs:i5 [e] Z.X.env=(false,eval e Z.X.env)::i5 [] Z.X.env:=by rfl) (hplain:(mS cpos (i5 [] Z.X.env)).any (·.1)=false:=by rfl):WE Z ρ O (.Call (.Attribute o "append" apos) [e] [] cpos) Φ:=by
 refine SJ nH PySem.F.slot_list_append PySem.F.type_list_append Ie (EJ h ?_) hbase hfew hline hs hplain
 rintro t O1 ⟨a,rfl,⟨ts,hts⟩,w⟩
 refine⟨OT hts,EK (EJ w ?_) hs⟩
 rintro u O2 ⟨us,h1,h2,p⟩
 exact BC (My h1 h2 p)
end
noncomputable abbrev QE:=List (Option T)→AO→Prop
structure Es where
 nx:QE
 rt:CJ
 bk:QE:=fun _ _=>False
 ct:QE:=fun _ _=>False
noncomputable def AccN(Z:Zx)(O:AO)(H:Hp)(N:QE)(D:St→Hp→Prop):Prop:=∀ρ' O' σ' H',N ρ' O'→Asr Z ρ' O' σ' H'→Kp O H O' H'→D σ' H'
structure AccS(Z:Zx)(O:AO)(H:Hp)(Ψ:Es)(D:Ends):Prop where
 nx:AccN Z O H Ψ.nx D.nx
 rt:∀v H' t O',Ψ.rt t O'→Frm Z.K Z.Oe Z.He O' H'→Rep Z.K O' H' v t→D.rt v H'
 bk:AccN Z O H Ψ.bk D.bk
 ct:AccN Z O H Ψ.ct D.ct
noncomputable def tS(Z:Zx)(ρ:List (Option T))(O:AO)(Ψ:Es):TS:=fun D σ H=>Asr Z ρ O σ H∧AccS Z O H Ψ D
noncomputable def WS(Z:Zx)(ρ:List (Option T))(O:AO)(s:Stmt)(Ψ:Es):Prop:=PS Z.X s (tS Z ρ O Ψ)
noncomputable def FY(Z:Zx)(ρ:List (Option T))(O:AO)(s:List Stmt)(Ψ:Es):Prop:=PSs Z.X s (tS Z ρ O Ψ)
noncomputable def jD(Z:Zx)(ss:List Stmt):TS:=fun D σ H=>∃ρ O Ψ,FY Z ρ O ss Ψ∧tS Z ρ O Ψ D σ H
theorem LO:PSs Z.X ss (jD Z ss):=fun pins s σ H D I ⟨_,_,_,w,q⟩=>w pins s σ H D I q
section
variable {Z:Zx} {ρ:List (Option T)} {O:AO} {e a b c:Expr} {Ψ:Es} {pos p:Pos} {t ta tb:T} {ts:List T} {i j:Nat} {x:Str} {H:Hp}
theorem AccN.step(h:AccN Z O H N D)(k:Kp O H O1 H1):AccN Z O1 H1 N D:=fun ρ' O' σ' H' n a k'=>h ρ' O' σ' H' n a (k.trans k')
theorem AccS.step(h:AccS Z O H Ψ D)(k:Kp O H O1 H1):AccS Z O1 H1 Ψ D:=⟨h.nx.step k,h.rt,h.bk.step k,h.ct.step k⟩
theorem Ac(h:Ψ.nx ρ O):FY Z ρ O [] Ψ:=PSs.weak Eo fun D σ H q=>q.2.nx ρ O σ H h q.1 .refl
theorem AC(h:WS Z ρ O s {Ψ with nx:=fun ρ' O'=>FY Z ρ' O' ss Ψ}):FY Z ρ O (s::ss) Ψ:=
 PSs.weak (Bj h LO) fun D σ H q=> ⟨q.1,fun ρ' O' σ' H' w a k=> ⟨ρ',O',Ψ,w,a,q.2.step k⟩,q.2.rt,q.2.bk,q.2.ct⟩
theorem AF(h:WS Z ρ O s Ψ):FY Z ρ O [s] Ψ:=PSs.weak (Cg h) fun _ _ _ q=>q
theorem Vg(h:WS Z ρ O s Ψ)(n:∀ρ' O',Ψ.nx ρ' O'→Ψ'.nx ρ' O')(r:∀t O',Ψ.rt t O'→Ψ'.rt t O')(bk:∀ρ' O',Ψ.bk ρ' O'→Ψ'.bk ρ' O')(ct:∀ρ' O',Ψ.ct ρ' O'→Ψ'.ct ρ' O'):WS Z ρ O s Ψ':=
 PS.weak h fun D σ H q=> ⟨q.1,fun ρ' O' σ' H' w=>q.2.nx ρ' O' σ' H' (n ρ' O' w),fun v H' t O' w=>q.2.rt v H' t O' (r t O' w),fun ρ' O' σ' H' w=>q.2.bk ρ' O' σ' H' (bk ρ' O' w),fun ρ' O' σ' H' w=>q.2.ct ρ' O' σ' H' (ct ρ' O' w)⟩
theorem BD{p:Addr}(hp:O p=some ts)(he:Z.Oe p=none)(hn:ρ[n]?=some (some (.raw (.ref p))))(h:FY Z (ρ.set n (some (.lst ts))) (Dn O p) ss Ψ):FY Z ρ O ss Ψ:=PSs.weak h fun D σ H q=>by
 refine⟨⟨?_,⟨q.1.fr.kp.trans EH,fun b us e=>?_,q.1.ok.drop⟩⟩,q.2.step EH⟩
 ·have r1:=q.1.rl.kp (EH (a:=p)) q.1.ok
  obtain⟨v,e1,e2⟩:=q.1.rl.2 n _ hn
  cases e2.raw_inv
  have r2:=r1.set (i:=n) (q.1.ok.rep hp)
  have:σ.set n (some (.ref p))=σ:=by
   apply lN
   intro m
   by_cases hm:m=n
   ·subst hm
    have hl:m<σ.length:=(jn.mp e1).1
    rw[kB hl,e1]
   ·rw[j7 (Ne.symm hm)]
  rw[this] at r2
  exact r2
 ·obtain⟨us',e'⟩:=q.1.fr.own b us e
  have:b≠p:=fun z=>by rw[z,he] at e;cases e
  exact⟨us',by rw[FB this];exact e'⟩
theorem AH(h:WE Z ρ O e Ψ.rt):WS Z ρ O (.Return (some e) pos) Ψ:=PS.weak (Dh h) fun D σ H q=> ⟨q.1,fun v H' t O' p f r=>q.2.rt v H' t O' p (q.1.fr.trans f) r⟩
theorem BI(h:WE Z ρ O e fun _ O'=>Ψ.nx ρ O')(hs:pe e none pos.line Z.X.env=pure false:=by rfl):WS Z ρ O (.Expr e pos) Ψ:=
 PS.weak (Uv h hs) fun D σ H q=> ⟨q.1,fun v H' t O' p f r=>q.2.nx ρ O' σ H' p (q.1.step f) f.kp⟩
theorem AM(i:Nat)(h:WE Z ρ O e fun t O'=>Ψ.nx (ρ.set i (some t)) O')(hN:Z.X.N.Nodup){pos':Pos}(hi:Z.X.N[i]?=some x:=by rfl)(hx:IF Z.X.env.scope x:=by first|exact nv rfl|exact nW rfl)(hs:pe e (some (.Name x pos')) pos.line Z.X.env=pure false:=by rfl)
  (hf:Z.X.fn x=true∨Z.X.env.scope.names.lookup x=some .local:=by first|exact .inl rfl|exact .inr rfl):WS Z ρ O (.Assign [.Name x pos'] e pos) Ψ:=
 PS.weak (Gj hN hi hx h hs hf) fun D σ H q=> ⟨q.1,fun v H' t O' p f r=>q.2.nx _ O' _ H' p ⟨(q.1.step f).rl.set r,(q.1.step f).fr⟩ f.kp⟩
theorem ZW(i:Nat){pos':Pos}(ho:fW Z.X op ti)(hρ:ρ[i]?=some (some ta))(h:WE Z ρ O e fun tb O1=>RT Z.K ti ta tb O1 fun t O2=>Ψ.nx (ρ.set i (some t)) O2)(hN:Z.X.N.Nodup)(hi:Z.X.N[i]?=some x:=by rfl)(hx:IF Z.X.env.scope x:=by first|exact nv rfl|exact nW rfl)
  (hf:Z.X.fn x=true∨Z.X.env.scope.names.lookup x=some .local:=by first|exact .inl rfl|exact .inr rfl):WS Z ρ O (.AugAssign (.Name x pos') op e pos) Ψ:=
 PS.weak (YZ hN hi hx h ho hf) fun D σ H q=>by
  obtain⟨v,e1,r1⟩:=q.1.rl.2 i _ hρ
  exact⟨v,e1,q.1,fun w H1 tb O1 p f r=>p H1 v w _ f.ok (r1.kp f.kp q.1.ok) r fun z H2 t O2 p2 f2 r2=>q.2.nx _ O2 _ H2 p2 ⟨(q.1.step (f.trans f2)).rl.set r2,(q.1.step (f.trans f2)).fr⟩ (f.trans f2).kp⟩
theorem Xp(h:WT Z ρ O c fun k O1=>if k=true then FY Z ρ O1 ea Ψ else FY Z ρ O1 eb Ψ):WS Z ρ O (.If c ea eb pos) Ψ:=
 PS.weak (KZ h LO LO) fun D σ H q=> ⟨q.1,fun k H1 O1 p f=>by
  cases k with
  |true=>rw[if_pos rfl] at p ⊢;exact⟨ρ,O1,Ψ,p,q.1.step f,q.2.step f.kp⟩
  |false=>rw[if_neg e8] at p ⊢;exact⟨ρ,O1,Ψ,p,q.1.step f,q.2.step f.kp⟩⟩
theorem AS(hc:EB Z ρ O c k)(h1:k=true→FY Z ρ O ea Ψ)(h2:k=false→FY Z ρ O eb Ψ):WS Z ρ O (.If c ea eb pos) Ψ:=Xp (hc _ (by
 cases k with
 |true=>rw[if_pos rfl];exact h1 rfl
 |false=>rw[if_neg e8];exact h2 rfl))
noncomputable def tG(Z:Zx)(n:Nat)(ρ:List (Option T))(O:AO)(t:T)(ρ':List (Option T)):TG:=fun v σ H Q=>Asr Z ρ O σ H∧Rep Z.K O H v t∧∀σ',Asr Z ρ' O σ' H→(σ'.length=σ.length∧∀j,n≤j→σ'[j]?=σ[j]?)→Q σ' H
noncomputable def WG(Z:Zx)(n:Nat)(ρ:List (Option T))(O:AO)(tg:Expr)(t:T)(ρ':List (Option T)):Prop:=PG Z.X tg (tG Z n ρ O t ρ')
theorem PG.weak{t:TG}(h:PG X e t)(w:∀v σ H Q,t' v σ H Q→t v σ H Q):PG X e t':=fun pins s σ H v u Q I r q=>h pins s σ H v u Q I r (w v σ H Q q)
noncomputable def jE(Z:Zx)(n:Nat)(tg:Expr):TG:=fun v σ H Q=>∃ρ O t ρ',WG Z n ρ O tg t ρ'∧tG Z n ρ O t ρ' v σ H Q
theorem cY:PG Z.X tg (jE Z n tg):=fun pins s σ H v u Q I r ⟨_,_,_,_,w,q⟩=>w pins s σ H v u Q I r q
theorem AK(i:Nat)(hN:Z.X.N.Nodup)(hn:i<n)(hi:Z.X.N[i]?=some x:=by rfl)(hx:IF Z.X.env.scope x:=by first|exact nv rfl|exact nW rfl)
  (hf:Z.X.fn x=true∨Z.X.env.scope.names.lookup x=some .local:=by first|exact .inl rfl|exact .inr rfl):WG Z n ρ O (.Name x pos) t (ρ.set i (some t)):=
 PG.weak (CU hN hi hx hf) fun v σ H Q q=>q.2.2 _ ⟨q.1.rl.set q.2.1,q.1.fr⟩ ⟨by simp,fun j hj=>by rw[j7 (by omega)]⟩
theorem GZ(i j:Nat){y:Str}{p1 p2:Pos}{k:Nat}(hc:Z.X.calm=true)(hN:Z.X.N.Nodup)(hni:i<n)(hnj:j<n)(hi:Z.X.N[i]?=some x:=by rfl)(hj:Z.X.N[j]?=some y:=by rfl)(hx:IF Z.X.env.scope x:=by first|exact nv rfl|exact nW rfl)(hy:IF Z.X.env.scope y:=by first|exact nv rfl|exact nW rfl)
  (hf:Z.X.fn x=true∨Z.X.env.scope.names.lookup x=some .local:=by first|exact .inl rfl|exact .inr rfl) (hf2:Z.X.fn y=true∨Z.X.env.scope.names.lookup y=some .local:=by first|exact .inl rfl|exact .inr rfl)
  (hs:(kU [.Name x p1,.Name y p2] Z.X.env).map (·.2)=assign (.Name x p1) Z.X.env::(kU [.Name y p2] Z.X.env).map (·.2):=by rfl) (hs2:(kU [.Name y p2] Z.X.env).map (·.2)=assign (.Name y p2) Z.X.env::(kU [] Z.X.env).map (·.2):=by rfl)
  (hl:(kU [.Name x p1,.Name y p2] Z.X.env).length=2:=by rfl) (hst:(kU [.Name x p1,.Name y p2] Z.X.env).findIdx? (·.1)=none:=by rfl):
  WG Z n ρ O (.Tuple [.Name x p1,.Name y p2] k pos) (.tup [ta,tb]) ((ρ.set i (some ta)).set j (some tb)):=
 PG.weak (Qv hc (CD (CU hN hi hx hf) (CD (CU hN hj hy hf2) JK hs2) hs) hl hst) fun v σ H Q q=>by
  obtain⟨q1,q2,q3⟩:=q
  obtain⟨a,xs,rfl,h1,r⟩:=q2.tup_inv
  obtain⟨v,w,rfl,r1,r2⟩:=r.two_inv
  exact⟨a,_,rfl,.inl (.inl h1),rfl,v,_,rfl,w,_,rfl,rfl,q3 _ ⟨(q1.rl.set r1).set r2,q1.fr⟩ ⟨by simp,fun m hm=>by rw[j7 (by omega),j7 (by omega)]⟩⟩
theorem ZX(h:WE Z ρ O e fun t O'=>∃ρ',WG Z n ρ O' tg t ρ'∧Ψ.nx ρ' O')(hs:qo [tg] e pos.line Z.X.env=pure false:=by rfl)(hw:qp [tg] e Z.X.env=pure none:=by rfl)
  (h1:(kU [tg] Z.X.env).map (·.2)=[assign tg Z.X.env]:=by rfl):WS Z ρ O (.Assign [tg] e pos) Ψ:=
 PS.weak (Qw h (cY (n:=n)) hs hw h1) fun D σ H q=> ⟨q.1,fun v H' t O' ⟨ρ',wg,p⟩ f r=> ⟨ρ,O',t,ρ',wg,q.1.step f,r,fun σ' a _=>q.2.nx _ O' _ H' p a f.kp⟩⟩
theorem Fq(h:WE Z ρ O e fun t O1=>WE Z ρ O1 o fun u O2=>∃a,u=.raw (.ref a)∧WE Z ρ O2 ix fun w O3=>∃ts k m,w=.int k∧O3 a=some ts∧RM ts.length k=some m∧Ψ.nx ρ (Am O3 a (ts.set m t)))
  (ha:∀v,assign (.Subscript o ix px) Z.X.env v=(do
   let ov←holding [v] (eval o Z.X.env)
   let iv←holding [v,ov] (eval ix Z.X.env)
   standAt px
   holding [v,ov,iv] (setItem ov iv v)
   release [v,ov,iv] []):=by intro _;rfl)
  (hs:qo [.Subscript o ix px] e pos.line Z.X.env=pure false:=by rfl) (hw:qp [.Subscript o ix px] e Z.X.env=pure none:=by rfl)
  (h1:(kU [.Subscript o ix px] Z.X.env).map (·.2)=[assign (.Subscript o ix px) Z.X.env]:=by rfl):WS Z ρ O (.Assign [.Subscript o ix px] e pos) Ψ:=by
 refine PS.weak (Qw h (YX (Bd (ρ:=ρ)) (Bd (ρ:=ρ)) RN ha) hs hw h1) fun D σ H q=> ⟨q.1,fun v H1 t O1 p1 f1 r1=>?_⟩
 refine⟨O1,_,p1,q.1.step f1,?_⟩
 rintro vo H2 _ O2 ⟨a,rfl,p2⟩ f2 r2
 refine⟨O2,_,p2,q.1.step (f1.trans f2),?_⟩
 rintro vi H3 _ O3 ⟨ts,k,m,rfl,ho,hm,p3⟩ f3 r3
 cases r2.raw_inv
 obtain⟨xs,hx,rx⟩:=f3.ok a ts ho
 have r1':=(r1.kp f2.kp f1.ok).kp f3.kp f2.ok
 have f:=f1.trans (f2.trans (f3.trans (Frm.put f3.ok ho (rx.set r1' m))))
 exact⟨a,xs,k,m,rfl,r3.int_inv,hx,by rw[rx.length];exact hm,q.2.nx ρ _ σ _ p3 (q.1.step f) f.kp⟩
noncomputable def Mz(K:a8)(J:It)(O:AO)(H:Hp)(ts:List T):Prop:=∀O' H',Kp O H O' H'→OwnOk K O' H'→
 (∀i,i<ts.length→J.go i H')∧(∀i x H'',J.yld i H' x H''→∀t,ts[i]?=some t→Frm K O' H' O' H''∧Rep K O' H'' x t)∧∀i,ts.length≤i→J.stop i H'
noncomputable def WI(Z:Zx)(ρ:List (Option T))(O:AO)(tg iter:Expr)(Φ:Mt):Prop:=PI Z.X tg iter fun σ H R=>Asr Z ρ O σ H∧∀J H' ts O',Φ ts O'→Frm Z.K O H O' H'→Mz Z.K J O' H' ts→R J H'
theorem PI.weak{t:TI}(h:PI X tg e t)(w:∀σ H R,t' σ H R→t σ H R):PI X tg e t':=fun pins s σ H R I q=>h pins s σ H R I (w σ H R q)
theorem QF{K:a8}{a:Addr}(ok:OwnOk K O H)(h:H a=some (.lst xs))(n:O a=none)(r:Reps K O H xs ts):Mz K (fg K a) O H ts:=fun O' H' k ok'=>by
 have h':=(k.lst h n).1
 have r':=r.kp k ok
 refine⟨fun i hi=>?_,fun i x H'' y t e=>?_,fun i hi=> ⟨xs,.inl (.inl h'),by rw[r.length];exact hi⟩⟩
 ·obtain⟨v,e,_⟩:=r'.get (i:=i) (t:=ts[i]) (by simp[hi])
  exact⟨xs,v,.inl (.inl h'),e⟩
 ·obtain⟨rfl,y⟩:=y
  obtain⟨v,e',q⟩:=r'.get e
  have:=y xs (.inl (.inl h'))
  rw[e'] at this;cases this
  exact⟨.refl ok',q⟩
theorem SK{K:a8}{a:Addr}(ok:OwnOk K O H)(h:H a=some (.tup xs))(r:Reps K O H xs ts):Mz K (fA K a) O H ts:=fun O' H' k ok'=>by
 have h':GG K H' a xs:=.inl (.inl (k.oth ok h fun _ z=>by cases z))
 have r':=r.kp k ok
 refine⟨fun i hi=>?_,fun i x H'' y t e=>?_,fun i hi=> ⟨xs,h',by rw[r.length];exact hi⟩⟩
 ·obtain⟨v,e,_⟩:=r'.get (i:=i) (t:=ts[i]) (by simp[hi])
  exact⟨xs,v,h',e⟩
 ·obtain⟨rfl,y⟩:=y
  obtain⟨v,e',q⟩:=r'.get e
  have:=y xs h'
  rw[e'] at this;cases this
  exact⟨.refl ok',q⟩
noncomputable def Jh(lo:Int)(n:Nat):List T:=(jr n).map fun(i:Nat)=>T.int (lo+i)
theorem Ar{lo:Int}:(Jh lo n).length=n:=by simp[Jh]
theorem Br{lo:Int}(h:(Jh lo n)[i]?=some t):i<n∧t=.int (lo+i):=by
 unfold Jh at h
 rw[i6] at h
 by_cases hi:i<n
 ·rw[pq hi] at h
  cases h
  exact⟨hi,rfl⟩
 ·rw[mn (by simpa using hi)] at h
  cases h
theorem LP{K:a8}{lo:Int}:Mz K (ba lo n) O H (Jh lo n):=fun O' H' k ok'=>by
 refine⟨fun i hi=>by rwa[Ar] at hi,fun i x H'' y t e=>?_,fun i hi=>by rwa[Ar] at hi⟩
 obtain⟨rfl,rfl⟩:=y
 obtain⟨_,rfl⟩:=Br e
 exact⟨.refl ok',.int _⟩
theorem OU(h:WE Z ρ O e fun t O'=>∃ts,t=.lst ts∧Φ ts O'):WI Z ρ O tg e Φ:=PI.weak (Ux h) fun σ H R q=> ⟨q.1,by
 rintro v H' _ O' ⟨ts,rfl,p⟩ f r
 obtain⟨a,xs,rfl,h1,n,r⟩:=r.lst_inv
 exact⟨a,rfl,⟨xs,.inl (.inl h1)⟩,q.2 _ H' ts O' p f (QF f.ok h1 n r)⟩⟩
theorem ZY(h:WE Z ρ O e fun t O'=>∃ts,t=.tup ts∧Φ ts O'):WI Z ρ O tg e Φ:=PI.weak (Qz h) fun σ H R q=> ⟨q.1,by
 rintro v H' _ O' ⟨ts,rfl,p⟩ f r
 obtain⟨a,xs,rfl,h1,r⟩:=r.tup_inv
 exact⟨a,rfl,⟨xs,.inl (.inl h1)⟩,q.2 _ H' ts O' p f (SK f.ok h1 r)⟩⟩
theorem QG{tg:Expr}(hm:Z.X.mg "range" =none)(h:WA Z ρ O [a] fun ts O'=>∃j:Int,ts=[.int j]∧-(2^62)≤j∧j<2^62∧Φ (Jh 0 j.toNat) O')(hg:Gl Z.X "range":=by rfl)(hs:i5 [a] Z.X.env=[(false,eval a Z.X.env)]:=by rfl):WI Z ρ O tg (.Call (.Name "range" p) [a] [] pos) Φ:=
 PI.weak (Pb hg hm h hs) fun σ H R q=> ⟨q.1,by
  rintro vs H' _ O' ⟨j,rfl,h1,h2,p⟩ f r
  obtain⟨v,rfl,r'⟩:=r.one_inv
  exact⟨j,by rw[r'.int_inv],h1,h2,q.2 _ H' _ O' p f LP⟩⟩
theorem QH{tg:Expr}(hm:Z.X.mg "range" =none)(h:WA Z ρ O [a,b] fun ts O'=>∃i j:Int,ts=[.int i,.int j]∧(-(2^62)≤i∧i<2^62∧-(2^62)≤j∧j<2^62)∧Φ (Jh i (j-i).toNat) O')(hg:Gl Z.X "range":=by rfl)(hs:i5 [a,b] Z.X.env=[(false,eval a Z.X.env),(false,eval b Z.X.env)]:=by rfl)(hs2:i5 [b] Z.X.env=[(false,eval b Z.X.env)]:=by rfl):WI Z ρ O tg (.Call (.Name "range" p) [a,b] [] pos) Φ:=
 PI.weak (Pc hg hm h hs hs2) fun σ H R q=> ⟨q.1,by
  rintro vs H' _ O' ⟨i,j,rfl,h1,p⟩ f r
  obtain⟨v,w,rfl,r1,r2⟩:=r.two_inv
  exact⟨i,j,by rw[r1.int_inv,r2.int_inv],h1,q.2 _ H' _ O' p f LP⟩⟩
noncomputable def EI(Z:Zx)(ρ:List (Option T))(O:AO)(tg iter:Expr)(ts:List T):Prop:=∀Φ:Mt,Φ ts O→WI Z ρ O tg iter Φ
theorem BN(h:ET Z ρ O e (.lst ts)):EI Z ρ O tg e ts:=fun Φ p=>OU (h _ ⟨ts,rfl,p⟩)
theorem DU(h:ET Z ρ O e (.tup ts)):EI Z ρ O tg e ts:=fun Φ p=>ZY (h _ ⟨ts,rfl,p⟩)
theorem Ad{tg:Expr}(hm:Z.X.mg "range" =none)(h:ET Z ρ O a (.int k))(h1: -(2^62)≤k∧k<2^62)(hg:Gl Z.X "range":=by rfl)(hs:i5 [a] Z.X.env=[(false,eval a Z.X.env)]:=by rfl):EI Z ρ O tg (.Call (.Name "range" p) [a] [] pos) (Jh 0 k.toNat):=fun Φ q=>QG hm (AX h AD hs _ ⟨k,rfl,h1.1,h1.2,q⟩) hg hs
theorem Bf{tg:Expr}(hm:Z.X.mg "range" =none)(h:ET Z ρ O a (.int k))(h2:ET Z ρ O b (.int l))(h1: -(2^62)≤k∧k<2^62∧-(2^62)≤l∧l<2^62)(hg:Gl Z.X "range":=by rfl)(hs:i5 [a,b] Z.X.env=[(false,eval a Z.X.env),(false,eval b Z.X.env)]:=by rfl)(hs2:i5 [b] Z.X.env=[(false,eval b Z.X.env)]:=by rfl):EI Z ρ O tg (.Call (.Name "range" p) [a,b] [] pos) (Jh k (l-k).toNat):=
 fun Φ q=>QH hm (AX h (AX h2 AD hs2) (by rw[hs,hs2]) _ ⟨k,l,rfl,h1,q⟩) hg hs hs2
theorem BQ(hp:qh (model Z.X.prog Z.X.w) Z.X.A Z.X.env Z.X.xe)(hc:Z.X.calm=true)
  (h:WI Z ρ O tg iter fun ts O1=>∃I:Nat→QE,I 0 ρ O1∧(∀i t ρ' O',ts[i]?=some t→I i ρ' O'→∃ρ2,WG Z Z.X.N.length ρ' O' tg t ρ2∧FY Z ρ2 O' body {nx:=I (i+1),rt:=Ψ.rt,bk:=Ψ.nx,ct:=I (i+1)})∧∀ρ' O',I ts.length ρ' O'→Ψ.nx ρ' O')
  (hs:∀x,lW iter Z.X.env x=pure x:=by intro _;rfl):WS Z ρ O (.For tg iter body [] pos) Ψ:=by
 refine PS.weak (Yd hp hc h (cY (n:=Z.X.N.length)) LO hs) fun D σ H q=> ⟨q.1,?_⟩
 rintro J H1 ts O1 ⟨I,i0,step,fin⟩ f1 it
 refine⟨fun i m σ' H'=>m=ts.length-i∧i≤ts.length∧∃ρ' O',I i ρ' O'∧Asr Z ρ' O' σ' H'∧Kp O1 H1 O' H',⟨ts.length,by simp,kZ _,ρ,O1,i0,q.1.step f1,.refl⟩,?_⟩
 rintro i m σ2 H2 ⟨rfl,hi,ρ2,O2,i2,a2,k2⟩
 obtain⟨g1,g2,g3⟩:=it O2 H2 k2 a2.ok
 by_cases hlt:i<ts.length
 ·refine .inr ⟨g1 i hlt,fun σ' H'=>∃ρ' O',I (i+1) ρ' O'∧Asr Z ρ' O' σ' H'∧Kp O1 H1 O' H',fun σ' H' w=> ⟨_,by omega,rfl,by omega,w⟩,fun x H3 y=>?_⟩
  obtain⟨f3,r3⟩:=g2 i x H3 y ts[i] (by simp[hlt])
  obtain⟨ρ3,wg,wb⟩:=step i ts[i] ρ2 O2 (by simp[hlt]) i2
  refine⟨ρ2,O2,_,ρ3,wg,a2.step f3,r3,fun σ3 a3 _=> ⟨ρ3,O2,_,wb,a3,?_⟩⟩
  have kk:=(k2.trans f3.kp)
  exact⟨fun ρ' O' σ' H' w a k=> ⟨ρ',O',w,a,kk.trans k⟩,q.2.rt,fun ρ' O' σ' H' w a k=>q.2.nx ρ' O' σ' H' w a (f1.kp.trans (kk.trans k)),fun ρ' O' σ' H' w a k=> ⟨ρ',O',w,a,kk.trans k⟩⟩
 ·have:i=ts.length:=by omega
  subst this
  exact .inl ⟨g3 _ (jm _),q.2.nx ρ2 O2 σ2 H2 (fin ρ2 O2 i2) a2 (f1.kp.trans k2)⟩
end
noncomputable def zc(X:Cx)(Oe:AO)(He:Hp):Zx:=⟨X,Oe,He,fun _ _=>False⟩
noncomputable def GS(nc:List Str)(ρ:List (Option T))(cap:List (Str×Nat)):List (Option T):=j0 nc.length none++cap.map fun q=> (ρ[q.2]?).join
noncomputable def fH(Z:Zx)(ρ:List (Option T))(O:AO)(ifs:List Expr)(Φ:Jd):Prop:=ZA Z.X ifs (bJ Z ρ O Φ)
theorem Al(h:O p=none):Dn (Am O p ts) p=O:=by
 funext b
 by_cases hb:b=p
 ·rw[hb,DR,h]
 ·rw[FB hb,Ai hb]
theorem FF(h:a≠p):Am (Am O p ts) a us=Am (Am O a us) p ts:=by
 funext b
 unfold Am
 by_cases h1:b=a
 ·subst h1;rw[if_pos rfl,if_neg h,if_pos rfl]
 ·rw[if_neg h1,if_neg h1]
section
variable {Z:Zx} {ρ:List (Option T)} {O:AO} {elt tg iter:Expr} {ifs:List Expr} {csc:Scope} {nc:List Str} {cap:List (Str×Nat)}
theorem Ji(h:Φ true O):fH Z ρ O [] Φ:=fun pins s σ H Q I q=>VO pins s σ H Q I (q.2 true H O h q.1.refl)
theorem OV(h:WT Z ρ O c Φ):fH Z ρ O [c] Φ:=VP h
theorem cZ{K:a8}(r:Rl K O H σ ρ):Rl K O H (II nc σ cap) (GS nc ρ cap):=by
 refine⟨by simp[Ci,GS],fun i t e=>?_⟩
 unfold GS at e
 have hi:nc.length≤i:=by
  by_cases hi:i<nc.length
  ·rw[kX (by simpa using hi),mx] at e
   split at e<;>cases e
  ·omega
 rw[ku (by simpa using hi),i6] at e
 simp only[ml] at e
 cases hc:cap[i-nc.length]? with
 |none=>rw[hc] at e;cases e
 |some q=>
  rw[hc] at e
  have e:(ρ[q.2]?).join=some t:=lu.inj e
  have e':ρ[q.2]?=some (some t):=by
   cases h:ρ[q.2]? with
   |none=>rw[h] at e;cases e
   |some w=>rw[h] at e;exact congrArg some e
  obtain⟨v,h1,h2⟩:=r.2 q.2 t e'
  refine⟨v,?_,h2⟩
  show(j0 nc.length (none:Option V)++Ci σ cap)[i]?=some (some v)
  rw[ku (by simpa using hi)]
  simp only[ml]
  unfold Ci
  rw[i6,hc]
  show some (σ[q.2]?).join=_
  rw[h1]
  rfl
theorem Jj(hK:X'.K=X.K)(a:Asr ⟨X,Oe,He,Xi⟩ ρ O σ H):Asr ⟨X',Oe,He,Xi'⟩ ρ O σ H:=by
 obtain⟨r,f⟩:=a
 refine⟨?_,?_⟩
 ·show Rl X'.K O H σ ρ
  rw[hK];exact r
 ·show Frm X'.K Oe He O H
  rw[hK];exact f
noncomputable def gA(Z:Zx)(csc:Scope)(nc:List Str)(cap:List (Str×Nat))(tg:Expr):TG:=fun v σ H Q=>∃Oe He ρ O t ρ',(∀X',LcCx Z.X csc (Ah nc cap) X'→WG (zc X' Oe He) nc.length ρ O tg t ρ')∧tG (zc Z.X Oe He) nc.length ρ O t ρ' v σ H Q
noncomputable def gP(Z:Zx)(csc:Scope)(nc:List Str)(cap:List (Str×Nat))(ifs:List Expr):TT:=fun σ H Q=>∃Oe He ρ O Φ,(∀X',LcCx Z.X csc (Ah nc cap) X'→fH (zc X' Oe He) ρ O ifs Φ)∧bJ (zc Z.X Oe He) ρ O Φ σ H Q
noncomputable def eA(Z:Zx)(csc:Scope)(nc:List Str)(cap:List (Str×Nat))(e:Expr):TE:=fun σ H Q=>∃Oe He ρ O Φ,(∀X',LcCx Z.X csc (Ah nc cap) X'→WE (zc X' Oe He) ρ O e Φ)∧tW (zc Z.X Oe He) ρ O Φ σ H Q
theorem ZZ(h:LcCx X csc N' X'):X'.K=X.K:=by
 obtain⟨_,_,_,_,rfl⟩:=h
 rfl
theorem Za:∀X',LcCx Z.X csc (Ah nc cap) X'→PG X' tg (gA Z csc nc cap tg):=by
 rintro X' is pins s σ H v u Q I r ⟨Oe,He,ρ,O,t,ρ',w,a,rp,k⟩
 refine w X' is pins s σ H v u Q I r ⟨Jj (ZZ is) a,?_,fun σ' a' h=>k σ' (Jj (ZZ is).symm a') h⟩
 show Rep X'.K O H v t
 rw[ZZ is];exact rp
theorem SL:∀X',LcCx Z.X csc (Ah nc cap) X'→ZA X' ifs (gP Z csc nc cap ifs):=by
 rintro X' is pins s σ H Q I ⟨Oe,He,ρ,O,Φ,w,a,k⟩
 refine w X' is pins s σ H Q I ⟨Jj (ZZ is) a,?_⟩
 intro b H' O' p f
 refine k b H' O' p ?_
 have f:Frm X'.K O H O' H':=f
 rw[ZZ is] at f;exact f
theorem Zb:∀X',LcCx Z.X csc (Ah nc cap) X'→PE X' elt (eA Z csc nc cap elt):=by
 rintro X' is pins s σ H Q I ⟨Oe,He,ρ,O,Φ,w,a,k⟩
 refine w X' is pins s σ H Q I ⟨Jj (ZZ is) a,?_⟩
 intro v H' t O' p f r
 have f:Frm X'.K O H O' H':=f
 have r:Rep X'.K O' H' v t:=r
 rw[ZZ is] at f r
 exact k v H' t O' p f r
noncomputable def Up(Z:Zx)(ρ:List (Option T))(elt tg:Expr)(ifs:List Expr)(csc:Scope)(nc:List Str)(cap:List (Str×Nat))(F:List T→AO→Prop)(ts:List T)(O1:AO):Prop:=
 ∃I:Nat→List T→AO→Prop,I 0 [] O1∧(∀i t acc O' p,ts[i]?=some t→I i acc O'→O' p=none→∃ρ4,∀X' Oe He,LcCx Z.X csc (Ah nc cap) X'→WG (zc X' Oe He) nc.length (GS nc ρ cap) (Am O' p acc) tg t ρ4∧
   fH (zc X' Oe He) ρ4 (Am O' p acc) ifs fun b O2=>if b=true then∀X' Oe He,LcCx Z.X csc (Ah nc cap) X'→WE (zc X' Oe He) ρ4 O2 elt fun y O3=>∃O4,O3=Am O4 p acc∧O4 p=none∧acc.length<sizeLine∧I (i+1) (acc++[y]) O4
    else∃O4,O2=Am O4 p acc∧O4 p=none∧I (i+1) acc O4)∧∀acc O',I ts.length acc O'→F acc O'
theorem SM(a:Asr Z ρ O σ H)(h:WI Z ρ O tg iter (Up Z ρ elt tg ifs csc nc cap F))
  (fin:∀acc O' p H',F acc O'→O' p=none→Frm Z.K O H (Am O' p acc) H'→(∀b us,O b=some us→b≠p)→Q (.ref p) H'):
  fF (fun σ H R=>Asr Z ρ O σ H∧∀J H' ts O',Up Z ρ elt tg ifs csc nc cap F ts O'→Frm Z.K O H O' H'→Mz Z.K J O' H' ts→R J H') nc cap (gA Z csc nc cap tg) (gP Z csc nc cap ifs) (eA Z csc nc cap elt) σ H Q:=by
 refine⟨a,?_⟩
 rintro J H1 ts O1 ⟨I,i0,step,done⟩ f1 it p hp
 have np:O1 p=none:=f1.ok.none_of hp
 have nb:∀b us,O1 b=some us→b≠p:=fun b us e z=>by rw[z,np] at e;cases e
 have fn:=Frm.newO (ts:=[]) (xs:=[]) f1.ok hp .nil
 refine⟨fun i m H2=>m=ts.length-i∧i≤ts.length∧∃acc O',I i acc O'∧O' p=none∧Frm Z.K O1 H1 (Am O' p acc) H2,⟨ts.length,by simp,kZ _,[],O1,i0,np,fn⟩,?_⟩
 rintro i m H2 ⟨rfl,hi,acc,O2,i2,n2,f2⟩
 obtain⟨g1,g2,g3⟩:=it _ H2 f2.kp f2.ok
 by_cases hlt:i<ts.length
 ·refine .inr ⟨g1 i hlt,fun H'=>∃acc O',I (i+1) acc O'∧O' p=none∧Frm Z.K O1 H1 (Am O' p acc) H',fun H' w=> ⟨_,by omega,rfl,by omega,w⟩,fun x H3 y=>?_⟩
  obtain⟨f3,r3⟩:=g2 i x H3 y ts[i] (by simp[hlt])
  obtain⟨ρ4,st⟩:=step i ts[i] acc O2 p (by simp[hlt]) i2 n2
  have a3:Asr (zc Z.X (Am O2 p acc) H3) (GS nc ρ cap) (Am O2 p acc) (II nc σ cap) H3:=⟨cZ ((a.rl.kp f1.kp a.ok).kp (f2.kp.trans f3.kp) f1.ok),.refl f3.ok⟩
  refine⟨Am O2 p acc,H3,GS nc ρ cap,Am O2 p acc,ts[i],ρ4,fun X' is=> (st X' _ _ is).1,a3,r3,fun σ4 a4 hag=> ⟨?_,?_⟩⟩
  ·refine⟨σ4.take nc.length,?_,?_⟩
   ·rw[kH,hag.1]
    simp
   ·have e1:σ4.drop nc.length=Ci σ cap:=by
     apply lN
     intro m
     rw[mY,hag.2 _ (by omega)]
     show(j0 nc.length (none:Option V)++Ci σ cap)[nc.length+m]?=_
     rw[ku (by simp)]
     simp
    rw[←e1,mU]
  ·refine⟨Am O2 p acc,H3,ρ4,Am O2 p acc,_,fun X' is=> (st X' _ _ is).2,a4,?_⟩
   intro b H5 O5 q5 f5
   cases b with
   |false=>
    rw[if_neg e8] at q5 ⊢
    obtain⟨O4,rfl,n4,i4⟩:=q5
    exact⟨acc,O4,i4,n4,f2.trans (f3.trans f5)⟩
   |true=>
    rw[if_pos rfl] at q5 ⊢
    refine⟨Am O2 p acc,H3,ρ4,O5,_,fun X' is=>q5 X' _ _ is,a4.step f5,?_⟩
    rintro y H6 t6 O6 ⟨O4,rfl,n4,hlen,i4⟩ f6 r6
    obtain⟨ys,hys,rys⟩:=f6.ok p acc AE
    refine⟨ys,hys,by rw[rys.length];exact hlen,acc++[t6],O4,i4,n4,?_⟩
    have fp:=Frm.put (a:=p) f6.ok AE (rys.append (.one r6))
    rw[Aq] at fp
    exact f2.trans (f3.trans (f5.trans (f6.trans fp)))
 ·have:i=ts.length:=by omega
  subst this
  refine .inl ⟨g3 _ (jm _),fin acc O2 p H2 (done acc O2 i2) n2 (f1.trans f2) fun b us e=>?_⟩
  obtain⟨us',e'⟩:=f1.own b us e
  exact nb b us' e'
theorem Xq(h:WI Z ρ O tg iter (Up Z ρ elt tg ifs csc nc cap fun acc O'=>Φ (.lst acc) O'))(q:tW Z ρ O Φ σ H Q):
  fF (fun σ H R=>Asr Z ρ O σ H∧∀J H' ts O',Up Z ρ elt tg ifs csc nc cap (fun acc O'=>Φ (.lst acc) O') ts O'→Frm Z.K O H O' H'→Mz Z.K J O' H' ts→R J H') nc cap (gA Z csc nc cap tg) (gP Z csc nc cap ifs) (eA Z csc nc cap elt) σ H Q:=by
 refine SM q.1 h fun acc O' p H' p1 n f nb=>q.2 _ H' _ O' p1 ?_ ?_
 ·have e:=Al (ts:=acc) n
  refine⟨fun b o e1 e2=>?_,fun b us e1=>?_,?_⟩
  ·have:=f.kp.trans (EH (a:=p)) b o e1 e2
   rw[e] at this;exact this
  ·obtain⟨us',e2⟩:=f.own b us e1
   rw[Ai (nb b us e1)] at e2
   exact⟨us',e2⟩
  ·have:=f.ok.drop (a:=p)
   rw[e] at this;exact this
 ·have:=f.ok.rep (a:=p) AE
  rw[Al n] at this
  exact this
theorem SN(hc:Z.X.calm=true)(ok:LcOk Z.X csc nc cap)(h:WI Z ρ O tg iter (Up Z ρ elt tg ifs csc nc cap fun acc O'=>Φ (.lst acc) O'))
  (hs:∀x,lW iter Z.X.env x=pure x:=by intro _;rfl):WE Z ρ O (.ListComp elt [⟨tg,iter,ifs,0⟩] csc pos) Φ:=
 PE.weak (cJ hc ok h Za SL Zb hs) fun σ H Q q=>Xq h q
theorem FG{spos:Pos}{Ψ:Es}(hsw:pe (.ListComp elt [⟨tg,iter,ifs,0⟩] csc pos) (some (.Name x px)) spos.line Z.X.env=pure true)(hN:Z.X.N.Nodup)(hc:Z.X.calm=true)(ok:LcOk Z.X csc nc cap)
  (h:WI Z ρ O tg iter (Up Z ρ elt tg ifs csc nc cap fun acc O'=>Ψ.nx (ρ.set i (some (.lst acc))) O')) (hx:Z.X.N[i]?=some x:=by rfl) (hk:Z.X.env.scope.names.lookup x=some .local:=by rfl)
  (hs:∀x,lW iter Z.X.env x=pure x:=by intro _;rfl):WS Z ρ O (.Assign [.Name x px] (.ListComp elt [⟨tg,iter,ifs,0⟩] csc pos) spos) Ψ:=
 PS.weak (Ki hN hx hk hsw hc ok h Za SL Zb hs) fun D σ H q=>Xq (Φ:=fun t O'=>Ψ.nx (ρ.set i (some t)) O') h ⟨q.1,fun v H' t O' p f r=>q.2.nx _ O' _ H' p ⟨(q.1.step f).rl.set r,(q.1.step f).fr⟩ f.kp⟩
end
noncomputable def gQ:T→String
 | .non=> "NoneType" | .bl _=> "bool" | .int _=> "int" | .str _=> "str" | .tup _=> "tuple" | .lst _=> "list" | .frz _=> "list" | .dct=> "dict" | .raw _=> "object"
noncomputable def DF:T→Bool
 | .raw _=>true
 |_=>false
noncomputable def SO:T→Bool
 | .int _=>true
 | .bl _=>true
 |_=>false
noncomputable def NA:T→Bool
 | .bl _=>true
 |_=>false
noncomputable def LQ:T→Bool
 | .tup _=>true
 |_=>false
noncomputable def NB(K:a8)(c:String)(g:T→Bool):Prop:=∀t,DF t=false→js K (.type (gQ t)) (.type c)=some (g t)
section
variable {K:a8}
theorem Rep.ty(r:Rep K O H v t)(hp:DF t=false):TyOf K H v (.type (gQ t)):=by
 cases r with
 |non=>exact .non
 |bl b=>exact .bl b
 |int i=>exact .int i
 |str i=>exact .str i
 |tup h=>exact .tup h
 |lst h=>exact .lst h
 |frz h=>exact .frz h
 |dct h=>exact .dK h
 |raw v=>cases hp
theorem jF(K:a8):js K (.type "NoneType") (.type "int")=some false:=by kernel_rfl
theorem jG(K:a8):js K (.type "bool") (.type "int")=some true:=by kernel_rfl
theorem jH(K:a8):js K (.type "int") (.type "int")=some true:=by rfl
theorem jI(K:a8):js K (.type "str") (.type "int")=some false:=by kernel_rfl
theorem jJ(K:a8):js K (.type "tuple") (.type "int")=some false:=by kernel_rfl
theorem iR(K:a8):js K (.type "list") (.type "int")=some false:=by kernel_rfl
theorem jK(K:a8):js K (.type "dict") (.type "int")=some false:=by kernel_rfl
theorem OW:NB K "int" SO:=fun t h=>by
 cases t with
 |non=>exact jF K
 |bl b=>exact jG K
 |int i=>exact jH K
 |str i=>exact jI K
 |tup i=>exact jJ K
 |lst i=>exact iR K
 |frz i=>exact iR K
 |dct=>exact jK K
 |raw v=>cases h
theorem jL(K:a8):js K (.type "NoneType") (.type "bool")=some false:=by kernel_rfl
theorem jM(K:a8):js K (.type "bool") (.type "bool")=some true:=by rfl
theorem jN(K:a8):js K (.type "int") (.type "bool")=some false:=by kernel_rfl
theorem jO(K:a8):js K (.type "str") (.type "bool")=some false:=by kernel_rfl
theorem jP(K:a8):js K (.type "tuple") (.type "bool")=some false:=by kernel_rfl
theorem iS(K:a8):js K (.type "list") (.type "bool")=some false:=by kernel_rfl
theorem jQ(K:a8):js K (.type "dict") (.type "bool")=some false:=by kernel_rfl
theorem LR:NB K "bool" NA:=fun t h=>by
 cases t with
 |non=>exact jL K
 |bl b=>exact jM K
 |int i=>exact jN K
 |str i=>exact jO K
 |tup i=>exact jP K
 |lst i=>exact iS K
 |frz i=>exact iS K
 |dct=>exact jQ K
 |raw v=>cases h
theorem jR(K:a8):js K (.type "NoneType") (.type "tuple")=some false:=by kernel_rfl
theorem jS(K:a8):js K (.type "bool") (.type "tuple")=some false:=by kernel_rfl
theorem jT(K:a8):js K (.type "int") (.type "tuple")=some false:=by kernel_rfl
theorem jU(K:a8):js K (.type "str") (.type "tuple")=some false:=by kernel_rfl
theorem jV(K:a8):js K (.type "tuple") (.type "tuple")=some true:=by rfl
theorem iT(K:a8):js K (.type "list") (.type "tuple")=some false:=by kernel_rfl
theorem jW(K:a8):js K (.type "dict") (.type "tuple")=some false:=by kernel_rfl
theorem FH:NB K "tuple" LQ:=fun t h=>by
 cases t with
 |non=>exact jR K
 |bl b=>exact jS K
 |int i=>exact jT K
 |str i=>exact jU K
 |tup i=>exact jV K
 |lst i=>exact iT K
 |frz i=>exact iT K
 |dct=>exact jW K
 |raw v=>cases h
theorem Zc(hk:NB K c g)(hp:DF t=false):CP K (cK K) [t,.raw (.ty c)] O (.bl (g t)):=fun Φ p H vs Q ok r q=>by
 obtain⟨v,w,rfl,r1,r2⟩:=r.two_inv
 cases r2.raw_inv
 exact⟨v,.ty c,.type (gQ t),.type c,g t,rfl,rfl,.inl (r1.ty hp),hk t hp,q _ H _ O p (.refl ok) (.bl _)⟩
theorem Zd:kS "int" =some (.type "int"):=by decide+kernel
theorem Xr:kS "bool" =some (.type "bool"):=by decide+kernel
theorem Fs:kS "tuple" =some (.type "tuple"):=by decide+kernel
theorem SQ:kS "list" =some (.type "list"):=by decide+kernel
theorem cb:kS "set" =some (.type "set"):=by decide+kernel
theorem IL:kS "isinstance" =some (.builtin "isinstance"):=by decide+kernel
theorem cc:kS "max" =some (.builtin "max"):=by decide+kernel
theorem Vh:kS "min" =some (.builtin "min"):=by decide+kernel
theorem Ze:kS "len" =some (.builtin "len"):=by decide+kernel
theorem gS:kS "all" =some (.builtin "all"):=by decide+kernel
theorem Jk:kS "sorted" =some (.builtin "sorted"):=by decide+kernel
theorem Reps.bls:∀{vs:List V} {ns:List Bool},Reps K O H vs (ns.map T.bl)→vs=ns.map V.bl
 |_,[],r=>r.nil_inv
 |_,n::ns,r=>by
  obtain⟨v,vs',rfl,h,r⟩:=Reps.cons_inv r
  rw[h.bl_inv,Reps.bls r]
  rfl
end
section
variable {Z:Zx} {ρ:List (Option T)} {O:AO} {e:Expr} {Φ:CJ} {pos p:Pos}
theorem NC(mI:Z.X.mg "isinstance" =none)(mC:Z.X.mg x=none)(bC:kS x=some (.type cn))(hk:NB Z.K cn g)(h:ET Z ρ O e t)(hp:DF t=false){p1:Pos}(hgi:Gl Z.X "isinstance":=by rfl)(hgc:Gl Z.X x:=by rfl)
  (hn:x≠"__name__":=by decide) (hd:(x==("__debug__" :Str))=false:=by decide)
  (he:i5 [e,.Name x p1] Z.X.env=(false,eval e Z.X.env)::i5 [.Name x p1] Z.X.env:=by rfl):ET Z ρ O (.Call (.Name "isinstance" p) [e,.Name x p1] [] pos) (.bl (g t)):=
 Bq Bc mI IL (AX h (AX (cT mC bC hgc hn hd) AD) he) (Zc hk hp) hgi (by decide) (by decide) he
theorem Dr(mI:Z.X.mg "isinstance" =none)(mC:Z.X.mg x=none)(bC:kS x=some (.type cn))(hk:NB Z.K cn g)(h:ET Z ρ O e t)(hp:DF t=false){p1:Pos}(hgi:Gl Z.X "isinstance":=by rfl)(hgc:Gl Z.X x:=by rfl)
  (hn:x≠"__name__":=by decide) (hd:(x==("__debug__" :Str))=false:=by decide)
  (he:i5 [e,.Name x p1] Z.X.env=(false,eval e Z.X.env)::i5 [.Name x p1] Z.X.env:=by rfl):EB Z ρ O (.Call (.Name "isinstance" p) [e,.Name x p1] [] pos) (g t):=
 Dq (NC mI mC bC hk h hp hgi hgc hn hd he)
theorem CC(m:Z.X.mg "len" =none)(h:ET Z ρ O e (.tup ts))(hg:Gl Z.X "len":=by rfl)(he:i5 [e] Z.X.env=(false,eval e Z.X.env)::i5 [] Z.X.env:=by rfl):ET Z ρ O (.Call (.Name "len" p) [e] [] pos) (.int ts.length):=
 Bq DM m Ze (AX h AD he) (fun Φ q H vs Q ok r k=>by
  obtain⟨v,rfl,r1⟩:=r.one_inv
  obtain⟨a,xs,rfl,h1,r1⟩:=r1.tup_inv
  refine⟨a,xs,rfl,.inr (.inl (.inl h1)),?_⟩
  rw[r1.length]
  exact k _ H _ O q (.refl ok) (.int _)) hg (by decide) (by decide) he
theorem Gb(m:Z.X.mg "len" =none)(h:ET Z ρ O e (.lst ts))(hg:Gl Z.X "len":=by rfl)(he:i5 [e] Z.X.env=(false,eval e Z.X.env)::i5 [] Z.X.env:=by rfl):ET Z ρ O (.Call (.Name "len" p) [e] [] pos) (.int ts.length):=
 Bq DM m Ze (AX h AD he) (fun Φ q H vs Q ok r k=>by
  obtain⟨v,rfl,r1⟩:=r.one_inv
  obtain⟨a,xs,rfl,h1,_,r1⟩:=r1.lst_inv
  refine⟨a,xs,rfl,.inl (.inl (.inl h1)),?_⟩
  rw[r1.length]
  exact k _ H _ O q (.refl ok) (.int _)) hg (by decide) (by decide) he
theorem ND{bs:List Bool}(m:Z.X.mg "all" =none)(hc:Z.X.calm=true)(h:ET Z ρ O e (.lst (bs.map T.bl)))(hg:Gl Z.X "all":=by rfl)(he:i5 [e] Z.X.env=(false,eval e Z.X.env)::i5 [] Z.X.env:=by rfl):ET Z ρ O (.Call (.Name "all" p) [e] [] pos) (.bl (bs.all id)):=
 Bq (Rv hc) m gS (AX h AD he) (fun Φ q H vs Q ok r k=>by
  obtain⟨v,rfl,r1⟩:=r.one_inv
  obtain⟨a,xs,rfl,h1,_,r1⟩:=r1.lst_inv
  cases r1.bls
  exact⟨a,bs,rfl,.inl (.inl (.inl h1)),k _ H _ O q (.refl ok) (.bl _)⟩) hg (by decide) (by decide) he
theorem Vi(m:Z.X.mg "min" =none)(hc:Z.X.calm=true)(h:ET Z ρ O a (.int i))(h2:ET Z ρ O b (.int j))(hg:Gl Z.X "min":=by rfl)(he:i5 [a,b] Z.X.env=(false,eval a Z.X.env)::i5 [b] Z.X.env:=by rfl)(he2:i5 [b] Z.X.env=(false,eval b Z.X.env)::i5 [] Z.X.env:=by rfl)(hpl:(mS pos (i5 [b] Z.X.env)).any (·.1)=false:=by rfl):ET Z ρ O (.Call (.Name "min" p) [a,b] [] pos) (.int (min i j)):=
 Bq (Pf hc) m Vh (AX h (AX h2 AD he2) he) (fun Φ q H vs Q ok r k=>by
  obtain⟨v,w,rfl,r1,r2⟩:=r.two_inv
  cases r1.int_inv;cases r2.int_inv
  refine⟨i,j,rfl,?_⟩
  have:(if j<i then j else i)=min i j:=by split<;>omega
  rw[this]
  exact k _ H _ O q (.refl ok) (.int _)) hg (by decide) (by decide) he hpl
theorem OX(m:Z.X.mg "max" =none)(hc:Z.X.calm=true)(h:ET Z ρ O a (.int i))(h2:ET Z ρ O b (.int j))(hg:Gl Z.X "max":=by rfl)(he:i5 [a,b] Z.X.env=(false,eval a Z.X.env)::i5 [b] Z.X.env:=by rfl)(he2:i5 [b] Z.X.env=(false,eval b Z.X.env)::i5 [] Z.X.env:=by rfl)(hpl:(mS pos (i5 [b] Z.X.env)).any (·.1)=false:=by rfl):ET Z ρ O (.Call (.Name "max" p) [a,b] [] pos) (.int (max i j)):=
 Bq (Pe hc) m cc (AX h (AX h2 AD he2) he) (fun Φ q H vs Q ok r k=>by
  obtain⟨v,w,rfl,r1,r2⟩:=r.two_inv
  cases r1.int_inv;cases r2.int_inv
  refine⟨i,j,rfl,?_⟩
  have:(if j>i then j else i)=max i j:=by split<;>omega
  rw[this]
  exact k _ H _ O q (.refl ok) (.int _)) hg (by decide) (by decide) he hpl
theorem Vj(m:Z.X.mg "min" =none)(hc:Z.X.calm=true)(h:ET Z ρ O e (.tup [.int i,.int j]))(hg:Gl Z.X "min":=by rfl)(he:i5 [e] Z.X.env=(false,eval e Z.X.env)::i5 [] Z.X.env:=by rfl):ET Z ρ O (.Call (.Name "min" p) [e] [] pos) (.int (min i j)):=
 Bq (Iu hc) m Vh (AX h AD he) (fun Φ q H vs Q ok r k=>by
  obtain⟨v,rfl,r1⟩:=r.one_inv
  obtain⟨a,xs,rfl,h1,r1⟩:=r1.tup_inv
  cases Reps.ints (ns:=[i,j]) r1
  refine⟨a,[i,j],rfl,.inr (.inl (.inl h1)),sj _,fun n ⟨h1,h2⟩=>?_⟩
  have e1:=h2 i (by simp)
  have e2:=h2 j (by simp)
  have:n=min i j:=by
   rcases ju.mp h1 with rfl|h1
   ·omega
   ·have:=jz.mp h1
    omega
  rw[this]
  exact k _ H _ O q (.refl ok) (.int _)) hg (by decide) (by decide) he
theorem Vk(m:Z.X.mg "int" =none)(h:ET Z ρ O e (.bl k))(hg:Gl Z.X "int":=by rfl)(he:i5 [e] Z.X.env=(false,eval e Z.X.env)::i5 [] Z.X.env:=by rfl):ET Z ρ O (.Call (.Name "int" p) [e] [] pos) (.int (if k then 1 else 0)):=
 Fo Pg m Zd (AX h AD he) (fun Φ q H vs Q ok r k=>by
  obtain⟨v,rfl,r1⟩:=r.one_inv
  cases r1.bl_inv
  exact .inr ⟨_,rfl,k _ H _ O q (.refl ok) (.int _)⟩) hg (by decide) (by decide) he
theorem LS(m:Z.X.mg "tuple" =none)(h:WE Z ρ O e fun t O'=>∃ts,t=.lst ts∧Φ (.tup ts) O')(hg:Gl Z.X "tuple":=by rfl)(he:i5 [e] Z.X.env=(false,eval e Z.X.env)::i5 [] Z.X.env:=by rfl):WE Z ρ O (.Call (.Name "tuple" p) [e] [] pos) Φ:=
 Fn LI m Fs (EK (EJ h (by
  rintro t O' ⟨ts,rfl,q⟩
  refine BC fun H vs Q ok r k=>?_
  obtain⟨v,rfl,r1⟩:=r.one_inv
  obtain⟨a,xs,rfl,h1,_,r1⟩:=r1.lst_inv
  exact⟨a,xs,rfl,.inl (.inl h1),fun p hp=>k _ _ _ O' q (.new ok hp) (.tup AL (r1.kp (BO ok hp) ok))⟩)) he) hg (by decide) (by decide) he
theorem LU(m:Z.X.mg "tuple" =none)(h:ET Z ρ O e (.lst ts))(hg:Gl Z.X "tuple":=by rfl)(he:i5 [e] Z.X.env=(false,eval e Z.X.env)::i5 [] Z.X.env:=by rfl):ET Z ρ O (.Call (.Name "tuple" p) [e] [] pos) (.tup ts):=fun Φ q=>LS m (h _ ⟨ts,rfl,q⟩) hg he
theorem SR(m:Z.X.mg "list" =none)(h:ET Z ρ O e (.tup ts))(hg:Gl Z.X "list":=by rfl)(he:i5 [e] Z.X.env=(false,eval e Z.X.env)::i5 [] Z.X.env:=by rfl):ET Z ρ O (.Call (.Name "list" p) [e] [] pos) (.lst ts):=
 Fo Ed m SQ (AX h AD he) (fun Φ q H vs Q ok r k=>by
  obtain⟨v,rfl,r1⟩:=r.one_inv
  obtain⟨a,xs,rfl,h1,r1⟩:=r1.tup_inv
  exact⟨a,xs,rfl,.inr (.inl (.inl h1)),fun p hp=>k _ _ _ O q (.new ok hp) (.lst AL (ok.none_of hp) (r1.kp (BO ok hp) ok))⟩) hg (by decide) (by decide) he
end
noncomputable def EX(ts:List T)(lo hi:Option Int):List T:=(ts.drop (HT.BX ts.length 0 lo)).take (HT.BX ts.length ts.length hi-HT.BX ts.length 0 lo)
section
variable {K:a8}
theorem Reps.cut{lo:Option Int}(r:Reps K O H vs ts):Reps K O H (Ff vs lo hi) (EX ts lo hi):=by
 unfold Ff EX
 rw[r.length]
 exact(r.drop _).take _
end
section
variable {Z:Zx} {ρ:List (Option T)} {O:AO} {e:Expr} {Φ:CJ} {pos p p2:Pos} {ts:List T} {i:Int} {lo:Expr}
theorem OY(k:Acc Z.K O H (fun t O'=>Φ t O') Q)(f:Frm Z.K O H O H1)(r:Rep Z.K O H1 v (.tup ts))(p:Φ (.tup (EX ts o1 o2)) O):cQ Z.K v o1 o2 H1 Q:=by
 obtain⟨a,xs,rfl,h1,r1⟩:=r.tup_inv
 refine⟨a,xs,rfl,.inl (.inl h1),fun q H' hq=>?_⟩
 rcases hq with⟨rfl,rfl,e⟩| ⟨hq,rfl⟩
 ·have rc:=r1.cut (lo:=o1) (hi:=o2)
  rw[e] at rc
  exact k _ _ _ O p f (.tup h1 rc)
 ·exact k _ _ _ O p (f.trans (.new f.ok hq)) (.tup AL ((r1.cut).kp (BO f.ok hq) f.ok))
theorem Jl(h:ET Z ρ O e (.tup ts))(hl:ET Z ρ O lo (.int i)):ET Z ρ O (.Subscript e (.Slice (some lo) none none p2) pos) (.tup (EX ts (some i) none)):=fun Φ q=>by
 refine PE.weak (Et OP (Bd (ρ:=ρ)) (Er (Bd (ρ:=ρ))) JN) fun σ H Q k=>?_
 refine⟨O,_,h (fun t O'=>t=.tup ts∧O'=O) ⟨rfl,rfl⟩,k.1,?_⟩
 rintro v H1 _ _ ⟨rfl,rfl⟩ f1 r1
 refine⟨_,_,hl (fun t O'=>t=.int i∧O'=_) ⟨rfl,rfl⟩,k.1.step f1,?_⟩
 rintro w H2 _ _ ⟨rfl,rfl⟩ f2 r2
 exact⟨i,r2.int_inv,OY k.2 (f1.trans f2) (r1.kp f2.kp f1.ok) q⟩
theorem SS(h:ET Z ρ O e (.tup ts))(hl:ET Z ρ O hi (.int i)):ET Z ρ O (.Subscript e (.Slice none (some hi) none p2) pos) (.tup (EX ts none (some i))):=fun Φ q=>by
 refine PE.weak (Et OP (Bd (ρ:=ρ)) JN (Er (Bd (ρ:=ρ)))) fun σ H Q k=>?_
 refine⟨O,_,h (fun t O'=>t=.tup ts∧O'=O) ⟨rfl,rfl⟩,k.1,?_⟩
 rintro v H1 _ _ ⟨rfl,rfl⟩ f1 r1
 refine⟨_,_,hl (fun t O'=>t=.int i∧O'=_) ⟨rfl,rfl⟩,k.1.step f1,?_⟩
 rintro w H2 _ _ ⟨rfl,rfl⟩ f2 r2
 exact⟨i,r2.int_inv,OY k.2 (f1.trans f2) (r1.kp f2.kp f1.ok) q⟩
theorem Zf(h:ET Z ρ O e (.tup ts)):ET Z ρ O (.Subscript e (.Slice none none (some (.UnaryOp .USub (.Constant (.int 1) 0 p3) p4)) p2) pos) (.tup ts.reverse):=fun Φ q=>by
 refine PE.weak (Vb (Bd (ρ:=ρ))) fun σ H Q k=>?_
 refine⟨O,_,h (fun t O'=>t=.tup ts∧O'=O) ⟨rfl,rfl⟩,k.1,?_⟩
 rintro v H1 _ _ ⟨rfl,rfl⟩ f r
 obtain⟨a,xs,rfl,h1,r1⟩:=r.tup_inv
 exact⟨a,xs,rfl,.inl (.inl h1),fun l hl=>k.2 _ _ _ _ q (f.trans (.new f.ok hl)) (.tup AL (r1.rev.kp (BO f.ok hl) f.ok))⟩
theorem Jm(ha:ET Z ρ O a (.tup ts))(hb:ET Z ρ O b (.tup us))(hl:ts.length+us.length≤sizeLine):ET Z ρ O (.BinOp a .Add b pos) (.tup (ts++us)):=Dp Vc (fun Φ p H v w Q ok r1 r2 q=>by
 obtain⟨a,xs,rfl,h1,g1⟩:=r1.tup_inv
 obtain⟨b,ys,rfl,h2,g2⟩:=r2.tup_inv
 clear r1 r2
 refine⟨a,b,xs,ys,rfl,rfl,.inl (.inl h1),.inl (.inl h2),by rw[g1.length,g2.length];exact hl,fun l H' hq=>?_⟩
 rcases hq with⟨rfl,rfl,rfl⟩| ⟨rfl,rfl,rfl⟩| ⟨hq,rfl⟩
 ·have:us=[]:=pS.mp g2.length.symm
  subst this
  rw[mX] at p
  exact q _ _ _ O p (.refl ok) (.tup h1 g1)
 ·have:ts=[]:=pS.mp g1.length.symm
  subst this
  exact q _ _ _ O p (.refl ok) (.tup h2 g2)
 ·exact q _ _ _ O p (.new ok hq) (.tup AL ((g1.append g2).kp (BO ok hq) ok))) ha hb
theorem OZ(hl:ts.length+us.length≤sizeLine){K:a8}:RP K cC (.lst ts) (.lst us) O (.lst (ts++us)):=fun Φ p H v w Q ok r1 r2 q=>by
 obtain⟨a,xs,rfl,h1,_,r1⟩:=r1.lst_inv
 obtain⟨b,ys,rfl,h2,_,r2⟩:=r2.lst_inv
 exact⟨a,b,xs,ys,rfl,rfl,h1,h2,by rw[r1.length,r2.length];exact hl,fun l hq=>q _ _ _ O p (.new ok hq) (.lst AL (ok.none_of hq) ((r1.append r2).kp (BO ok hq) ok))⟩
theorem EL(ha:ET Z ρ O a (.lst ts))(hb:ET Z ρ O b (.lst us))(hl:ts.length+us.length≤sizeLine):ET Z ρ O (.BinOp a .Add b pos) (.lst (ts++us)):=Dp MZ (OZ hl) ha hb
theorem Zg:ET Z ρ O (.Dict [] [] pos) .dct:=fun Φ q pins s σ H Q I k=>
 have big:pK<s.heap.objs.size:=qK (by decide) (show lE<s.heap.objs.size from(I.mod.glob.keeps I.bk).lt)
 have hf:H s.heap.objs.size=none:=I.hok.fresh (jm _)
 wpAny_Dict_empty ⟨.ref s.heap.objs.size,_,I.laid (a:=s.heap.objs.size) (o:=.dK []) (t':=s.toks) (fun _ _ e=>c9 _ e) (jm _) ⟨kZ _,beq_eq_false_iff_ne.mpr (Ne.symm (ke big)),[],.nil,Heap.DictOf.new s.heap⟩,rfl,k.2 _ _ _ O q (.new k.1.ok hf) (.dct AL)⟩
end
noncomputable def AU(p:Int×Int):T:=.tup [.int p.1,.int p.2]
noncomputable def KU(p q:Int×Int):Prop:=p.1<q.1∨(p.1=q.1∧p.2<q.2)
section
variable {K:a8}
theorem HX:∀{ps:List (Int×Int)} {xs:List V},Reps K O H xs (ps.map AU)→∃qs:List (List Int×Addr),xs=qs.map (fun p=>V.ref p.2)∧qs.map (·.1)=ps.map (fun p=> [p.1,p.2])∧∀k x,(k,x)∈qs→H x=some (.tup (k.map V.int))
 | [],xs,r=> ⟨[],r.nil_inv,rfl,fun _ _ h=>by cases h⟩
 |p::ps,xs,r=>by
  obtain⟨v,vs',rfl,h,r'⟩:=Reps.cons_inv r
  obtain⟨a,ys,rfl,ha,r2⟩:=h.tup_inv
  cases Reps.ints (ns:=[p.1,p.2]) r2
  obtain⟨qs,rfl,e,hk⟩:=HX r'
  refine⟨([p.1,p.2],a)::qs,rfl,by rw[kg,kg,e],fun k x h=>?_⟩
  rcases ju.mp h with h|h
  ·cases h;exact ha
  ·exact hk k x h
theorem HY:∀{qs:List (List Int×Addr)} {ps:List (Int×Int)},qs.map (·.1)=ps.map (fun p=> [p.1,p.2])→(∀k x,(k,x)∈qs→H x=some (.tup (k.map V.int)))→Reps K O H (qs.map fun p=>V.ref p.2) (ps.map AU)
 | [],[],_,_=> .nil
 | [],p::ps,e,_=>by cases e
 |q::qs,[],e,_=>by cases e
 | (k,x)::qs,p::ps,e,h=>by
  rw[kg,kg] at e
  injection e with e1 e2
  have e1:k=[p.1,p.2]:=e1
  have hx:=h k x (j4 ..)
  rw[e1] at hx
  exact .cons (.tup hx (.cons (.int _) (.cons (.int _) .nil))) (HY e2 fun k x hk=>h k x (jt _ hk))
end
theorem Oa:∀{ys:List (List Int×Addr)},(∀k x,(k,x)∈ys→∃i j:Int,k=[i,j])→∃ps:List (Int×Int),ys.map (·.1)=ps.map (fun p=> [p.1,p.2])
 | [],_=> ⟨[],rfl⟩
 | (k,x)::ys,h=>by
  obtain⟨i,j,e⟩:=h k x (j4 ..)
  obtain⟨ps,e2⟩:=Oa fun k x hk=>h k x (jt _ hk)
  exact⟨(i,j)::ps,by rw[kg,kg,e,e2]⟩
section
variable {Z:Zx} {ρ:List (Option T)} {O:AO} {e:Expr} {Φ:CJ} {pos p p1 pos1:Pos}
theorem Jn{ps:List (Int×Int)}(m:Z.X.mg "sorted" =none)(m2:Z.X.mg "set" =none)(hc:Z.X.calm=true)(hu:Z.X.A.units+8<cLine)(h:ET Z ρ O e (.lst (ps.map AU)))(hl:ps.length≤300)(hb:∀q∈ps,0≤q.2∧q.2<65536)
  (k:∀qs:List (Int×Int),qs.Pairwise KU→(∀q,q∈qs↔q∈ps)→qs.length≤ps.length→Φ (.lst (qs.map AU)) O) (hg:Gl Z.X "sorted":=by rfl) (hg2:Gl Z.X "set":=by rfl) (he:i5 [e] Z.X.env=(false,eval e Z.X.env)::i5 [] Z.X.env:=by rfl)
  (he2:i5 [Expr.Call (.Name "set" p1) [e] [] pos1] Z.X.env=(false,eval (.Call (.Name "set" p1) [e] [] pos1) Z.X.env)::i5 [] Z.X.env:=by rfl):WE Z ρ O (.Call (.Name "sorted" p) [.Call (.Name "set" p1) [e] [] pos1] [] pos) Φ:=by
 refine PE.weak (BA (Jb hc) hg m Jk (AJ (Fe (QB hc hu) hg2 m2 cb (IJ (ρ:=ρ)) (by decide) (by decide) he) Au he2) (by decide) (by decide) he2) fun σ H Q q=>?_
 refine⟨O,_,AX h AD he (fun ts O'=>ts=[.lst (ps.map AU)]∧O'=O) ⟨rfl,rfl⟩,q.1,?_⟩
 rintro vs H1 _ _ ⟨rfl,rfl⟩ f r
 obtain⟨v,rfl,r1⟩:=r.one_inv
 obtain⟨a,xs,rfl,h1,_,r1⟩:=r1.lst_inv
 obtain⟨qs,rfl,eq,hk⟩:=HX r1
 have lq:qs.length=ps.length:=by
  have:=congrArg List.length eq
  simpa using this
 refine⟨a,qs,rfl,.inl (.inl h1),fun k x hx=> .inl (.inl (hk k x hx)),by omega,fun l xs hl1 so nd=>?_⟩
 obtain⟨s1,s2,s3⟩:=so
 have f1:=Frm.new (o:=SetO Z.X.prog Z.X.w l xs) f.ok hl1
 have hk2:∀k x,(k,x)∈xs→upd H1 l (SetO Z.X.prog Z.X.w l xs) x=some (.tup (k.map V.int)):=fun k x hx=>by
  have:=hk k x (s1 _ hx)
  rw[AR (AW this hl1)];exact this
 have mem1:∀k x,(k,x)∈qs→∃q∈ps,k=[q.1,q.2]:=fun k x hx=>by
  have:k∈qs.map (·.1):=jw.mpr ⟨(k,x),hx,rfl⟩
  rw[eq] at this
  obtain⟨q,h1,h2⟩:=jw.mp this
  exact⟨q,h1,h2.symm⟩
 have two:∀k x,(k,x)∈xs→∃i j,k=[i,j]∧0≤j∧j<65536:=fun k x hx=>by
  obtain⟨q,h1,h2⟩:=mem1 k x (s1 _ hx)
  exact⟨q.1,q.2,h2,hb q h1⟩
 refine⟨l,xs,rfl,AL,fun k x hx=> .inl (.inl (hk2 k x hx)),by omega,two,fun d ys hd pm pw=>?_⟩
 obtain⟨rs,er⟩:=Oa (ys:=ys) fun k x hx=>by
  obtain⟨i,j,e,_⟩:=two k x (pm.mem_iff.mp hx)
  exact⟨i,j,e⟩
 have f2:=Frm.new (o:=.lst (ys.map fun p=>V.ref p.2)) f1.ok hd
 have hk3:∀k x,(k,x)∈ys→upd (upd H1 l (SetO Z.X.prog Z.X.w l xs)) d (.lst (ys.map fun p=>V.ref p.2)) x=some (.tup (k.map V.int)):=fun k x hx=>by
  have:=hk2 k x (pm.mem_iff.mp hx)
  rw[AR (AW this hd)];exact this
 have memr:∀z,z∈rs↔∃x,([z.1,z.2],x)∈ys:=fun z=>by
  constructor
  ·intro hz
   have:[z.1,z.2]∈ys.map (·.1):=by rw[er];exact jw.mpr ⟨z,hz,rfl⟩
   obtain⟨⟨k,x⟩,h1,h2⟩:=jw.mp this
   have h2:k=_:=h2
   subst h2
   exact⟨x,h1⟩
  ·rintro⟨x,hx⟩
   have:[z.1,z.2]∈ys.map (·.1):=jw.mpr ⟨_,hx,rfl⟩
   rw[er] at this
   obtain⟨w,h1,h2⟩:=jw.mp this
   injection h2 with e1 e2
   injection e2 with e2 _
   have:w=z:=mz e1 e2
   rw[←this];exact h1
 have ndy:(ys.map (·.1)).Nodup:=(pm.map _).nodup_iff.mpr nd
 refine q.2 _ _ _ _ (k rs ?_ (fun z=>?_) ?_) (f.trans (f1.trans f2)) (.lst AL (f1.ok.none_of hd) (HY er hk3))
 ·--strictly rising
  have pw':rs.Pairwise fun x y=>65536*x.1+x.2≤65536*y.1+y.2:=by
   have h3:(ys.map (·.1)).Pairwise fun x y=>65536*x.getD 0 0+x.getD 1 0≤65536*y.getD 0 0+y.getD 1 0:=lY.mpr pw
   rw[er] at h3
   exact(lY (f:=fun(p:Int×Int)=> [p.1,p.2]) (R:=fun x y=>65536*x.getD 0 0+x.getD 1 0≤65536*y.getD 0 0+y.getD 1 0)).mp h3
  have nd':rs.Pairwise fun x y=>x≠y:=by
   have h3:(ys.map (·.1)).Pairwise (·≠·):=ndy
   rw[er] at h3
   exact(lY.mp h3).imp fun hxy z=>hxy (by rw[z])
  refine(pw'.and nd').imp_of_mem fun{x y} hx hy ⟨h1,h2⟩=>?_
  have bnd:∀z,z∈rs→0≤z.2∧z.2<65536:=fun z hz=>by
   obtain⟨v,hv⟩:=(memr z).mp hz
   obtain⟨i,j,e,hj⟩:=two _ v (pm.mem_iff.mp hv)
   injection e with e1 e2
   injection e2 with e2 _
   omega
  have b1:=bnd x hx
  have b2:=bnd y hy
  unfold KU
  have:¬(x.1=y.1∧x.2=y.2):=fun z=>h2 (mz z.1 z.2)
  omega
 ·rw[memr]
  constructor
  ·rintro⟨x,hx⟩
   obtain⟨w,h1,h2⟩:=mem1 _ x (s1 _ (pm.mem_iff.mp hx))
   injection h2 with e1 e2
   injection e2 with e2 _
   have:z=w:=mz e1 e2
   rw[this];exact h1
  ·intro hz
   have:[z.1,z.2]∈qs.map (·.1):=by rw[eq];exact jw.mpr ⟨z,hz,rfl⟩
   obtain⟨⟨k,x⟩,h1,h2⟩:=jw.mp this
   have h2:k=_:=h2
   subst h2
   obtain⟨x',hx'⟩:=s2 _ _ h1
   exact⟨x',pm.mem_iff.mpr hx'⟩
 ·have e1:rs.length=ys.length:=by
   have:=congrArg List.length er
   simpa using this.symm
  have e2:=pm.length_eq
  omega
end
theorem XFly.mono(x:XFly X W)(h:∀σ cls H',W' σ cls none H'→W σ cls none H'):XFly X W':=⟨fun pins σ H s e s' I c=>x.fly pins σ H s e s' I (by
 obtain⟨y,cls,H',e1,f,q⟩:=c
 exact⟨y,cls,H',e1,f,h σ cls H' q⟩)⟩
theorem BV:XFly X (zc X Oe He).W:=⟨fun pins σ H s e s' I c=>by
 obtain⟨y,cls,H',e1,f,_,O',z,_⟩:=c
 exact z.elim⟩
noncomputable abbrev zB(P:Program)(w:World)(K:a8)(mg:Str→Option Value)(base:Heap)(N:List Str)(qual:Str)(sc:Scope)(f:Addr)(cdv:Value)(A:j6)(outer:List Env)(s:Shared)(H:Hp)(E:XK)(O:AO)(Ξ:Value→AO→Prop):Zx:=
 ⟨CM (CXe P w) P w K mg base N qual sc f cdv A outer s H E,O,H,Ξ⟩
noncomputable def Ds(N:List Str)(ts:List T):List (Option T):=ts.map some++j0 (N.length-ts.length) none
theorem HZ{K:a8}(r:Reps K O H vs ts):Rl K O H (start N vs) (Ds N ts):=by
 refine⟨by simp[start,Ds,r.length],fun i t e=>?_⟩
 unfold Ds at e
 by_cases hi:i<ts.length
 ·rw[kX (by simpa using hi),i6] at e
  cases ht:ts[i]? with
  |none=>rw[ht] at e;cases e
  |some u=>
   rw[ht] at e
   cases e
   obtain⟨v,h1,h2⟩:=r.get ht
   refine⟨v,?_,h2⟩
   unfold start
   rw[kX (by simpa[r.length] using hi),i6,h1]
   rfl
 ·rw[ku (by simpa using hi),mx] at e
  split at e<;>cases e
theorem AY{K:a8}{st:Stmt}(F:Fun K x qual st f fd)(S:FnScope N ps (AA st))(len:∀ts O Φ Ξ,sp ts O Φ Ξ→ts.length=ps.length)
  (h:∀(cdv:Value) (A:j6) (outer:List Env) (s:Shared) (H:Hp) (E:XK) (O:AO) (Ξ:Value→AO→Prop),Room k (A.deeper (nI qual (AA st) s.heap.objs.size f cdv))→XFly (zB P w K mg base N qual (AA st) f cdv A outer s H E O Ξ).X (zB P w K mg base N qual (AA st) f cdv A outer s H E O Ξ).W→
   ∀ts Φ,sp ts O Φ Ξ→FY (zB P w K mg base N qual (AA st) f cdv A outer s H E O Ξ) (Ds N ts) O (Ae st) {nx:=fun _ O'=>Φ .non O',rt:=Φ}):FnOk P w K mg base (CXe P w) (k+1) f fd ps (Cf K sp):=by
 refine F.okX S (fun vs H Q E h=>?_) (fun cdv A outer s H vs Q E hr h1=>?_)
 ·obtain⟨ts,O,Φ,Ξ,r,_,q,_⟩:=h
  rw[r.length];exact len ts O Φ Ξ q
 ·obtain⟨ts,O,Φ,Ξ,r,ok,q,acc,ex⟩:=h1
  refine⟨_,h cdv A outer s H E O Ξ hr (XFly.mono Af.f ?_) ts Φ q,⟨HZ r,.refl ok⟩,?_⟩
  ·rintro σ cls H' ⟨_,O',x,f⟩
   exact ex cls O' H' x f
  ·exact⟨fun ρ' O' σ' H' p a _=>acc _ _ _ O' p a.fr .non,fun v H' t O' p f r=>acc v H' t O' p f r,fun _ _ _ _ z=>z.elim,fun _ _ _ _ z=>z.elim⟩
noncomputable def Xs(S:Scope)(N:List Str)(csc:Scope)(cap:List (Str×Nat)):Bool:=
 decide (csc.kind=.function)&&csc.names.all (fun y=>decide (y.2=.cell→csc.names.lookup y.1=some .cell))&&csc.names.all (fun y=>decide (y.2=.local→csc.names.lookup y.1=some .local))&&csc.names.all (fun y=>decide (y.2=.free→S.names.lookup y.1=some .cell∨S.names.lookup y.1=some .free))&&cap.all (fun p=>decide (N[p.2]?=some p.1∧csc.names.lookup p.1=some .free))
theorem Ba{X:Cx}{nc:List Str}(S:Scope)(N:List Str)(chk:Xs S N csc cap=true)(h1:X.env.scope=S:=by rfl)(h2:X.N=N:=by rfl):LcOk X csc nc cap:=by
 unfold Xs at chk
 simp only[ki,kA,decide_eq_true_eq] at chk
 obtain⟨⟨⟨⟨c1,c2⟩,c3⟩,c4⟩,c5⟩:=chk
 exact⟨c1,c2,c3,by rw[h1];exact c4,by rw[h2];exact c5⟩
section
variable {Z:Zx} {ρ:List (Option T)} {O:AO} {elt tg iter:Expr} {csc:Scope} {nc:List Str} {cap:List (Str×Nat)} {pos:Pos} {α:Type}
theorem Ha(xs:List α)(f g:α→T)(hl:xs.length≤sizeLine)(h:∀x,x∈xs→∃ρ4,∀X' Oe He,LcCx Z.X csc (Ah nc cap) X'→∀O',(WG (zc X' Oe He) nc.length (GS nc ρ cap) O' tg (f x) ρ4∧ET (zc X' Oe He) ρ4 O' elt (g x)))(fin:F (xs.map g) O):Up Z ρ elt tg [] csc nc cap F (xs.map f) O:=by
 refine⟨fun i acc O'=>O'=O∧acc=(xs.take i).map g,⟨rfl,by simp⟩,?_,?_⟩
 ·rintro i t acc O' p e ⟨rfl,rfl⟩ np
  rw[i6] at e
  cases ex:xs[i]? with
  |none=>rw[ex] at e;cases e
  |some x=>
   rw[ex] at e
   cases e
   obtain⟨ρ4,w⟩:=h x (i7 ex)
   have hi:=(jn.mp ex).1
   refine⟨ρ4,fun X' Oe He is=> ⟨(w X' Oe He is _).1,Ji (JP fun X' Oe He is=> (w X' Oe He is _).2 _ ⟨_,rfl,np,?_,rfl,?_⟩)⟩⟩
   ·simp;omega
   ·rw[lM,ex];simp
 ·rintro acc O' ⟨rfl,rfl⟩
  rw[b9,lQ]
  exact fin
theorem Dt(xs:List α)(f g:α→T)(q:α→Bool)(hl:xs.length≤sizeLine)(h:∀x,x∈xs→∃ρ4,∀X' Oe He,LcCx Z.X csc (Ah nc cap) X'→∀O',(WG (zc X' Oe He) nc.length (GS nc ρ cap) O' tg (f x) ρ4∧EB (zc X' Oe He) ρ4 O' c (q x)∧(q x=true→ET (zc X' Oe He) ρ4 O' elt (g x))))(fin:F ((xs.filter q).map g) O):Up Z ρ elt tg [c] csc nc cap F (xs.map f) O:=by
 refine⟨fun i acc O'=>O'=O∧acc=((xs.take i).filter q).map g,⟨rfl,by simp⟩,?_,?_⟩
 ·rintro i t acc O' p e ⟨rfl,rfl⟩ np
  rw[i6] at e
  cases ex:xs[i]? with
  |none=>rw[ex] at e;cases e
  |some x=>
   rw[ex] at e
   cases e
   obtain⟨ρ4,w⟩:=h x (i7 ex)
   have hi:=(jn.mp ex).1
   refine⟨ρ4,fun X' Oe He is=> ⟨(w X' Oe He is _).1,OV ((w X' Oe He is _).2.1 _ ?_)⟩⟩
   cases hq:q x with
   |true=>
    refine JP fun X' Oe He is=> (w X' Oe He is _).2.2 hq _ ⟨_,rfl,np,?_,rfl,?_⟩
    ·have:=lO q (xs.take i)
     simp at this ⊢;omega
    ·rw[lM,ex];simp[hq]
   |false=>
    refine GP ⟨_,rfl,np,rfl,?_⟩
    rw[lM,ex];simp[hq]
 ·rintro acc O' ⟨rfl,rfl⟩
  rw[b9,lQ]
  exact fin
theorem BL(nc:List Str)(cap:List (Str×Nat))(xs:List α)(f g:α→T)(hc:Z.X.calm=true)(ok:LcOk Z.X csc nc cap)(hi:EI Z ρ O tg iter (xs.map f))(hl:xs.length≤sizeLine)(h:∀x,x∈xs→∃ρ4,∀X' Oe He,LcCx Z.X csc (Ah nc cap) X'→∀O',(WG (zc X' Oe He) nc.length (GS nc ρ cap) O' tg (f x) ρ4∧ET (zc X' Oe He) ρ4 O' elt (g x)))
  (hs:∀x,lW iter Z.X.env x=pure x:=by intro _;rfl):ET Z ρ O (.ListComp elt [⟨tg,iter,[],0⟩] csc pos) (.lst (xs.map g)):=fun Φ p=>SN hc ok (hi _ (Ha xs f g hl h p)) hs
theorem Du(nc:List Str)(cap:List (Str×Nat))(xs:List α)(f g:α→T)(q:α→Bool)(hc:Z.X.calm=true)(ok:LcOk Z.X csc nc cap)(hi:EI Z ρ O tg iter (xs.map f))(hl:xs.length≤sizeLine)(h:∀x,x∈xs→∃ρ4,∀X' Oe He,LcCx Z.X csc (Ah nc cap) X'→∀O',(WG (zc X' Oe He) nc.length (GS nc ρ cap) O' tg (f x) ρ4∧EB (zc X' Oe He) ρ4 O' c (q x)∧(q x=true→ET (zc X' Oe He) ρ4 O' elt (g x))))
  (hs:∀x,lW iter Z.X.env x=pure x:=by intro _;rfl):ET Z ρ O (.ListComp elt [⟨tg,iter,[c],0⟩] csc pos) (.lst ((xs.filter q).map g)):=fun Φ p=>SN hc ok (hi _ (Dt xs f g q hl h p)) hs
end
section
variable {Z:Zx} {ρ:List (Option T)} {O:AO} {es:List Expr} {Φ:CJ} {pos p:Pos} {ts:List T}
theorem EA.wa{Φ:Mt}(h:EA Z ρ O es ts)(p:Φ ts O):WA Z ρ O es Φ:=h Φ p
theorem EI.wi{Φ:Mt}(h:EI Z ρ O tg iter ts)(p:Φ ts O):WI Z ρ O tg iter Φ:=h Φ p
theorem SU(F:FnOk Z.X.prog Z.X.w Z.X.K Z.X.mg Z.X.base (CXe Z.X.prog Z.X.w) k f fd ps sp)(hm:Z.X.mg x=some (.ref f))(hk:lF Z.X.K (.ref f)=true)(hb:Binds Z.X.K fd ps [])(hr:Room k Z.X.A)(xf:XFly Z.X Z.W)(h:EA Z ρ O (e::es) ts)
  (w:∀σ H vs Q,Asr Z ρ O σ H→Reps Z.K O H vs ts→Acc Z.K O H Φ Q→sp vs H Q (Z.W σ)) (hg:Gl Z.X x:=by rfl)
  (hdb:(x==("__debug__" :Str))=false:=by decide) (he:i5 (e::es) Z.X.env=(false,eval e Z.X.env)::i5 es Z.X.env:=by rfl) (hpl:(mS pos (i5 es Z.X.env)).any (·.1)=false:=by rfl):WE Z ρ O (.Call (.Name x p) (e::es) [] pos) Φ:=by
 refine PE.weak (Km xf F hr hg hm hk hb (IJ (ρ:=ρ)) hdb he hpl) fun σ H Q q=>?_
 refine⟨O,_,h (fun us O'=>us=ts∧O'=O) ⟨rfl,rfl⟩,q.1,?_⟩
 rintro vs H1 _ _ ⟨rfl,rfl⟩ f r
 exact w σ H1 vs Q (q.1.step f) r (q.2.step f)
end
noncomputable def Cj:Expr→Bool
 | .Starred .. =>false
 |_=>true
theorem Ft(h:Cj e=true):i5 (e::es) env=(false,eval e env)::i5 es env:=by
 cases e<;>first|rfl|cases h
theorem AG(h:ET Z ρ O e t)(hr:EA Z ρ O es ts)(hn:Cj e=true:=by rfl):EA Z ρ O (e::es) (t::ts):=AX h hr (Ft hn)
theorem QI(h:WE Z ρ O e fun t O1=>WA Z ρ O1 es fun ts O2=>Φ (t::ts) O2)(hn:Cj e=true:=by rfl):WA Z ρ O (e::es) Φ:=EK h (Ft hn)
theorem Ck{k:Nat}{pos:Pos}(ha:ET Z ρ O a (.int i))(hb:ET Z ρ O b (.int j))(h1:Cj a=true:=by rfl)(h2:Cj b=true:=by rfl):ET Z ρ O (.Tuple [a,b] k pos) (AU (i,j)):=AV (AG ha (AG hb AD h2) h1) (by show 2≤sizeLine;decide)
theorem SV(h:O p=some xs):Am O p xs=O:=by
 funext b
 by_cases hb:b=p
 ·rw[hb,AE,h]
 ·rw[Ai hb]
noncomputable def Zh:Expr→Bool
 | .ListComp .. =>false
 | .SetComp .. =>false
 | .DictComp .. =>false
 |_=>true
theorem LV(h:Zh e=true):pe e t l env=pure false:=by
 cases e<;>first|rfl|cases h
section
variable{Z:Zx}{ρ:List (Option T)}{O:AO}{e:Expr}{es:List Expr}{t:T}{ts:List T}{Φ:CJ}{Ψ:Es}{pos p2:Pos}{x:Str}
theorem Vl(i:Nat)(h:EA Z ρ O es ts)(hl:ts.length≤sizeLine)(k:Ψ.nx (ρ.set i (some (.lst ts))) O)(hN:Z.X.N.Nodup){pos':Pos}(hi:Z.X.N[i]?=some x:=by rfl)(hx:IF Z.X.env.scope x:=by first|exact nv rfl|exact nW rfl)
  (hf:Z.X.fn x=true∨Z.X.env.scope.names.lookup x=some .local:=by first|exact .inl rfl|exact .inr rfl):WS Z ρ O (.Assign [.Name x pos'] (.List es p2) pos) Ψ:=
 AM i (ET.we (Bn h hl) k) hN hi hx (LV rfl) hf
structure HEA(Z:Zx)(ρ:List (Option T))(O:AO)(es:List Expr)(ts:List T):Prop where
 out:EA Z ρ O es ts
structure HET(Z:Zx)(ρ:List (Option T))(O:AO)(e:Expr)(t:T):Prop where
 out:ET Z ρ O e t
theorem HEA.nil:HEA Z ρ O [] []:=⟨AD⟩
theorem HEA.cons(h:HET Z ρ O e t)(hr:HEA Z ρ O es ts)(hn:Cj e=true:=by rfl):HEA Z ρ O (e::es) (t::ts):=⟨AG h.out hr.out hn⟩
theorem HET.tup{k:Nat}(h:HEA Z ρ O es ts)(hl:ts.length≤sizeLine):HET Z ρ O (.Tuple es k pos) (.tup ts):=⟨AV h.out hl⟩
theorem HET.var(i:Nat)(e:ρ[i]?=some (some t):=by rfl)(hN:Z.X.N[i]?=some x:=by rfl)(hv:Ut Z.X.env.scope x:=by first|exact nv rfl|exact nW (nv rfl)|exact nW (nW rfl))(hd:(x==("__debug__" :Str))=false:=by decide)
  (hcd:(x==("__classdict__" :Str))=false:=by decide):HET Z ρ O (.Name x pos) t:=⟨ev i e hN hv hd hcd⟩
theorem HET.int{i:Int}{j:Nat}:HET Z ρ O (.Constant (.int i) j pos) (.int i):=⟨AB⟩
theorem HET.bl{i:Bool}{j:Nat}:HET Z ρ O (.Constant (.bool i) j pos) (.bl i):=⟨Do⟩
theorem HET.non{j:Nat}:HET Z ρ O (.Constant .none j pos) .non:=⟨Cc⟩
theorem Jo(i:Nat)(h:HEA Z ρ O es ts)(hl:ts.length≤sizeLine)(k:Ψ.nx (ρ.set i (some (.lst ts))) O)(hN:Z.X.N.Nodup){pos':Pos}(hi:Z.X.N[i]?=some x)(hx:IF Z.X.env.scope x)
  (hf:Z.X.fn x=true∨Z.X.env.scope.names.lookup x=some .local):WS Z ρ O (.Assign [.Name x pos'] (.List es p2) pos) Ψ:=Vl i h.out hl k hN hi hx hf
structure HS(Z:Zx)(ρ:List (Option T))(O:AO)(ss:List Stmt)(Ψ:Es):Prop where
 out:FY Z ρ O ss Ψ
theorem Aa{s:Stmt}{ss:List Stmt}(h:WS Z ρ O s {Ψ with nx:=fun ρ' O'=>HS Z ρ' O' ss Ψ}):HS Z ρ O (s::ss) Ψ:=
 ⟨AC (Vg h (fun _ _ z=>z.out) (fun _ _ z=>z) (fun _ _ z=>z) (fun _ _ z=>z))⟩
theorem Fu{s:Stmt}(h:WS Z ρ O s Ψ):HS Z ρ O [s] Ψ:=⟨AF h⟩
theorem Zi(h:Ψ.nx ρ O):HS Z ρ O [] Ψ:=⟨Ac h⟩
theorem cf{k:Bool}{c:Expr}{ea ss:List Stmt}(hc:EB Z ρ O c k)(h1:k=true→HS Z ρ O ea {Ψ with nx:=fun ρ' O'=>HS Z ρ' O' ss Ψ})(h2:k=false→HS Z ρ O ss Ψ):HS Z ρ O (.If c ea [] pos::ss) Ψ:=
 Aa (AS hc (fun h=> (h1 h).out) (fun h=>Ac (h2 h)))
theorem Gc{K:a8}{st:Stmt}(F:Fun K x qual st f fd)(S:FnScope N ps (AA st))(len:∀ts O Φ Ξ,sp ts O Φ Ξ→ts.length=ps.length)
  (h:∀(cdv:Value) (A:j6) (outer:List Env) (s:Shared) (H:Hp) (E:XK) (O:AO) (Ξ:Value→AO→Prop),Room k (A.deeper (nI qual (AA st) s.heap.objs.size f cdv))→XFly (zB P w K mg base N qual (AA st) f cdv A outer s H E O Ξ).X (zB P w K mg base N qual (AA st) f cdv A outer s H E O Ξ).W→
   ∀ts Φ,sp ts O Φ Ξ→HS (zB P w K mg base N qual (AA st) f cdv A outer s H E O Ξ) (Ds N ts) O (Ae st) {nx:=fun _ O'=>Φ .non O',rt:=Φ}):FnOk P w K mg base (CXe P w) (k+1) f fd ps (Cf K sp):=
 AY F S len fun cdv A outer s H E O Ξ hr xf ts Φ q=> (h cdv A outer s H E O Ξ hr xf ts Φ q).out
end
end L2.TL
namespace L2
open PySem PySem.Spec PySem.Calls PyProof.Rows
end L2
namespace L2.TL
open PySem PySem.Spec PySem.Calls PyProof.Rows
mutual
noncomputable def dT:T→PyData
 | .non=> .none
 | .bl b=> .bool b
 | .int i=> .int i
 | .str x=> .str x
 | .tup ts=> .tuple (dTs ts)
 | .lst ts=> .list (dTs ts)
 | .frz _=> .none
 | .dct=> .none
 | .raw _=> .none
noncomputable def dTs:List T→List PyData
 | []=> []
 |t::ts=>dT t::dTs ts
end
theorem XOk.mono(x:XOk X W)(h:∀σ cls H',W' σ cls none H'→W σ cls none H'):XOk X W':=
 ⟨fun pins σ H s h' y C I m q=>x.made pins σ H s h' y C I m (h σ _ H q),(XFly.mono x.f h).fly,x.own,fun pins σ H s y C t dx fs I a b c d q=>x.madeF pins σ H s y C t dx fs I a b c d (h σ _ H q)⟩
theorem Vm{K:a8}{st:Stmt}(F:Fun K x qual st f fd)(S:FnScope N ps (AA st))(len:∀ts O Φ Ξ,sp ts O Φ Ξ→ts.length=ps.length)
  (h:∀(cdv:Value) (A:j6) (outer:List Env) (s:Shared) (H:Hp) (E:XK) (O:AO) (Ξ:Value→AO→Prop),Room k (A.deeper (nI qual (AA st) s.heap.objs.size f cdv))→XOk (zB P w K mg base N qual (AA st) f cdv A outer s H E O Ξ).X (zB P w K mg base N qual (AA st) f cdv A outer s H E O Ξ).W→
   ∀ts Φ,sp ts O Φ Ξ→FY (zB P w K mg base N qual (AA st) f cdv A outer s H E O Ξ) (Ds N ts) O (Ae st) {nx:=fun _ O'=>Φ .non O',rt:=Φ}):FnOk P w K mg base (CXe P w) (k+1) f fd ps (Cf K sp):=by
 refine F.okX S (fun vs H Q E h=>?_) (fun cdv A outer s H vs Q E hr h1=>?_)
 ·obtain⟨ts,O,Φ,Ξ,r,_,q,_⟩:=h
  rw[r.length];exact len ts O Φ Ξ q
 ·obtain⟨ts,O,Φ,Ξ,r,ok,q,acc,ex⟩:=h1
  refine⟨_,h cdv A outer s H E O Ξ hr (XOk.mono Af ?_) ts Φ q,⟨HZ r,.refl ok⟩,?_⟩
  ·rintro σ cls H' ⟨_,O',x,f⟩
   exact ex cls O' H' x f
  ·exact⟨fun ρ' O' σ' H' p a _=>acc _ _ _ O' p a.fr .non,fun v H' t O' p f r=>acc v H' t O' p f r,fun _ _ _ _ z=>z.elim,fun _ _ _ _ z=>z.elim⟩
theorem Frm.same{K:a8}(f:Frm K O H O' H')(s:Same H' H''):Frm K O H O' H'' where
 kp:=fun b o h n=> ⟨s b o (f.kp b o h n).1,(f.kp b o h n).2⟩
 own:=f.own
 ok:=fun a ts e=>by
  obtain⟨xs,h,r⟩:=f.ok a ts e
  exact⟨xs,s _ _ h,r.mono (fun b o h _=>s b o h) fun b xs h n=> ⟨s b _ h,n⟩⟩
theorem EM{K:a8}:∀(ns:List Int),Reps K O H (ns.map V.int) (ns.map T.int)
 | []=> .nil
 |n::ns=> .cons (.int n) (EM ns)
section
variable {Z:Zx} {ρ:List (Option T)} {O:AO} {Ψ:Es} {pos:Pos}
theorem QJ{np cpos:Pos}(xo:XOk Z.X Z.W)(hc:Z.X.calm=true)(hm:Z.X.mg x=some (.ref C))(q:pB Z.X.K C VQ "ValueError.__new__" =true)(h:Z.Xi (.ref C) O)(hg:Gl Z.X x:=by rfl)
  (hd:(x==("__debug__" :Str))=false:=by decide):WS Z ρ O (.Raise (some (.Call (.Name x np) [] [] cpos)) none pos) Ψ:=
 PS.weak (Po xo hc hg hm q hd) fun D σ H k=> ⟨rfl,O,h,k.1.fr⟩
noncomputable def Jp(C:Addr)(y:Str):Sp:=fun vs H Q _=>∃x,vs=[.ref x]∧Rd H x (GQ C x)∧∀H',Same H H'→Q (.str y) H'
theorem _root_.L2.Rd.upd(h:Rd H x u)(hp:H p=none):Rd (upd H p o) x u:=by
 rcases h with h| ⟨o',h⟩
 ·exact .inl (by rw[AR (AW h hp)];exact h)
 ·exact .inr ⟨o',by rw[AR (AW h hp)];exact h⟩
theorem _root_.L2.Rd.same(h:Rd H x u)(s:Same H H'):Rd H' x u:=by
 rcases h with h| ⟨o',h⟩
 ·exact .inl (s _ _ h)
 ·exact .inr ⟨o',s _ _ h⟩
end
section
variable{Z:Zx}{ρ:List (Option T)}{O:AO}{e:Expr}{es:List Expr}{t:T}{ts us:List T}{Φ:CJ}{Ψ:Es}{pos p2 p3 p4:Pos}{x:Str}
theorem Vn(i:Nat)(hρ:ρ[i]?=some (some (.lst us)))(h:HEA Z ρ O es ts)(hl:ts.length≤sizeLine)(hl2:us.length+ts.length≤sizeLine)(k:Ψ.nx (ρ.set i (some (.lst (us++ts)))) O)(hN:Z.X.N.Nodup){pos':Pos}(hi:Z.X.N[i]?=some x)(hv:Ut Z.X.env.scope x)(hx:IF Z.X.env.scope x)
  (hf:Z.X.fn x=true∨Z.X.env.scope.names.lookup x=some .local) (hd:(x==("__debug__" :Str))=false) (hcd:(x==("__classdict__" :Str))=false):WS Z ρ O (.Assign [.Name x pos'] (.BinOp (.Name x p2) .Add (.List es p3) p4) pos) Ψ:=
 AM i (ET.we (EL (ev i hρ hi hv hd hcd) (Bn h.out hl) hl2) k) hN hi hx (LV rfl) hf
end
section
variable{Z:Zx}{ρ:List (Option T)}{O:AO}{es:List Expr}{ts:List T}{Ψ:Es}{pos p:Pos}{tg iter:Expr}{body:List Stmt}
theorem Ob(hp:qh (model Z.X.prog Z.X.w) Z.X.A Z.X.env Z.X.xe)(hc:Z.X.calm=true)(h:HEA Z ρ O es ts)(hl:ts.length≤sizeLine)(I:Nat→QE)(i0:I 0 ρ O)
  (st:∀i t ρ' O',ts[i]?=some t→I i ρ' O'→∃ρ2,WG Z Z.X.N.length ρ' O' tg t ρ2∧HS Z ρ2 O' body {nx:=I (i+1),rt:=Ψ.rt,bk:=Ψ.nx,ct:=I (i+1)}) (fin:∀ρ' O',I ts.length ρ' O'→Ψ.nx ρ' O'):WS Z ρ O (.For tg (.List es p) body [] pos) Ψ:=
 BQ hp hc (EI.wi (BN (Bn h.out hl)) ⟨I,i0,fun i t ρ' O' e x=>by
  obtain⟨ρ2,a,b⟩:=st i t ρ' O' e x
  exact⟨ρ2,a,b.out⟩,fin⟩) (by intro _;rfl)
structure HWE(Z:Zx)(ρ:List (Option T))(O:AO)(e:Expr)(Φ:CJ):Prop where
 out:WE Z ρ O e Φ
theorem Oc(hp:qh (model Z.X.prog Z.X.w) Z.X.A Z.X.env Z.X.xe)(hc:Z.X.calm=true)(h:HWE Z ρ O iter fun t O'=>∃ts,t=.lst ts∧∃I:Nat→QE,I 0 ρ O'∧
  (∀i t ρ' O',ts[i]?=some t→I i ρ' O'→∃ρ2,WG Z Z.X.N.length ρ' O' tg t ρ2∧HS Z ρ2 O' body {nx:=I (i+1),rt:=Ψ.rt,bk:=Ψ.nx,ct:=I (i+1)})∧∀ρ' O',I ts.length ρ' O'→Ψ.nx ρ' O')
  (hs:∀x,lW iter Z.X.env x=pure x):WS Z ρ O (.For tg iter body [] pos) Ψ:=
 BQ hp hc (OU (EJ h.out (by
  rintro t O' ⟨ts,e,I,i0,st,fin⟩
  refine⟨ts,e,I,i0,fun i t ρ' O' e x=>?_,fin⟩
  obtain⟨ρ2,a,b⟩:=st i t ρ' O' e x
  exact⟨ρ2,a,b.out⟩))) hs
theorem cg{K:a8}{st:Stmt}(F:Fun K x qual st f fd)(S:FnScope N ps (AA st))(len:∀vs H Q E,sp vs H Q E→vs.length=ps.length)
  (h:∀(cdv:Value) (A:j6) (outer:List Env) (s:Shared) (H:Hp) (vs:List V) (Q:VK) (E:XK),Room k (A.deeper (nI qual (AA st) s.heap.objs.size f cdv))→sp vs H Q E→
   ∃ts O Φ Ξ,Reps K O H vs ts∧OwnOk K O H∧(XFly (zB P w K mg base N qual (AA st) f cdv A outer s H E O Ξ).X (zB P w K mg base N qual (AA st) f cdv A outer s H E O Ξ).W→HS (zB P w K mg base N qual (AA st) f cdv A outer s H E O Ξ) (Ds N ts) O (Ae st) {nx:=fun _ O'=>Φ .non O',rt:=Φ})∧Acc K O H Φ Q∧∀cls O' H',Ξ cls O'→Frm K O H O' H'→E cls none H'):FnOk P w K mg base (CXe P w) (k+1) f fd ps sp:=by
 refine F.okX S len (fun cdv A outer s H vs Q E hr h1=>?_)
 obtain⟨ts,O,Φ,Ξ,r,ok,q,acc,ex⟩:=h cdv A outer s H vs Q E hr h1
 refine⟨_,(q (XFly.mono Af.f ?_)).out,⟨HZ r,.refl ok⟩,?_⟩
 ·rintro σ cls H' ⟨_,O',x,f⟩
  exact ex cls O' H' x f
 ·exact⟨fun ρ' O' σ' H' p a _=>acc _ _ _ O' p a.fr .non,fun v H' t O' p f r=>acc v H' t O' p f r,fun _ _ _ _ z=>z.elim,fun _ _ _ _ z=>z.elim⟩
end
theorem Jq{lo:Option Int}(h:t∈EX us lo hi):t∈us:=by
 unfold EX at h
 exact qA (oY h)
theorem FI{lo:Option Int}:(EX us lo hi).length≤us.length:=by
 unfold EX
 rw[kH,m8]
 omega
theorem DJ{L:List T}{r:Int}(h0:0≤r)(h1:r<L.length):∃t,atI L r=some t∧t∈L:=by
 obtain⟨j,rfl⟩:=kM h0
 have hj:j<L.length:=by omega
 exact⟨L[j],An (by rw[jv hj]),mJ hj⟩
noncomputable def Xu:AO:=fun _=>none
theorem SW{K:a8}:OwnOk K Xu H:=fun a ts e=>by cases e
theorem Xv{K:a8}(k:Kp Xu H O' H')(h:SqL K H a xs):SqL K H' a xs:=by
 rcases h with h|h
 ·refine .inl ?_
  rcases h with h| ⟨o,h⟩
  ·exact .inl (k a _ h rfl).1
  ·exact .inr ⟨o,(k a _ h rfl).1⟩
 ·exact .inr h
section
variable {lo:Expr}
theorem Zj{ns:List Int}(ho:Z.Oe=Xu)(hS:SqL Z.K Z.He a (ns.map V.int))(h:ET Z ρ O e (.raw (.ref a)))(h1:ET Z ρ O lo (.int i))(h2:ET Z ρ O hi (.int j))
  (k:∀ms:List Int,ms.length≤ns.length→Φ (.lst (ms.map T.int)) O):WE Z ρ O (.Subscript e (.Slice (some lo) (some hi) none p2) pos) Φ:=by
 refine PE.weak (Et Nx (Bd (ρ:=ρ)) (Er (Bd (ρ:=ρ))) (Er (Bd (ρ:=ρ)))) fun σ H0 Q q=>?_
 refine⟨O,_,h (fun t O'=>t=.raw (.ref a)∧O'=O) ⟨rfl,rfl⟩,q.1,?_⟩
 rintro v H1 _ _ ⟨rfl,rfl⟩ f1 r1
 refine⟨_,_,h1 (fun t O'=>t=.int i∧O'=_) ⟨rfl,rfl⟩,q.1.step f1,?_⟩
 rintro v2 H2 _ _ ⟨rfl,rfl⟩ f2 r2
 refine⟨i,r2.int_inv,_,_,h2 (fun t O'=>t=.int j∧O'=_) ⟨rfl,rfl⟩,q.1.step (f1.trans f2),?_⟩
 rintro v3 H3 _ _ ⟨rfl,rfl⟩ f3 r3
 refine⟨j,r3.int_inv,a,ns.map V.int,r1.raw_inv,Xv (ho▸(q.1.step (f1.trans (f2.trans f3))).fr.kp) hS,fun l hl=>?_⟩
 have ff:=f1.trans (f2.trans f3)
 have e:Ff (ns.map V.int) (some i) (some j)=((ns.drop (HT.BX (ns.map V.int).length 0 (some i))).take (HT.BX (ns.map V.int).length (ns.map V.int).length (some j)-HT.BX (ns.map V.int).length 0 (some i))).map V.int:=by
  unfold Ff
  rw[←List.map_drop,←List.map_take]
 rw[e]
 refine q.2 _ _ _ _ (k _ ?_) (ff.trans (.new ff.ok hl)) (.lst AL (ff.ok.none_of hl) ((EM _).kp (BO ff.ok hl) ff.ok))
 rw[kH,m8]
 omega
end
theorem Vo:∀{ps qs:List (Int×Int)},ps.Pairwise KU→qs.Pairwise KU→(∀z,z∈ps↔z∈qs)→ps=qs:=by
 intro ps qs h1 h2 h3
 have nd:∀{l:List (Int×Int)},l.Pairwise KU→l.Nodup:=fun h=>h.imp fun{a b} h z=>by
  subst z
  unfold KU at h
  omega
 have pm:ps.Perm qs:=by
  refine List.perm_iff_count.mpr fun a=>?_
  have c1:=(nd h1).count (a:=a)
  have c2:=(nd h2).count (a:=a)
  rw[c1,c2]
  by_cases h:a∈ps
  ·rw[if_pos h,if_pos ((h3 a).mp h)]
  ·rw[if_neg h,if_neg fun z=>h ((h3 a).mpr z)]
 exact nB.eq_of_pairwise (fun a b _ _ x y=>by unfold KU at x y;omega) h1 h2 pm
mutual
noncomputable def Bg:T→Bool
 | .non=>true
 | .bl _=>true
 | .int _=>true
 | .str x=>p0 x
 | .tup ts=>rdBs ts
 | .lst ts=>rdBs ts
 | .frz _=>false
 | .dct=>false
 | .raw _=>false
noncomputable def rdBs:List T→Bool
 | []=>true
 |t::ts=>Bg t&&rdBs ts
end
theorem Hb:∀{ts:List T},rdBs ts=true↔∀t∈ts,Bg t=true
 | []=>by unfold rdBs;simp
 |t::ts=>by unfold rdBs;simp[Hb (ts:=ts)]
theorem FJ:Bg (.tup ts)=true↔∀t∈ts,Bg t=true:=by
 have e:Bg (.tup ts)=rdBs ts:=by rw[Bg]
 rw[e];exact Hb
mutual
theorem DV:∀(t:T),Bg t=true→(dT t).canLay0=true
 | .non,_=>rfl
 | .bl _,_=>rfl
 | .int _,_=>rfl
 | .str x,h=>by unfold Bg at h;exact h
 | .tup ts,h=>rds_lay ts (by unfold Bg at h;exact h)
 | .lst ts,h=>rds_lay ts (by unfold Bg at h;exact h)
 | .frz _,h=>by unfold Bg at h;cases h
 | .dct,h=>by unfold Bg at h;cases h
 | .raw _,h=>by unfold Bg at h;cases h
theorem rds_lay:∀(ts:List T),rdBs ts=true→PyData.canLayAll0 (dTs ts)=true
 | [],_=>rfl
 |t::ts,h=>by
  unfold rdBs at h
  rw[ki] at h
  show(PyData.canLay0 (dT t)&&PyData.canLayAll0 (dTs ts))=true
  rw[DV t h.1,rds_lay ts h.2];rfl
end
section
variable {K:a8} {O:AO} {H:Hp} {P:Program} {w:World} {h:Heap}
mutual
theorem Rep.rd (hok:HOk P w H h):∀{v:V} {t:T} {u:Value},Rep K O H v t→Bg t=true→RelV v u→∃as,Reads h u (dT t) as
 |_,_,_,.non,_,r=>by cases r;exact⟨_,.none⟩
 |_,_,_,.bl b,_,r=>by cases r;exact⟨_,.bool b⟩
 |_,_,_,.int i,_,r=>by obtain⟨t,rfl⟩:=r;exact⟨_,.int i t⟩
 |_,_,_,.str x,_,r=>by obtain⟨t,rfl⟩:=r;exact⟨_,.str x t⟩
 |_,_,_,.tup (ts:=ts) e q,g,r=>by
  cases r
  obtain⟨_,its,rv,⟨o,e1,e2,n,e3⟩⟩:=(show ObjOk P w H h _ (.tup _) from hok _ _ e)
  obtain⟨as,ra⟩:=Reps.rd hok q (by unfold Bg at g;exact g) rv
  exact⟨_,.tuple (vs:=its.toArray) e1 e2 e3 (by simpa using ra)⟩
 |_,_,_,.lst (ts:=ts) e _ q,g,r=>by
  cases r
  obtain⟨_,its,n,rv,e1⟩:=(show ObjOk P w H h _ (.lst _) from hok _ _ e)
  obtain⟨as,ra⟩:=Reps.rd hok q (by unfold Bg at g;exact g) rv
  exact⟨_,.list (vs:=its.toArray) e1 rfl rfl (by simpa using ra)⟩
 |_,_,_,.frz _ _,g,_=>by unfold Bg at g;cases g
 |_,_,_,.dct _,g,_=>by unfold Bg at g;cases g
 |_,_,_,.raw v,g,_=>by unfold Bg at g;cases g
theorem Reps.rd (hok:HOk P w H h):∀{vs:List V} {ts:List T} {us:List Value},Reps K O H vs ts→rdBs ts=true→Vals vs us→∃as,ReadsAll h us (dTs ts) as
 |_,_,_,.nil,_,r=>by cases r;exact⟨_,.nil⟩
 |_,_,_,.cons a b,g,.cons r1 r2=>by
  unfold rdBs at g
  rw[ki] at g
  obtain⟨as,x⟩:=Rep.rd hok a g.1 r1
  obtain⟨bs,y⟩:=Reps.rd hok b g.2 r2
  exact⟨_,.cons x y⟩
end
end
noncomputable def rD(K:a8)(g:PyData→PyData→Bool):R2:=fun x y H Q=>∃O t u,Rep K O H x t∧Rep K O H y u∧Bg t=true∧Bg u=true∧(dT t).depth≤100∧Q (.bl (g (dT t) (dT u))) H
theorem Zk(hu:X.A.units+101<cLine):Cy X (l5 .Eq) (rD X.K fun a b=>my a b):=by
 intro pins s σ H x y v u Q I rx ry h
 obtain⟨O,t,t',r1,r2,g1,g2,hd,q⟩:=h
 obtain⟨as,ra⟩:=Rep.rd I.hok r1 g1 rx
 obtain⟨bs,rb⟩:=Rep.rd I.hok r2 g2 ry
 exact SeqAt.compareEq_reads ra rb (DV t g1) (DV t' g2) (by omega) ⟨.bl _,H,I,rfl,q⟩
theorem Hc(hu:X.A.units+101<cLine):Cy X (l5 .NotEq) (rD X.K fun a b=>!my a b):=by
 intro pins s σ H x y v u Q I rx ry h
 obtain⟨O,t,t',r1,r2,g1,g2,hd,q⟩:=h
 obtain⟨as,ra⟩:=Rep.rd I.hok r1 g1 rx
 obtain⟨bs,rb⟩:=Rep.rd I.hok r2 g2 ry
 exact SeqAt.compareNe_reads ra rb (DV t g1) (DV t' g2) (by omega) ⟨.bl _,H,I,rfl,q⟩
noncomputable def fI(K:a8)(g:Bool→Bool):R2:=fun x y H Q=>∃O t us,Rep K O H x t∧(Rep K O H y (.tup us)∨Rep K O H y (.lst us))∧Bg t=true∧rdBs us=true∧(dT t).depth≤100∧Q (.bl (g ((dTs us).any fun y=>my y (dT t)))) H
theorem SX(hu:X.A.units+102<cLine):Cy X (l5 .In) (fI X.K id):=by
 intro pins s σ H x y v u Q I rx ry h
 obtain⟨O,t,us,r1,r2,g1,g2,hd,q⟩:=h
 obtain⟨as,ra⟩:=Rep.rd I.hok r1 g1 rx
 rcases r2 with r2|r2
 ·obtain⟨bs,rb⟩:=Rep.rd I.hok r2 (by unfold Bg;exact g2) ry
  exact SeqAt.in_tuple_reads rb ra (rds_lay us g2) (DV t g1) (by omega) ⟨.bl _,H,I,rfl,q⟩
 ·obtain⟨bs,rb⟩:=Rep.rd I.hok r2 (by unfold Bg;exact g2) ry
  exact SeqAt.in_list_reads rb ra (rds_lay us g2) (DV t g1) (by omega) ⟨.bl _,H,I,rfl,q⟩
theorem SY(hu:X.A.units+102<cLine):Cy X (l5 .NotIn) (fI X.K (!·)):=by
 intro pins s σ H x y v u Q I rx ry h
 obtain⟨O,t,us,r1,r2,g1,g2,hd,q⟩:=h
 obtain⟨as,ra⟩:=Rep.rd I.hok r1 g1 rx
 rcases r2 with r2|r2
 ·obtain⟨bs,rb⟩:=Rep.rd I.hok r2 (by unfold Bg;exact g2) ry
  exact SeqAt.notIn_tuple_reads rb ra (rds_lay us g2) (DV t g1) (by omega) ⟨.bl _,H,I,rfl,q⟩
 ·obtain⟨bs,rb⟩:=Rep.rd I.hok r2 (by unfold Bg;exact g2) ry
  exact SeqAt.notIn_list_reads rb ra (rds_lay us g2) (DV t g1) (by omega) ⟨.bl _,H,I,rfl,q⟩
section
variable {K:a8}
theorem QK(h1:Bg t=true)(h2:Bg u=true)(hd:(dT t).depth≤100):RP K (rD K g) t u O (.bl (g (dT t) (dT u))):=fun Φ p H v w Q ok r1 r2 q=>
 ⟨O,t,u,r1,r2,h1,h2,hd,q _ H _ O p (.refl ok) (.bl _)⟩
theorem Jr(h1:Bg t=true)(h2:rdBs us=true)(hd:(dT t).depth≤100):RP K (fI K g) t (.tup us) O (.bl (g ((dTs us).any fun y=>my y (dT t)))):=fun Φ p H v w Q ok r1 r2 q=>
 ⟨O,t,us,r1,.inl r2,h1,h2,hd,q _ H _ O p (.refl ok) (.bl _)⟩
theorem Zl(h1:Bg t=true)(h2:rdBs us=true)(hd:(dT t).depth≤100):RP K (fI K g) t (.lst us) O (.bl (g ((dTs us).any fun y=>my y (dT t)))):=fun Φ p H v w Q ok r1 r2 q=>
 ⟨O,t,us,r1,.inr r2,h1,h2,hd,q _ H _ O p (.refl ok) (.bl _)⟩
end
theorem Od(p:Int×Int):Bg (AU p)=true:=by simp[AU,Bg,rdBs]
theorem NF(p:Int×Int):(dT (AU p)).depth≤100:=by simp[AU,dT,dTs,PyData.depth,lL]
theorem LW(p q:Int×Int):my (dT (AU p)) (dT (AU q))=decide (p=q):=by
 show((p.1==q.1)&&((p.2==q.2)&&true))=decide (p=q)
 rw[nu]
 simp only[Bool.and_true,ki,beq_iff_eq,decide_eq_true_eq]
 exact⟨fun h=>mz h.1 h.2,fun h=>by rw[h];exact⟨rfl,rfl⟩⟩
noncomputable abbrev Cv(n:Int)(ps:List (Int×Int)):T:=.tup [.int n,.tup (ps.map AU)]
end L2.TL
namespace L2
open PySem PySem.Spec PySem.Calls PyProof.Rows
end L2
namespace L2.TL
open PySem PySem.Spec PySem.Calls PyProof.Rows
section
variable {Z:Zx} {ρ:List (Option T)} {O:AO} {e a:Expr} {Φ:CJ} {pos p p1:Pos} {t:T}
theorem EB.wt{Φ:Jd}(h:EB Z ρ O e k)(p:Φ k O):WT Z ρ O e Φ:=h Φ p
theorem WW.wt{Φ:Jd}(h:WW Z ρ O e Φ):WT Z ρ O e Φ:=h.pt
theorem BE{apos cpos:Pos}(h:WE Z ρ O o fun t O1=>∃a,t=.raw (.ref a)∧(∃ts,O1 a=some ts)∧WE Z ρ O1 e fun u O2=>∃ts us,u=.lst us∧O2 a=some ts∧ts.length+us.length≤sizeLine∧Φ .non (Am O2 a (ts++us)))
  (hbase:oJ o "extend" Z.X.env (eval o Z.X.env)=eval o Z.X.env:=by rfl)
  (hfew:((mS cpos (i5 [e] Z.X.env)).all (fun x=>!x.1)&&(rT cpos (pQ [] Z.X.env)).all (fun x=>x.1.isSome)
   &&decide ([e].length+([]:List qt).length+(if([]:List qt).isEmpty then 0 else 1)<30))=true:=by rfl)
  (hline:(apos.endLine==cpos.line)=true:=by rfl) (hs:i5 [e] Z.X.env=(false,eval e Z.X.env)::i5 [] Z.X.env:=by rfl) (hplain:(mS cpos (i5 [] Z.X.env)).any (·.1)=false:=by rfl):WE Z ρ O (.Call (.Attribute o "extend" apos) [e] [] cpos) Φ:=by
 refine SJ nH PySem.F.slot_list_extend PySem.F.type_list_extend Pk (EJ h ?_) hbase hfew hline hs hplain
 rintro t O1 ⟨a,rfl,⟨ts,hts⟩,w⟩
 refine⟨OT hts,EK (EJ w ?_) hs⟩
 rintro u O2 ⟨us,vs,rfl,h1,h2,p⟩
 refine BC fun H v ws Q ok r1 r2 q=>?_
 cases r1.raw_inv
 obtain⟨w,rfl,r3⟩:=r2.one_inv
 obtain⟨c,ys,rfl,hc,_,r3⟩:=r3.lst_inv
 obtain⟨xs,hx,r⟩:=ok a us h1
 exact⟨a,c,xs,ys,rfl,rfl,hx,hc,by rw[r.length,r3.length];exact h2,q _ _ _ _ p (.put ok h1 (r.append r3)) .non⟩
noncomputable def De:T→Bool
 | .non=>true
 |_=>false
theorem Dv(hr:DF t=false)(ha:ET Z ρ O a t):EB Z ρ O (.Compare a [.Is] [.Constant .none j p1] pos) (De t):=BZ RG (Ao _) (fun Φ p H v w Q ok r1 r2 q=>by
 refine⟨r2.non_inv,?_⟩
 have e:decide (v=V.non)=De t:=by
  cases r1<;>first|rfl|cases hr
 rw[e]
 exact q _ H _ O p (.refl ok) (.bl _)) ha Cc
noncomputable def gT(C:Addr)(t:T):Sp:=fun vs H Q _=>∃x,vs=[.ref x]∧Rd H x (GQ C x)∧∀v H',Same H H'→(∀(K:a8) (O:AO),Rep K O H' v t)→Q v H'
end
section
variable {Z:Zx}
noncomputable def gU(Z:Zx)(e:Expr):TT:=fun σ H Q=>∃ρ O Φ,WT Z ρ O e Φ∧bJ Z ρ O Φ σ H Q
theorem cj:PT Z.X e (gU Z e):=fun pins s σ H Q I ⟨_,_,_,w,q⟩=>w pins s σ H Q I q
theorem LX(hp:qh (model Z.X.prog Z.X.w) Z.X.A Z.X.env Z.X.xe)(I:Nat→QE)(i0:∃m,I m ρ O)
  (step:∀m ρ' O',I m ρ' O'→WT Z ρ' O' c fun b O1=>if b=true then FY Z ρ' O1 body {nx:=fun ρ2 O2=>∃m',m'<m∧I m' ρ2 O2,rt:=Ψ.rt,bk:=Ψ.nx,ct:=fun ρ2 O2=>∃m',m'<m∧I m' ρ2 O2} else Ψ.nx ρ' O1):WS Z ρ O (.While c body [] pos) Ψ:=by
 refine PS.weak (Qx hp cj LO) fun D σ H q=>?_
 obtain⟨m0,i0⟩:=i0
 refine⟨fun m σ' H'=>∃ρ' O',I m ρ' O'∧Asr Z ρ' O' σ' H'∧Kp O H O' H',⟨m0,ρ,O,i0,q.1,.refl⟩,?_⟩
 rintro m σ1 H1 ⟨ρ1,O1,i1,a1,k1⟩
 refine⟨ρ1,O1,_,step m ρ1 O1 i1,a1,fun b H2 O2 p f=>?_⟩
 have kk:=k1.trans f.kp
 cases b with
 |true=>
  rw[if_pos rfl] at p
  show if true=true then _ else _
  rw[if_pos rfl]
  refine⟨fun σ2 H3=>∃ρ2 O3,(∃m',m'<m∧I m' ρ2 O3)∧Asr Z ρ2 O3 σ2 H3∧Kp O H O3 H3,?_,ρ1,O2,_,p,a1.step f,?_⟩
  ·rintro σ2 H3 ⟨ρ2,O3,⟨m',hm,i2⟩,a2,k2⟩
   exact⟨m',hm,ρ2,O3,i2,a2,k2⟩
  ·exact⟨fun ρ' O' σ' H' w a k=> ⟨ρ',O',w,a,kk.trans k⟩,q.2.rt,fun ρ' O' σ' H' w a k=>q.2.nx ρ' O' σ' H' w a (kk.trans k),fun ρ' O' σ' H' w a k=> ⟨ρ',O',w,a,kk.trans k⟩⟩
 |false=>
  rw[if_neg e8] at p
  show if false=true then _ else _
  rw[if_neg e8]
  exact q.2.nx ρ1 O2 σ1 H2 p (a1.step f) kk
theorem Vp(hk:∀H,OwnOk Z.K O1 H→Kp O1 H O2 H∧OwnOk Z.K O2 H)(hf:∀b us vs,Z.Oe b=some us→O1 b=some vs→∃us',O2 b=some us')(h:FY Z ρ O2 ss Ψ):FY Z ρ O1 ss Ψ:=PSs.weak h fun D σ H q=>by
 obtain⟨k,ok⟩:=hk H q.1.ok
 exact⟨⟨q.1.rl.kp k q.1.ok,⟨q.1.fr.kp.trans k,fun b us e=>by
  obtain⟨vs,e'⟩:=q.1.fr.own b us e
  exact hf b us vs e e',ok⟩⟩,q.2.step k⟩
end
section
variable {O:AO} {rs:List (Addr×List T)} {r:Addr×List T}
noncomputable def KW(O:AO)(rs:List (Addr×List T)):AO:=rs.foldl (fun O r=>Am O r.1 r.2) O
theorem CF:KW O (r::rs)=KW (Am O r.1 r.2) rs:=rfl
theorem SZ:KW O (rs++[r])=Am (KW O rs) r.1 r.2:=by unfold KW;rw[List.foldl_append];rfl
theorem EN(h:∀r∈rs,r.1≠p):KW O rs p=O p:=by
 induction rs generalizing O with
 |nil=>rfl
 |cons r rs ih=>
  rw[CF,ih fun s hs=>h s (jt _ hs),Ai (fun z=>h r (j4 ..) z.symm)]
theorem Sa(h:∀r∈rs,r.1≠p):Am (KW O rs) p vs=KW (Am O p vs) rs:=by
 induction rs generalizing O with
 |nil=>rfl
 |cons r rs ih=>
  rw[CF,ih fun s hs=>h s (jt _ hs),CF,FF (h r (j4 ..))]
theorem Eg(hn:(rs.map ni).Nodup)(h:r∈rs):KW O rs r.1=some r.2:=by
 induction rs generalizing O with
 |nil=>cases h
 |cons s rs ih=>
  rw[kg,mE] at hn
  rw[CF]
  rcases ju.mp h with rfl|h
  ·rw[EN fun s hs z=>hn.1 (jw.mpr ⟨s,hs,z⟩),AE]
  ·exact ih hn.2 h
theorem Vq(hn:(rs.map ni).Nodup)(h:rs[i]?=some (p,us)):Am (KW O rs) p vs=KW O (rs.set i (p,vs)):=by
 induction rs generalizing O i with
 |nil=>simp at h
 |cons s rs ih=>
  rw[kg,mE] at hn
  cases i with
  |zero=>
   simp at h
   subst h
   rw[List.set_cons_zero,CF,CF,Sa fun s hs z=>hn.1 (jw.mpr ⟨s,hs,z⟩),Aq]
  |succ i=>
   rw[List.set_cons_succ,CF,CF]
   exact ih hn.2 (by simpa using h)
theorem Vr(h:rs[i]?=some (p,us)):(rs.set i (p,vs)).map ni=rs.map ni:=by
 rw[qL]
 apply lN
 intro m
 by_cases hm:i=m
 ·subst hm
  have hl:=(jn.mp h).1
  rw[kB (by simpa using hl),i6,h];rfl
 ·rw[j7 hm]
noncomputable def IM(r:Addr×List T):T:=.raw (.ref r.1)
theorem LY{K:a8}:∀{rs:List (Addr×List T)} {xs:List V},Reps K O H xs (rs.map IM)→xs=rs.map fun r=>V.ref r.1
 | [],_,h=>h.nil_inv
 |r::rs,_,h=>by
  obtain⟨v,vs',rfl,h1,h2⟩:=h.cons_inv
  cases h1.raw_inv
  rw[LY h2];rfl
theorem LZ{K:a8}:∀{rs:List (Addr×List T)},(∀r∈rs,Rep K O H (.ref r.1) (.lst r.2))→Reps K O H (rs.map fun r=>V.ref r.1) (rs.map fun r=>T.lst r.2)
 | [],_=> .nil
 |r::rs,h=> .cons (h r (j4 ..)) (LZ fun s hs=>h s (jt _ hs))
theorem Sb(hn:(rs.map ni).Nodup)(hl:∀r∈rs,r.1≠l)(ho:∀r∈rs,O r.1=none)(he:∀r∈rs,Z.Oe r.1=none)
  (h:FY Z ρ (Am O l (rs.map fun r=>T.lst r.2)) ss Ψ):FY Z ρ (Am (KW O rs) l (rs.map IM)) ss Ψ:=by
 refine Vp (fun H ok=>?_) (fun b us vs e1 e2=>?_) h
 ·have k:Kp (Am (KW O rs) l (rs.map IM)) H (Am O l (rs.map fun r=>T.lst r.2)) H:=fun b o hb n=> ⟨hb,by
   by_cases h1:b=l
   ·rw[h1,AE] at n;cases n
   ·rw[Ai h1] at n ⊢
    by_cases h2:∃r∈rs,r.1=b
    ·obtain⟨r,hr,rfl⟩:=h2
     exact ho r hr
    ·rw[EN fun r hr z=>h2 ⟨r,hr,z⟩] at n
     exact n⟩
  refine⟨k,fun a ts e=>?_⟩
  by_cases h1:a=l
  ·subst h1
   rw[AE] at e
   cases e
   obtain⟨xs,hx,rx⟩:=ok a _ AE
   have:=LY rx
   subst this
   refine⟨_,hx,LZ fun r hr=>?_⟩
   obtain⟨ys,hy,ry⟩:=ok r.1 r.2 (by rw[Ai (hl r hr)];exact Eg hn hr)
   exact .lst hy (by rw[Ai (hl r hr)];exact ho r hr) (ry.kp k ok)
  ·rw[Ai h1] at e
   have hz:∀r∈rs,r.1≠a:=fun r hr z=>by rw[←z,ho r hr] at e;cases e
   obtain⟨xs,hx,rx⟩:=ok a ts (by rw[Ai h1,EN hz];exact e)
   exact⟨xs,hx,rx.kp k ok⟩
 ·by_cases h1:b=l
  ·rw[h1];exact⟨_,AE⟩
  ·rw[Ai h1] at e2 ⊢
   by_cases h2:∃r∈rs,r.1=b
   ·obtain⟨r,hr,rfl⟩:=h2
    rw[he r hr] at e1;cases e1
   ·rw[EN fun r hr z=>h2 ⟨r,hr,z⟩] at e2
    exact⟨_,e2⟩
end
theorem Iv{spos:Pos}{Ψ:Es}(hsw:pe (.ListComp elt [⟨tg,iter,ifs,0⟩] csc pos) (some (.Name x px)) spos.line Z.X.env=pure true)(hN:Z.X.N.Nodup)(hc:Z.X.calm=true)(ok:LcOk Z.X csc nc cap)
  (h:WI Z ρ O tg iter (Up Z ρ elt tg ifs csc nc cap fun acc O'=>∀a,O' a=none→Ψ.nx (ρ.set i (some (.raw (.ref a)))) (Am O' a acc))) (hx:Z.X.N[i]?=some x:=by rfl) (hk:Z.X.env.scope.names.lookup x=some .local:=by rfl)
  (hs:∀x,lW iter Z.X.env x=pure x:=by intro _;rfl):WS Z ρ O (.Assign [.Name x px] (.ListComp elt [⟨tg,iter,ifs,0⟩] csc pos) spos) Ψ:=
 PS.weak (Ki hN hx hk hsw hc ok h Za SL Zb hs) fun D σ H q=>SM q.1 h fun acc O' p H' p1 n f nb=>q.2.nx _ _ _ H' (p1 p n) ⟨(q.1.step f).rl.set (.raw _),(q.1.step f).fr⟩ f.kp
end L2.TL
namespace Gr
open L2.TL
variable {ps:List (Int×Int)} {n:Int} {S:List Int} {v u:Int} {d s k:Nat} {fs:List (Option Nat)}
noncomputable def Adj(ps:List (Int×Int))(u v:Int):Prop:=(u,v)∈ps∨(v,u)∈ps
theorem Adj.symm(h:Adj ps u v):Adj ps v u:=Or.symm h
inductive W(ps:List (Int×Int))(S:List Int):Nat→Int→Prop
 |at{v:Int}:v∈S→W ps S 0 v
 |go {k:Nat} {u v:Int}:W ps S k u→Adj ps u v→W ps S (k+1) v
noncomputable def IsD(ps:List (Int×Int))(S:List Int)(v:Int)(d:Nat):Prop:=W ps S d v∧∀j,j<d→¬W ps S j v
theorem IsD.uniq(a:IsD ps S v d)(b:IsD ps S v e):d=e:=by
 rcases nj d e with h|h|h
 ·exact absurd a.1 (b.2 d h)
 ·exact h
 ·exact absurd b.1 (a.2 e h)
theorem W.least(h:W ps S k v):∃d,d≤k∧IsD ps S v d:=by
 induction k using sH with
 |_ k ih=>
  by_cases hx:∃j,j<k∧W ps S j v
  ·obtain⟨j,hj,w⟩:=hx
   obtain⟨d,hd,i⟩:=ih j hj w
   exact⟨d,by omega,i⟩
  ·exact⟨k,jm _,h,fun j hj w=>hx ⟨j,hj,w⟩⟩
theorem IsD.prev(h:IsD ps S v (s+1)):∃u,IsD ps S u s∧Adj ps u v:=by
 obtain⟨w,m⟩:=h
 cases w with
 |go w a=>exact⟨_,⟨w,fun j hj w'=>m (j+1) (by omega) (.go w' a)⟩,a⟩
theorem IsD.down(h:IsD ps S v (s+k)):∃u,IsD ps S u s:=by
 induction k generalizing v with
 |zero=>exact⟨v,h⟩
 |succ k ih=>
  obtain⟨u,hu,_⟩:=IsD.prev (s:=s+k) h
  exact ih hu
noncomputable def Sd(n:Int)(ps:List (Int×Int)):Prop:=∀p∈ps,0≤p.1∧p.1<p.2∧p.2<n
theorem Adj.inb(hw:Sd n ps)(h:Adj ps u v):0≤v∧v<n∧u≠v:=by
 rcases h with h|h
 ·have:=hw _ h
  simp only at this
  omega
 ·have:=hw _ h
  simp only at this
  omega
theorem W.inb(hw:Sd n ps)(hS:∀z∈S,0≤z∧z<n)(h:W ps S k v):0≤v∧v<n:=by
 cases h with
 |«at» h=>exact hS _ h
 |go _ a=>exact⟨(a.inb hw).1,(a.inb hw).2.1⟩
theorem IsD.lt(hw:Sd n ps)(hS:∀z∈S,0≤z∧z<n)(h:IsD ps S v s):(s:Int)<n:=by
 have key:∃L:List Nat,L.length=s+1∧L.Nodup∧∀u∈L,∃i,i≤s∧IsD ps S (u:Int) i:=by
  induction s generalizing v with
  |zero=>
   have:=h.1.inb hw hS
   refine⟨[v.toNat],rfl,by simp,fun u hu=> ⟨0,jm _,?_⟩⟩
   rw[jz.mp hu,nK this.1]
   exact h
  |succ s ih=>
   obtain⟨u,hu,_⟩:=h.prev
   obtain⟨L,l1,l2,l3⟩:=ih hu
   have hb:=h.1.inb hw hS
   refine⟨v.toNat::L,by simp[l1],mE.mpr ⟨fun hm=>?_,l2⟩,fun z hz=>?_⟩
   ·obtain⟨i,hi,q⟩:=l3 _ hm
    rw[nK hb.1] at q
    have:=q.uniq h
    omega
   ·rcases ju.mp hz with rfl|hz
    ·exact⟨s+1,jm _,by rw[nK hb.1];exact h⟩
    ·obtain⟨i,hi,q⟩:=l3 z hz
     exact⟨i,by omega,q⟩
 obtain⟨L,l1,l2,l3⟩:=key
 have:=StT.Be n.toNat L l2 (fun x hx=>by
  obtain⟨i,_,q⟩:=l3 x hx
  have:=q.1.inb hw hS
  omega)
 omega
structure All(n:Int)(ps:List (Int×Int))(S:List Int)(fs:List (Option Nat)):Prop where
 len:(fs.length:Int)=n
 eq:∀v:Int,0≤v→v<n→∀d,fs[v.toNat]?=some (some d)↔IsD ps S v d
theorem Se{L:List Int}(h:L.Nodup)(hb:∀z∈L,0≤z∧z<n):L.length≤n.toNat:=by
 have key:∀L:List Int,L.Nodup→(∀z∈L,0≤z∧z<n)→(L.map ub).Nodup:=by
  intro L
  induction L with
  |nil=>intro _ _;simp
  |cons a L ih=>
   intro h hb
   rw[mE] at h
   rw[kg,mE]
   refine⟨fun hm=>?_,ih h.2 fun z hz=>hb z (jt _ hz)⟩
   obtain⟨z,hz,e⟩:=jw.mp hm
   have h1:=hb z (jt _ hz)
   have h2:=hb a (j4 ..)
   have:z=a:=by omega
   subst this
   exact h.1 hz
 have:=StT.Be n.toNat (L.map ub) (key L h hb) (fun x hx=>by
  obtain⟨z,hz,rfl⟩:=jw.mp hx
  have:=hb z hz
  omega)
 rw[b9] at this
 exact this
end Gr
namespace L2.TL
open PySem PySem.Spec PyProof.Rows
theorem La(h:RelV v u):∀n,Vals (j0 n v) (j0 n u)
 |0=> .nil
 |n+1=> .cons h (La h n)
theorem Lb:∀(n:Nat) (acc:Array Value),uw (fun x1 x2=>x1++x2) acc (j0 n [u].toArray)=acc++(j0 n u).toArray
 |0,acc=>by simp
 |n+1,acc=>by
  rw[List.replicate_succ,List.foldl_cons,Lb n]
  rw[List.replicate_succ]
  apply o8
  simp
noncomputable def ck(K:a8):R2:=fun x y H Q=>∃(a:Addr) (i:Int) (v:V),x=.ref a∧y=.int i∧SqL K H a [v]∧(0≤i∧i≤1000)∧∀p,H p=none→Q (.ref p) (upd H p (.lst (j0 i.toNat v)))
theorem Of:Cy X (nE .Mult) (ck X.K):=by
 intro pins s σ H x y v u Q I rx ry h
 obtain⟨a,i,e,rfl,rfl,ha,hi,q⟩:=h
 cases rx
 obtain⟨tk,rfl⟩:=ry
 obtain⟨its,rv,p,_⟩:=I.list ha
 obtain⟨⟨cls,d,data,sl⟩,k,ho,hc,hdd,hd⟩:=id p
 simp only at hc hd
 subst hc hd
 obtain⟨u1,rfl,ru⟩:=Vals.one rv
 have hf:=I.hok.fresh (jm s.heap.objs.size)
 refine wpAny_binaryOp_repeat_ref (T:="list") (U:="int") (by decide) ⟨_,ho,rfl⟩ (fun s'=>typeIs_int s' i tk) noFill_list_mul F.fills_int_mul F.slot_int_rmul repeat_list F.slot_int_index.lookup
  (qU F.slot_int_rmul (typeIs_int s i tk) F.entry_int_rmul (F.args_int_rmul_2 _ _) (lm_int_rmul_list_any i tk a [u1].toArray k d sl)
   ⟨ho,rfl,⟨_,ho,rfl⟩,qU F.slot_list_mul ⟨_,ho,rfl⟩ F.entry_list_mul (F.args_list_mul_2 _ _)
    (lm_list_mul_any a [u1].toArray k d sl i tk (by simp[Builtin.List.listFitsIndex];omega) (by simp;omega) (by simp[om,sizeLine];omega)) ⟨ho,?_⟩⟩)
 have ef:uw (fun x1 x2=>x1++x2) #[] (j0 (if[u1].toArray.isEmpty=true then 0 else i.toNat) [u1].toArray)=(j0 i.toNat u1).toArray:=by
  show uw (fun x1 x2=>x1++x2) #[] (j0 i.toNat [u1].toArray)=_
  rw[Lb]
  simp
 rw[ef]
 exact⟨.ref _,_,I.laid (t':=s.toks) (o:=.lst (j0 i.toNat e)) (fun b ob q=>c9 _ q) (jm _) ⟨by rw[ml,lB];omega,j0 i.toNat u1,0,La ru _,kb _ rfl⟩,rfl,q _ hf⟩
theorem Rep.repl{K:a8}(h:Rep K O H v t):∀n,Reps K O H (j0 n v) (j0 n t)
 |0=> .nil
 |n+1=> .cons h (Rep.repl h n)
theorem Vs(ha:ET Z ρ O a (.lst [t]))(hb:ET Z ρ O b (.int i))(hi:0≤i∧i≤1000)(k:∀p,O p=none→Φ (.raw (.ref p)) (Am O p (j0 i.toNat t))):WE Z ρ O (.BinOp a .Mult b pos) Φ:=
 LK Of (ET.we ha (ET.we hb fun H v w Q ok r1 r2 q=>by
  obtain⟨a,xs,rfl,h1,_,r1⟩:=r1.lst_inv
  obtain⟨v,rfl,g⟩:=r1.one_inv
  exact⟨a,i,v,rfl,r2.int_inv,.inl (.inl h1),hi,fun l hl=>q _ _ _ _ (k l (ok.none_of hl)) (.newO ok hl (Rep.repl g _)) (.raw _)⟩))
end L2.TL
namespace L2
open PySem PySem.Spec PyProof.Rows
end L2
namespace L2.TL
open PySem PySem.Spec PyProof.Rows
end L2.TL
namespace L2
open PySem PySem.Spec PySem.Calls PyProof.Rows
end L2
namespace L2.TL
open PySem PySem.Spec PyProof.Rows
end L2.TL
namespace SrtG
open PySem PySem.Calls PySem.W PyProof.Rows
noncomputable abbrev Kd:=Str×List Int
noncomputable def kws:List Str:=["cube","full","ladder","lines","ring","spokes","twisted","two"]
noncomputable def Zm(x:Str):Int:=(kws.idxOf x:Nat)
noncomputable def Iw:List Int→Int
 | []=>0
 | [a]=>1000*(a+1)
 |a::b::_=>1000*(a+1)+b+1
noncomputable def Iy(k:Kd):Int:=1000000*Zm k.1+Iw k.2
structure KGood(k:Kd):Prop where
 w:k.1∈kws
 l:k.2.length=1∨k.2.length=2
 b:∀a∈k.2,0≤a∧a<100
noncomputable def QL(h:Heap)(v:Value)(k:Kd):Prop:=∃x o xs n t,v=.ref x∧h.get? x=some o∧o.cls=.type "tuple"∧o.data=.seq (qd k.1 t::xs).toArray n∧oU xs k.2
noncomputable def Zo:Value→Option Int
 | .int a _=>some a
 |_=>none
noncomputable def gX:List Value→Kd
 | .str x _::vs=> (x,vs.filterMap Zo)
 |_=> ("",[])
theorem Lc:∀{vs:List Value} {ns:List Int},oU vs ns→vs.filterMap Zo=ns
 |_,_,.nil=>rfl
 |_,_,.cons n t r=>by rw[lT];show n::_=_;rw[Lc r]
noncomputable def QM(h:Heap)(k:Keyed):Int:=match k.1 with
  | .ref x=>match h.get? x with
    |some o=>match o.data with
     | .seq xs _=>Iy (gX xs.toList)
     |_=>0
    |_=>0
  |_=>0
theorem EO(p:QL h v.1 k):QM h v=Iy k:=by
 obtain⟨x,o,xs,n,t,e1,e2,_,e3,e4⟩:=p
 unfold QM
 rw[e1]
 dsimp only
 rw[e2]
 dsimp only
 rw[e3]
 show Iy (k.1,xs.filterMap Zo)=_
 rw[Lc e4]
theorem Sf:∀x∈kws,∀y∈kws,decide (x.cps.toList<y.cps.toList)=decide (Zm x<Zm y):=by decide+kernel
theorem QN:∀x∈kws,∀y∈kws,Zm x=Zm y→x=y:=by decide+kernel
noncomputable def jX(h:Heap)(k:Keyed):Prop:=∃kd,QL h k.1 kd∧KGood kd
theorem Sg(h:l.length=1∨l.length=2)(b:∀a∈l,0≤a∧a<100):0≤Iw l∧Iw l<1000000:=by
 rcases h with h|h
 ·match l,h,b with
  | [a],_,b=>have:=b a (by simp);simp only[Iw];omega
 ·match l,h,b with
  | [a,c],_,b=>have:=b a (by simp);have:=b c (by simp);simp only[Iw];omega
theorem FM(h:oU xs ns)(l:ns.length=1):∃a t,ns=[a]∧xs=[.int a t]:=by
 cases h with
 |nil=>cases l
 |cons a t h=>
  cases h with
  |nil=>exact⟨a,t,rfl,rfl⟩
  |cons b u h=>simp at l
theorem Hf(h:oU xs ns)(l:ns.length=2):∃a t b u,ns=[a,b]∧xs=[.int a t,.int b u]:=by
 cases h with
 |nil=>cases l
 |cons a t h=>
  obtain⟨b,u,rfl,rfl⟩:=FM h (by simpa using l)
  exact⟨a,t,b,u,rfl,rfl⟩
theorem Sh(hx:oU xs ns)(hy:oU ys ms)(lx:ns.length=1∨ns.length=2)(ly:ms.length=1∨ms.length=2)(bx:∀a∈ns,0≤a∧a<100)(bY:∀a∈ms,0≤a∧a<100)(h:Q (decide (Iw ns<Iw ms)) s):
  KatLex prog w A true (decide (xs.length<ys.length)) Q (xs.zip ys) 1 s:=by
 have fin:∀r:Bool,r=decide (Iw ns<Iw ms)→Q r s:=fun r e=>e▸h
 have one:∀{a c:Int} {t u:Tok} {r:List (Value×Value)} {f:Bool},(a=c→KatLex prog w A true f Q r 2 s)→(a≠c→decide (a<c)=decide (Iw ns<Iw ms))→KatLex prog w A true f Q ((.int a t,.int c u)::r) 1 s:=fun{a c t u r f} h1 h2=>by
  refine kat_cons (o9 (kat_go (fun e=>kat_yes (h1 (eq_of_beq e))) fun e=>?_))
  have e':a≠c:=fun q=>by rw[q] at e;simp at e
  exact kat_no (kat_one _ _ (lt_int (fin _ (h2 e'))))
 have two:∀{a c:Int} {t u:Tok} {r:List (Value×Value)} {f:Bool},(a=c→KatLex prog w A true f Q r 3 s)→(a≠c→decide (a<c)=decide (Iw ns<Iw ms))→KatLex prog w A true f Q ((.int a t,.int c u)::r) 2 s:=fun{a c t u r f} h1 h2=>by
  refine kat_cons (o9 (kat_go (fun e=>kat_yes (h1 (eq_of_beq e))) fun e=>?_))
  have e':a≠c:=fun q=>by rw[q] at e;simp at e
  exact kat_no (kat_one _ _ (lt_int (fin _ (h2 e'))))
 rcases lx with lx|lx
 ·obtain⟨a,t,rfl,rfl⟩:=FM hx lx
  rcases ly with ly|ly
  ·obtain⟨c,u,rfl,rfl⟩:=FM hy ly
   refine one (fun e=>kat_nil (fin _ ?_)) fun e=>?_
   ·subst e;simp
   ·simp only[Iw];exact decide_eq_decide.mpr (by omega)
  ·obtain⟨c,u,d,v,rfl,rfl⟩:=Hf hy ly
   have:=bY d (by simp)
   refine one (fun e=>kat_nil (fin _ ?_)) fun e=>?_
   ·subst e;simp only[Iw];exact decide_eq_decide.mpr ⟨fun _=>by omega,fun _=>by simp⟩
   ·simp only[Iw];exact decide_eq_decide.mpr (by omega)
 ·obtain⟨a,t,b,t',rfl,rfl⟩:=Hf hx lx
  have:=bx b (by simp)
  rcases ly with ly|ly
  ·obtain⟨c,u,rfl,rfl⟩:=FM hy ly
   refine one (fun e=>kat_nil (fin _ ?_)) fun e=>?_
   ·subst e;simp only[Iw];exact decide_eq_decide.mpr ⟨fun z=>by simp at z,fun z=>by omega⟩
   ·simp only[Iw];exact decide_eq_decide.mpr (by omega)
  ·obtain⟨c,u,d,v,rfl,rfl⟩:=Hf hy ly
   have:=bY d (by simp)
   refine one (fun e=>two (fun e2=>kat_nil (fin _ ?_)) fun e2=>?_) fun e=>?_
   ·subst e;subst e2;simp
   ·subst e;simp only[Iw];exact decide_eq_decide.mpr (by omega)
   ·simp only[Iw];exact decide_eq_decide.mpr (by omega)
theorem QO:Px prog w A E s (uh true) (jX s.heap) (QM s.heap):=by
 intro st x y Q hk hx hy h
 obtain⟨k,px,gx⟩:=hx
 obtain⟨m,py,gy⟩:=hy
 rw[EO px,EO py] at h
 obtain⟨p,o,xs,n,t,e1,e2,_,e3,e4⟩:=px
 obtain⟨p',o',ys,n',t',e1',e2',_,e3',e4'⟩:=py
 rw[lt'_eq]
 refine i9 (pF ?_)
 rw[hk,e1,e1']
 refine i9 (qv (pA ?_))
 refine PySem.W.kat_lt e2 e3 e2' e3' ?_
 have fin:∀r:Bool,r=decide (Iy k<Iy m)→(s=s∧wpS (model prog w) A E s (match (Except.ok r:Except Value Bool) with
   | .ok b=>pure (some b)
   | .error e=>do
    modify (fun s=>qX (kindOf s) (arrOf s) (pendingOf s) (gallopOf s) (some e))
    pure none) Q st):=fun r hr=> ⟨rfl,by rw[hr];exact jq h⟩
 have b1:=Sg gx.l gx.b
 have b2:=Sg gy.l gy.b
 have sz:decide ((qd k.1 t::xs).toArray.size< (qd m.1 t'::ys).toArray.size)=decide (xs.length<ys.length):=decide_eq_decide.mpr (by simp)
 rw[sz]
 refine rW (r:=xs.zip ys) (wpAny_eqBool_str ?_)
 refine sW (fun e=>?_) (fun e=>?_)
 ·have e':k.1=m.1:=of_decide_eq_true e
  refine sE (Sh e4 e4' gx.l gy.l gx.b gy.b (fin _ ?_))
  unfold Iy
  rw[e']
  exact decide_eq_decide.mpr (by omega)
 ·have e':k.1≠m.1:=of_decide_eq_false e
  refine sV (oneLt_str (fin _ ?_))
  rw[Sf _ gx.w _ gy.w]
  have ne:Zm k.1≠Zm m.1:=fun z=>e' (QN _ gx.w _ gy.w z)
  unfold Iy
  exact decide_eq_decide.mpr (by omega)
noncomputable def KdsOk(h:Heap)(vs:List Value):Prop:=∀v,v∈vs→∃k,QL h v k∧KGood k
theorem KdsOk.kat:∀{vs:List Value},KdsOk h vs→∃fs:List Value,tB h vs fs∧fs.length=vs.length∧∀v∈fs,∃a t,v=.str a t
 | [],_=> ⟨[],tB.nil,rfl,fun v hv=>by cases hv⟩
 |v::vs,ok=>by
  obtain⟨fs,k,hl,hf⟩:=KdsOk.kat (vs:=vs) fun v hv=>ok v (.tail _ hv)
  obtain⟨a,⟨x,o,xs,n,t,rfl,e,hc,hd,_⟩,_⟩:=ok v (.head _)
  exact⟨.str a.1 t::fs,tB.cons e hc hd rfl k,by rw[km,km,hl],fun v hv=>by
   rcases ju.mp hv with rfl|hv
   ·exact⟨a.1,t,rfl⟩
   ·exact hf v hv⟩
theorem KdsOk.kept(ok:KdsOk h vs)(k:∀b o,o.cls=.type "tuple"→h.get? b=some o→h'.get? b=some o):KdsOk h' vs:=fun v hv=>by
 obtain⟨a,⟨x,o,xs,n,t,e1,e2,e3,e4,e5⟩,q⟩:=ok v hv
 exact⟨a,⟨x,o,xs,n,t,e1,k _ _ e3 e2,e3,e4,e5⟩,q⟩
theorem KdsOk.rk(ok:KdsOk h vs)(k:∀b o,o.cls=.type "tuple"→h.get? b=some o→h'.get? b=some o)(hv:v∈vs):QM h' (v,v)=QM h (v,v):=by
 obtain⟨a,⟨x,o,xs,n,t,e1,e2,e3,e4,e5⟩,q⟩:=ok v hv
 rw[EO (v:=(v,v)) (k:=a) ⟨x,o,xs,n,t,e1,e2,e3,e4,e5⟩,EO (v:=(v,v)) (k:=a) ⟨x,o,xs,n,t,e1,k _ _ e3 e2,e3,e4,e5⟩]
theorem Si:Rk prog w (fun h v=>∃k,QL h v k∧KGood k) (fun h v=>QM h (v,v)) (.type "str") where
 cmp:=by
  intro A E s st x y Q hk hx hy h
  obtain⟨a,t,q⟩:=hx
  obtain⟨c,u,r⟩:=hy
  exact QO st x y Q hk ⟨a,t,q⟩ ⟨c,u,r⟩ h
 kept:=fun{h h' v} ok k=> ⟨KdsOk.kept (vs:=[v]) (fun u hu=>jz.mp hu▸ok) k v (by simp),KdsOk.rk (vs:=[v]) (fun u hu=>jz.mp hu▸ok) k (by simp)⟩
 kat:=fun{h vs} ok=>by
  obtain⟨fs,kt,hl,hf⟩:=KdsOk.kat ok
  refine⟨fs,kt,hl,fun v hv M h'=>?_⟩
  obtain⟨x,t,rfl⟩:=hf v hv
  exact fun _ _ _ _ _ q=>b8 q
 t1:=rfl
 t2:=rfl
end SrtG
namespace L2
open PySem PySem.Spec PySem.Calls PyProof.Rows SrtG
theorem Vt{α:Type}{R:α→α→Prop}{vs:List α}(h:vs.length<2):vs.Pairwise R:=by
 cases vs with
 |nil=>exact .nil
 |cons x l=>
  cases l with
  |nil=>exact mZ _ _
  |cons y l=>simp only[km] at h;omega
theorem Bm{α β:Type}{f:α→β}{o b:List β}(h:o.Perm b):∀{l:List α},b=l.map f→∃m:List α,m.Perm l∧o=m.map f:=by
 induction h with
 |nil=>
  intro l e
  cases l with
  |nil=>exact⟨[],.refl _,rfl⟩
  |cons x l=>cases e
 |cons x p ih=>
  intro l e
  cases l with
  |nil=>cases e
  |cons y l=>
   injection e with e1 e2
   obtain⟨m,h1,h2⟩:=ih e2
   exact⟨y::m,h1.cons y,by rw[kg,←h2,e1]⟩
 |swap x y t=>
  intro l e
  cases l with
  |nil=>cases e
  |cons u l=>
   cases l with
   |nil=>injection e with e1 e2;cases e2
   |cons v l=>
    injection e with e1 e2
    injection e2 with e3 e4
    exact⟨v::u::l,.swap ..,by rw[kg,kg,e1,e3,e4]⟩
 |trans p q ih1 ih2=>
  intro l e
  obtain⟨m,h1,h2⟩:=ih2 e
  obtain⟨m',h3,h4⟩:=ih1 h2
  exact⟨m',h3.trans h1,h4⟩
theorem NG(ho:s.heap.get? l=some o)(hc:o.cls=.type "list")(hd:o.data=.seq vs.toArray n)(R:Rk prog w U rk T)(ok:∀v∈vs,U s.heap v)(hn:vs.length≤9000000)
  (h:∀(h':Heap) (a:Addr) (out:List Value) (c:Nat),s.heap.get? a=none→h'.get? a=some (lp "list" out.toArray c)→(∀b o,s.heap.get? b=some o→h'.get? b=some o)→out.Perm vs→out.Pairwise (fun x y=>rk s.heap x≤rk s.heap y)→Q (.ref a) {s with heap:=h'}):
  wpAny (model prog w) A (call (.builtin "sorted") [.ref l]) Q E s:=by
 refine Calls.call_function_entry ud tR tU (t4 _) ?_
 unfold Builtin.«sorted»
 refine a9 (m:=checkCount "sorted" 1 1 _) (b8 ?_)
 refine a9 (wpAny_collect_seq l (.inl rfl) ho hc hd (fun h1 hk1=>?_) (by rw[jy,lB];omega))
 show wpAny _ _ (newList vs>>=_) _ _ _
 refine a9 (qm ?_ (by rw[lB];omega))
 have hoL:(h1.push (lp "list" vs.toArray 0)).get? h1.objs.size=some (lp "list" vs.toArray 0):=kb _ rfl
 have keep:∀b o,s.heap.get? b=some o→(h1.push (lp "list" vs.toArray 0)).get? b=some o:=fun b o e=>c9 _ (hk1 b o e)
 have ok1:∀v∈vs,U (h1.push (lp "list" vs.toArray 0)) v:=fun v hv=> (R.kept (ok v hv) fun b o _ e=>keep b o e).1
 have fin:∀(out:List Value) (c:Nat) (h':Heap),out.Perm vs→out.Pairwise (fun x y=>rk (h1.push (lp "list" vs.toArray 0)) x≤rk (h1.push (lp "list" vs.toArray 0)) y)→h'.get? h1.objs.size=some (lp "list" (sq out) c)→(∀b o,b≠h1.objs.size→(h1.push (lp "list" vs.toArray 0)).get? b=some o→h'.get? b=some o)→Q (.ref h1.objs.size) {s with heap:=h'}:=fun out c h' pm pw hg hk=>by
  refine h _ h1.objs.size out c ?_ hg (fun b o e=>?_) pm ?_
  ·cases e:s.heap.get? h1.objs.size with
   |none=>rfl
   |some o'=>exact absurd (jo (hk1 _ _ e)) (lH _)
  ·exact hk b o (ke (jo (hk1 b o e))) (keep b o e)
  ·refine lS (fun{x y} hx hy q=>?_) pw
   rw[(R.kept (ok _ (pm.mem_iff.mp hx)) fun b o _ e=>keep b o e).2,(R.kept (ok _ (pm.mem_iff.mp hy)) fun b o _ e=>keep b o e).2] at q
   exact q
 show wpAny _ _ _ _ _ {s with heap:=h1.push (lp "list" vs.toArray 0)}
 refine a9 (ko (mG sN ⟨_,hoL,rfl⟩ sC ?body (sT _)))
 by_cases hlen:vs.length<2
 ·refine StT.LG (s:={s with heap:=h1.push (lp "list" vs.toArray 0)}) hoL hlen fun c h2 hg hk=> ⟨_,rfl,b8 ⟨_,rfl,fin vs c h2 (.refl _) ?_ hg hk⟩⟩
  exact Vt hlen
 ·exact LD (s:={s with heap:=h1.push (lp "list" vs.toArray 0)}) hoL R ok1 (by omega) hn fun out c h' pm pw hg hk=> ⟨_,rfl,b8 ⟨_,rfl,fin out c h' pm pw hg hk⟩⟩
section
variable {σ:St}
noncomputable def fJ(k:Kd):List V:=.str k.1::k.2.map V.int
theorem Inv.kdAt(I:Inv X pins σ H s)(h:GG X.K H x (fJ k)):QL s.heap (.ref x) k:=by
 obtain⟨its,r,⟨o,ho,hc,n,hd⟩,hz⟩:=I.tuple h
 cases r with
 |cons r1 r2=>
  obtain⟨t,rfl⟩:=r1
  exact⟨x,o,_,n,t,rfl,ho,hc,hd,MW r2⟩
theorem Hg:∀{ps:List (Kd×Addr)} {us:List Value},Vals (ps.map fun p=>V.ref p.2) us→us=ps.map fun p=>Value.ref p.2
 | [],us,r=>by rw[pj] at r;cases r;rfl
 |p::ps,us,r=>by
  rw[kg] at r
  cases r with
  |cons r1 r2=>
   rw[Hg r2]
   have r1:_=Value.ref p.2:=r1
   rw[r1]
   rfl
theorem Hi:∀(ps:List (Kd×Addr)),Vals (ps.map fun p=>V.ref p.2) (ps.map fun p=>Value.ref p.2)
 | []=> .nil
 |p::ps=> .cons rfl (Hi ps)
theorem Js:Bb X (.builtin "sorted") (fun xs H Q=>∃(a:Addr) (ks:List (Kd×Addr)),xs=[.ref a]∧SqL X.K H a (ks.map fun p=>V.ref p.2)∧(∀k x,(k,x)∈ks→GG X.K H x (fJ k)∧KGood k)∧2≤ks.length∧ks.length≤4096∧
  ∀(p:Addr) (ms:List (Kd×Addr)),H p=none→ms.Perm ks→ms.Pairwise (fun x y=>Iy x.1≤Iy y.1)→Q (.ref p) (upd H p (.lst (ms.map fun p=>V.ref p.2)))):=by
 intro pins s σ H xs us Q I r h
 obtain⟨a,ks,rfl,hS,hk,h2,hn,q⟩:=h
 obtain⟨u,rfl,ru⟩:=Vals.one r
 cases ru
 obtain⟨its,rv,⟨o,n,e1,e2,_,e3⟩,_⟩:=I.list hS
 have ei:=Hg rv
 subst ei
 have at_:∀k x,(k,x)∈ks→QL s.heap (.ref x) k:=fun k x h=>I.kdAt (hk k x h).1
 refine NG e1 e2 e3 Si (fun v hv=>?_) (by rw[b9];omega) fun h' b out c hb hg kp pm pw=>?_
 ·obtain⟨⟨k,x⟩,hx,rfl⟩:=jw.mp hv
  exact⟨k,at_ k x hx,(hk k x hx).2⟩
 ·obtain⟨ms,pm',rfl⟩:=Bm pm rfl
  have hf:H b=none:=I.hok.none_of hb
  refine⟨.ref b,upd H b (.lst (ms.map fun p=>V.ref p.2)),I.laidF (t':=s.toks) kp hb ⟨?_,_,c,Hi ms,hg⟩,rfl,q b ms hf pm' ?_⟩
  ·rw[b9,pm'.length_eq,lB]
   omega
  ·rw[lY] at pw
   refine lS (fun{x y} hx hy z=>?_) pw
   rw[EO (v:=(Value.ref x.2,Value.ref x.2)) (at_ x.1 x.2 (pm'.mem_iff.mp hx)),EO (v:=(Value.ref y.2,Value.ref y.2)) (at_ y.1 y.2 (pm'.mem_iff.mp hy))] at z
   exact z
end
end L2
namespace L2.TL
open PySem PySem.Spec PyProof.Rows SrtG
noncomputable def kT(k:Kd):T:=.tup (.str k.1::k.2.map T.int)
section
variable {K:a8}
theorem Hj:∀{ks:List Kd} {xs:List V},Reps K O H xs (ks.map kT)→∃qs:List (Kd×Addr),xs=qs.map (fun p=>V.ref p.2)∧qs.map (·.1)=ks∧∀k x,(k,x)∈qs→H x=some (.tup (fJ k))
 | [],xs,r=> ⟨[],r.nil_inv,rfl,fun _ _ h=>by cases h⟩
 |p::ks,xs,r=>by
  obtain⟨v,vs',rfl,h,r'⟩:=Reps.cons_inv r
  obtain⟨a,ys,rfl,ha,r2⟩:=h.tup_inv
  obtain⟨v2,vs2,rfl,h3,r3⟩:=Reps.cons_inv r2
  cases h3.str_inv
  cases Reps.ints (ns:=p.2) r3
  obtain⟨qs,rfl,e,hk⟩:=Hj r'
  refine⟨(p,a)::qs,rfl,by rw[kg,e],fun k x h=>?_⟩
  rcases ju.mp h with h|h
  ·cases h;exact ha
  ·exact hk k x h
theorem Hk:∀{qs:List (Kd×Addr)},(∀k x,(k,x)∈qs→H x=some (.tup (fJ k)))→Reps K O H (qs.map fun p=>V.ref p.2) ((qs.map (·.1)).map kT)
 | [],_=> .nil
 | (k,x)::qs,h=> .cons (.tup (h k x (j4 ..)) (.cons (.str _) (EM _))) (Hk fun k x hk=>h k x (jt _ hk))
end
section
variable {p pos:Pos}
theorem NH(m:Z.X.mg "sorted" =none)(h:ET Z ρ O e (.lst (ks.map kT)))(hk:∀k∈ks,KGood k)(h2:2≤ks.length)(hn:ks.length≤4096)(k:∀ms:List Kd,ms.Perm ks→ms.Pairwise (fun x y=>Iy x≤Iy y)→Φ (.lst (ms.map kT)) O)(hg:Gl Z.X "sorted":=by rfl)
  (he:i5 [e] Z.X.env=(false,eval e Z.X.env)::i5 [] Z.X.env:=by rfl):WE Z ρ O (.Call (.Name "sorted" p) [e] [] pos) Φ:=
 LN Js m Jk (AX h AD he _ (fun H vs Q ok r q=>by
  obtain⟨v,rfl,r1⟩:=r.one_inv
  obtain⟨a,xs,rfl,h1,_,r1⟩:=r1.lst_inv
  obtain⟨qs,rfl,rfl,hq⟩:=Hj r1
  refine⟨a,qs,rfl,.inl (.inl h1),fun k x hx=> ⟨.inl (.inl (hq k x hx)),hk k (jw.mpr ⟨(k,x),hx,rfl⟩)⟩,by simpa using h2,by simpa using hn,fun p ms hp pm pw=>?_⟩
  have r2:Reps Z.K O H (ms.map fun p=>V.ref p.2) ((ms.map (·.1)).map kT):=Hk fun k x hx=>hq k x (pm.mem_iff.mp hx)
  exact q _ _ _ O (k (ms.map (·.1)) (pm.map _) (lY.mpr pw)) (.new ok hp) (.lst AL (ok.none_of hp) (r2.kp (BO ok hp) ok)))) hg (by decide) (by decide) he
theorem Hl{ss:List Kd}(m:Z.X.mg "sorted" =none)(h:ET Z ρ O e (.lst (ks.map kT)))(hk:∀k∈ks,KGood k)(h2:2≤ks.length)(hn:ks.length≤4096)(pm:ss.Perm ks)(pw:ss.Pairwise (fun x y=>Iy x<Iy y))(hg:Gl Z.X "sorted":=by rfl)
  (he:i5 [e] Z.X.env=(false,eval e Z.X.env)::i5 [] Z.X.env:=by rfl):ET Z ρ O (.Call (.Name "sorted" p) [e] [] pos) (.lst (ss.map kT)):=fun Φ q=>NH m h hk h2 hn (fun ms p1 p2=>by
 have lt:∀{x y:Kd},x∈ss→y∈ss→Iy x≤Iy y→Iy y≤Iy x→x=y:=fun{x y} hx hy a b=>by
  obtain⟨i,hi,rfl⟩:=ou hx
  obtain⟨j,hj,rfl⟩:=ou hy
  rcases nj i j with c|c|c
  ·have:=kW.mp pw i j hi hj c;omega
  ·subst c;rfl
  ·have:=kW.mp pw j i hj hi c;omega
 have e:ms=ss:=nB.eq_of_pairwise (fun a b ha hb x y=>lt (((p1.trans pm.symm).mem_iff).mp ha) hb x y) p2 (pw.imp fun h=>nM h) (p1.trans pm.symm)
 rw[e]
 exact q) hg he
end
end L2.TL
namespace L2
open PySem PySem.Spec PySem.Calls PyProof.Rows
noncomputable def jY(P:Program)(w:World)(d:Addr)(rs:List (FZ×Value))(h:Heap):Prop:=(d==pK)=false∧h.DictOf (Bh P w) d rs
noncomputable def Uq(P:Program)(w:World)(d:Addr)(rs:List (FZ×Value)):HO:=.ext (jY P w d rs)
theorem Sj(h1:(d==pK)=false)(h2:h.DictOf (Bh P w) d rs):ObjOk P w H h d (Uq P w d rs):=by
 obtain⟨ob,es,ep,e,c⟩:=h2
 exact⟨⟨h1,ob,es,ep,e,c⟩,⟨ob,e⟩,fun g1 g2 ⟨y,ob,es,ep,e,c⟩ hk=> ⟨y,ob,es,ep,hk _ e,c⟩⟩
section
variable {X:Cx}
noncomputable def gY(X:Cx):R2:=fun x y H Q=>∃d k rs u v,x=.ref d∧y=.str k∧H d=some (Uq X.prog X.w d rs)∧sd rs (.inr k)=some u∧RelV v u∧Q v H
theorem cq:bG X (gY X):=by
 intro value slice pins s σ H x y v' u' Q I rx ry h hs
 obtain⟨d,k,rs,u,v,rfl,rfl,hd,hv,rv,q⟩:=h
 cases rx
 obtain⟨t,rfl⟩:=ry
 obtain⟨⟨_,D⟩,_,_⟩:=I.hok d _ hd
 have D:s.heap.DictOf (Bh X.prog X.w) d rs:=D
 exact pX (x:=u) D.typeIs slot_dict_getitem.lookup (wpAny_getItem_of (Dg X.prog X.w k t) D.mapOf hv ⟨rfl,v,H,I.tok _,rv,q⟩) hs
noncomputable def gZ(X:Cx):R2:=fun x y H Q=>∃d k rs,x=.str k∧y=.ref d∧H d=some (Uq X.prog X.w d rs)∧Q (.bl (sd rs (.inr k)).isSome) H
theorem Vu:Cy X (l5 .In) (gZ X):=by
 intro pins s σ H x y v u Q I rx ry h
 obtain⟨d,k,rs,rfl,rfl,hd,q⟩:=h
 obtain⟨t,rfl⟩:=rx
 cases ry
 obtain⟨⟨hn,D⟩,_,_⟩:=I.hok d _ hd
 have D:s.heap.DictOf (Bh X.prog X.w) d rs:=D
 exact wpAny_in_of (Dg X.prog X.w k t) hn D.mapOf ⟨.bl _,H,I.tok _,rfl,q⟩
end
end L2
namespace L2.TL
open PySem PySem.Spec PySem.Calls PyProof.Rows
section
variable {K:a8} {O:AO} {H H':Hp}
mutual
theorem Rep.ex (hT:∀a o,H a=some o→(∀φ,o≠.ext φ)→H' a=some o):∀{v:V} {t:T},Rep K O H v t→Rep K O H' v t
 |_,_,.non=> .non
 |_,_,.bl b=> .bl b
 |_,_,.int i=> .int i
 |_,_,.str x=> .str x
 |_,_,.tup h r=> .tup (hT _ _ h fun _ z=>by cases z) (Reps.ex hT r)
 |_,_,.lst h o r=> .lst (hT _ _ h fun _ z=>by cases z) o (Reps.ex hT r)
 |_,_,.frz h r=> .frz (hT _ _ h fun _ z=>by cases z) (Reps.ex hT r)
 |_,_,.dct h=> .dct (hT _ _ h fun _ z=>by cases z)
 |_,_,.raw v=> .raw v
theorem Reps.ex (hT:∀a o,H a=some o→(∀φ,o≠.ext φ)→H' a=some o):∀{v:List V} {t:List T},Reps K O H v t→Reps K O H' v t
 |_,_,.nil=> .nil
 |_,_,.cons h r=> .cons (Rep.ex hT h) (Reps.ex hT r)
end
end
noncomputable def PV:List (Str×T)→List V→List (Value×Value)→Prop
 | [],[],[]=>True
 |q::qs,v::vs,p::ps=> (∃tk,p.1=.str q.1 tk)∧RelV v p.2∧PV qs vs ps
 |_,_,_=>False
noncomputable def EY(qs:List (Str×T))(ps:List (Value×Value)):List (FZ×Value):=(qs.zip ps).map fun z=> (.inr z.1.1,z.2.2)
theorem Ld:∀{qs:List (Str×T)} {vs:List V} {ps:List (Value×Value)},PV qs vs ps→Carries (Bh P w) ps (EY qs ps)
 | [],[],[],_=>pL
 |q::qs,v::vs,(a,u)::ps,⟨⟨tk,e⟩,_,r⟩=>by
  have e:a=.str q.1 tk:=e
  subst e
  exact⟨Dg P w q.1 tk,rfl,Ld r⟩
theorem Og:∀{qs:List (Str×T)} {vs:List V} {ps:List (Value×Value)},PV qs vs ps→(EY qs ps).map (·.1)=qs.map fun q=> (oR q.1:FZ)
 | [],[],[],_=>rfl
 |q::qs,v::vs,p::ps,⟨_,_,r⟩=>by
  show oR q.1::(EY qs ps).map (·.1)=_
  rw[Og r]
  rfl
theorem Iz:∀(rs acc:List (FZ×Value)),((acc++rs).map (·.1)).Nodup→merged acc rs=acc++rs
 | [],acc,_=>by rw[mX];rfl
 |r::rs,acc,h=>by
  have hn:(acc.any fun kv=>decide (kv.1=r.1))=false:=by
   rw[List.any_eq_false]
   intro p hp z
   have z:=of_decide_eq_true z
   rw[kl,n6] at h
   exact h.2.2 p.1 (jw.mpr ⟨p,hp,rfl⟩) r.1 (by simp) z
  have e:stored acc r.1 r.2=acc++[r]:=by
   unfold stored
   rw[hn,if_neg e8]
  show merged (stored acc r.1 r.2) rs=_
  rw[e,Iz rs (acc++[r]) (by rw[lz];exact h),lz]
  rfl
noncomputable def IE(qs:List (Str×T))(x:Str):Option T:=(qs.find? fun q=>decide (q.1=x)).map (·.2)
theorem Oh{K:a8}:∀{qs:List (Str×T)} {vs:List V} {ps:List (Value×Value)},PV qs vs ps→Reps K O H vs (qs.map (·.2))→(IE qs x=none→sd (EY qs ps) (.inr x)=none)∧∀t,IE qs x=some t→∃v u,sd (EY qs ps) (.inr x)=some u∧RelV v u∧Rep K O H v t
 | [],[],[],_,_=> ⟨fun _=>rfl,fun _ h=>by cases h⟩
 |q::qs,v::vs,p::ps,⟨_,hv,r⟩,rr=>by
  obtain⟨v',vs',e,r1,r2⟩:=Reps.cons_inv rr
  injection e with e1 e2
  subst e1;subst e2
  have ih:=Oh (x:=x) r r2
  have e1:IE (q::qs) x=if q.1=x then some q.2 else IE qs x:=by
   unfold IE
   rw[List.find?_cons]
   by_cases h:q.1=x<;>simp[h]
  have e2:sd (EY (q::qs) (p::ps)) (.inr x)=if q.1=x then some p.2 else sd (EY qs ps) (.inr x):=by
   unfold sd
   show Option.map _ (List.find? _ ((oR q.1,p.2)::EY qs ps))=_
   rw[List.find?_cons]
   by_cases h:q.1=x
   ·simp[h]
   ·have:(oR q.1:FZ)≠oR x:=fun z=>h (by injection z)
    simp[h,this]
  rw[e1,e2]
  by_cases h:q.1=x
  ·rw[if_pos h,if_pos h]
   exact⟨fun z=> (by cases z),fun t z=> (by cases z;exact⟨v,p.2,rfl,hv,r1⟩)⟩
  ·rw[if_neg h,if_neg h]
   exact ih
structure DcAt(P:Program)(w:World)(K:a8)(d:Addr)(qs:List (Str×T))(O:AO)(H:Hp):Prop where
 ex:∃rs vs ps,H d=some (Uq P w d rs)∧O d=none∧rs=EY qs ps∧PV qs vs ps∧Reps K O H vs (qs.map (·.2))∧OwnOk K O H
theorem DcAt.kp{K:a8}(D:DcAt P w K d qs O H)(f:Frm K O H O' H'):DcAt P w K d qs O' H':=by
 obtain⟨rs,vs,ps,h1,h2,h3,h4,h5,h6⟩:=D.ex
 exact⟨⟨rs,vs,ps,(f.kp _ _ h1 h2).1,(f.kp _ _ h1 h2).2,h3,h4,h5.kp f.kp h6,f.ok⟩⟩
section
variable {Z:Zx} {ρ:List (Option T)} {O:AO} {e a b:Expr} {p pos:Pos} {d:Addr} {qs:List (Str×T)} {x:Str} {t:T}
theorem DW(D:DcAt Z.X.prog Z.X.w Z.K d qs Z.Oe Z.He)(hm:IE qs x=some t)(ha:ET Z ρ O a (.raw (.ref d)))(hb:ET Z ρ O b (.str x))(hs:DL b:=by exact fun _ _=>rfl):ET Z ρ O (.Subscript a b pos) t:=fun Φ k=>
 PE.weak (Nw cq (ha (fun t O'=>t=.raw (.ref d)∧O'=O) ⟨rfl,rfl⟩) (hb (fun t O'=>t=.str x∧O'=O) ⟨rfl,rfl⟩) hs) fun σ H Q w=> ⟨w.1,by
  rintro v H1 _ _ ⟨rfl,rfl⟩ f1 r1
  refine⟨w.1.step f1,?_⟩
  rintro v2 H2 _ _ ⟨rfl,rfl⟩ f2 r2
  cases r1.raw_inv
  cases r2.str_inv
  obtain⟨rs,vs,ps,h1,h2,rfl,h4,h5,_⟩:=(D.kp (w.1.fr.trans (f1.trans f2))).ex
  obtain⟨v,u,g1,g2,g3⟩:=(Oh (x:=x) h4 h5).2 t hm
  exact⟨d,x,_,u,v,rfl,rfl,h1,g1,g2,w.2 _ H2 _ _ k (f1.trans f2) g3⟩⟩
noncomputable def bL(Z:Zx)(ρ:List (Option T))(O:AO)(pos:Pos)(ks:List (Option Expr))(es:List Expr)(qs:List (Str×T)):Prop:=
 ∀(pins:List (Addr×Obj)) (s:Shared) (σ:St) (H:Hp) (Q:List V→Hp→Prop),Inv Z.X pins σ H s→Asr Z ρ O σ H→(∀vs H',Frm Z.K O H O H'→Reps Z.K O H' vs (qs.map (·.2))→Q vs H')→
  wpAny (model Z.X.prog Z.X.w) Z.X.A (evalPairs (pairTrees ks es Z.X.env pos)) (fun ps s'=>∃vs H',Inv Z.X pins σ H' s'∧PV qs vs ps∧Q vs H') Z.X.xe s
theorem Vv:bL Z ρ O pos [] [] []:=fun pins s σ H Q I a k=>pairTrees_nil_walk ⟨[],H,I,pL,k [] H (.refl a.ok) .nil⟩
theorem Sk{σ:St}(he:ET Z ρ O e t)(I:Inv Z.X pins σ H s)(a:Asr Z ρ O σ H):wpAny (model Z.X.prog Z.X.w) Z.X.A (eval e Z.X.env) (fun u s'=>∃v H',Inv Z.X pins σ H' s'∧RelV v u∧Frm Z.K O H O H'∧Rep Z.K O H' v t) Z.X.xe s:=
 he (fun t' O'=>t'=t∧O'=O) ⟨rfl,rfl⟩ pins s σ H (fun v H'=>Frm Z.K O H O H'∧Rep Z.K O H' v t) I ⟨a,by
  rintro v H' _ _ ⟨rfl,rfl⟩ f r
  exact⟨f,r⟩⟩
theorem Sl(he:ET Z ρ O e t)(h:bL Z ρ O pos ks es qs):bL Z ρ O pos (some (.Constant (.str x) j p)::ks) (e::es) ((x,t)::qs):=fun pins s σ H Q I a k=>by
 refine pairTrees_cons_walk (Az (Sk (t:=.str x) AQ I a) ?_)
 rintro u1 s1 ⟨v1,H1,I1,rv1,f1,r1⟩
 cases r1.str_inv
 refine Az (Sk he I1 (a.step f1)) ?_
 rintro u2 s2 ⟨v2,H2,I2,rv2,f2,r2⟩
 refine Az (h pins s2 σ H2 (fun vs H'=>Frm Z.K O H2 O H'∧Reps Z.K O H' vs (qs.map (·.2))) I2 ((a.step f1).step f2) fun vs H' f r=> ⟨f,r⟩) ?_
 rintro ps s3 ⟨vs,H3,I3,pv,f3,r3⟩
 obtain⟨tk,e1⟩:=rv1
 exact⟨v2::vs,H3,I3,⟨⟨tk,e1⟩,rv2,pv⟩,k _ _ (f1.trans (f2.trans f3)) (.cons (r2.kp f3.kp f2.ok) r3)⟩
noncomputable def jZ(Z:Zx)(ρ:List (Option T))(O:AO)(qs:List (Str×T)):TE:=fun σ H Q=>Asr Z ρ O σ H∧∀d H3,Frm Z.K O H O H3→DcAt Z.X.prog Z.X.w Z.K d qs O H3→Q (.ref d) H3
theorem Zp(h:bL Z ρ O pos ks es qs)(nd:(qs.map (·.1)).Nodup)(hall:ks.all (·.isSome)=true:=by rfl)(hl:ks.length=es.length:=by rfl)(h0:ks≠[]:=by simp)(h15:ks.length≤15:=by decide):PE Z.X (.Dict ks es pos) (jZ Z ρ O qs):=by
 intro pins s σ H Q I ⟨a,k⟩
 have big:pK<s.heap.objs.size:=qK (by decide) (show lE<s.heap.objs.size from(I.mod.glob.keeps I.bk).lt)
 have hne:(s.heap.objs.size==pK)=false:=beq_eq_false_iff_ne.mpr (Ne.symm (ke big))
 have hn:H s.heap.objs.size=none:=I.hok.fresh (jm _)
 have I1:=I.laid (a:=s.heap.objs.size) (o:=Uq Z.X.prog Z.X.w s.heap.objs.size []) (h':=s.heap.push {cls:=.type "dict",data:=.dict #[]}) (t':=s.toks) (fun _ _ q=>c9 _ q) (jm _) (Sj hne (Heap.DictOf.new s.heap))
 have f1:=Frm.new (o:=Uq Z.X.prog Z.X.w s.heap.objs.size []) a.ok hn
 have on:O s.heap.objs.size=none:=a.ok.none_of hn
 refine wpAny_Dict_walk (knd:=Bh Z.X.prog Z.X.w) hall hl h0 h15 (Az (h pins _ σ _ (fun vs H'=>Frm Z.K O (upd H s.heap.objs.size (Uq Z.X.prog Z.X.w s.heap.objs.size [])) O H'∧Reps Z.K O H' vs (qs.map (·.2))) I1 (a.step f1) fun vs H' f r=> ⟨f,r⟩) ?_)
 rintro ps s2 ⟨vs,H2,I2,pv,f2,r2⟩
 have e2:H2 s.heap.objs.size=some (Uq Z.X.prog Z.X.w s.heap.objs.size []):=(f2.kp _ _ AL on).1
 obtain⟨⟨_,D⟩,_,_⟩:=I2.hok _ _ e2
 refine⟨EY qs ps,Ld pv,D,fun h' dd hs=>?_⟩
 have ndk:((([]:List (FZ×Value))++EY qs ps).map (·.1)).Nodup:=by
  show((EY qs ps).map (·.1)).Nodup
  rw[Og pv]
  have:(qs.map fun q=> (oR q.1:FZ))=(qs.map (·.1)).map oR:=by rw[kI];rfl
  rw[this,kP,lY]
  exact(kP.mp nd).imp fun{x y} hxy z=>hxy (by injection z)
 rw[Iz _ _ ndk] at dd
 have dd:h'.DictOf (Bh Z.X.prog Z.X.w) s.heap.objs.size (EY qs ps):=dd
 have he:∃q,h'.get? s.heap.objs.size=some q:=let⟨q,_,_,hq,_⟩:=dd;⟨q,hq⟩
 have ex:∀a o,H2 a=some o→(∀φ,o≠.ext φ)→upd H2 s.heap.objs.size (Uq Z.X.prog Z.X.w s.heap.objs.size (EY qs ps)) a=some o:=fun a o ha ho=>by
  have:a≠s.heap.objs.size:=fun z=>by
   rw[z,e2] at ha
   cases ha
   exact ho _ rfl
  rw[AR this]
  exact ha
 have ok3:OwnOk Z.K O (upd H2 s.heap.objs.size (Uq Z.X.prog Z.X.w s.heap.objs.size (EY qs ps))):=fun a ts hO=>by
  obtain⟨xs,h1,h2⟩:=f2.ok a ts hO
  exact⟨xs,ex _ _ h1 (fun _ z=>by cases z),Reps.ex ex h2⟩
 refine⟨.ref s.heap.objs.size,_,I2.write (x:=s.heap.objs.size) (e:=s.heap.objs.size) (by rw[e2];exact pL) (.inl rfl) (fun b q hb z=> (hs.2 b hb).trans z) he (Sj hne dd),rfl,k _ _ ⟨fun b o hb ho=>?_,fun _ ts e=> ⟨ts,e⟩,ok3⟩ ⟨⟨_,vs,ps,AL,on,rfl,pv,Reps.ex ex r2,ok3⟩⟩⟩
 have bn:b≠s.heap.objs.size:=AW hb hn
 have h1:=(f2.kp b o (by rw[AR bn];exact hb) ho).1
 exact⟨by rw[AR bn];exact h1,ho⟩
theorem Vw{px spos:Pos}(h:bL Z ρ O pos ks es qs)(nd:(qs.map (·.1)).Nodup)(hN:Z.X.N.Nodup)(xf:XFly Z.X Z.W)
  (k:∀d H1,DcAt Z.X.prog Z.X.w Z.K d qs O H1→XFly Z.X (Zx.W ⟨Z.X,O,H1,Z.Xi⟩)→FY ⟨Z.X,O,H1,Z.Xi⟩ (ρ.set i (some (.raw (.ref d)))) O ss Ψ)
  (hall:ks.all (·.isSome)=true:=by rfl) (hl:ks.length=es.length:=by rfl) (h0:ks≠[]:=by simp) (h15:ks.length≤15:=by decide)
  (hi:Z.X.N[i]?=some x:=by rfl) (hx:IF Z.X.env.scope x:=by first|exact nv rfl|exact nW rfl)
  (hs:pe (.Dict ks es pos) (some (.Name x px)) spos.line Z.X.env=pure false:=by rfl)
  (hf:Z.X.fn x=true∨Z.X.env.scope.names.lookup x=some .local:=by first|exact .inl rfl|exact .inr rfl):FY Z ρ O (.Assign [.Name x px] (.Dict ks es pos) spos::ss) Ψ:=by
 have hss:PSs Z.X ss (fun D σ H=>∃d H1,DcAt Z.X.prog Z.X.w Z.K d qs O H1∧Frm Z.K Z.Oe Z.He O H1∧tS ⟨Z.X,O,H1,Z.Xi⟩ (ρ.set i (some (.raw (.ref d)))) O Ψ D σ H):=by
  rintro pins s σ H D I ⟨d,H1,hD,f,q⟩
  exact k d H1 hD (XFly.mono xf fun σ cls H' ⟨a,O',b,g⟩=> ⟨a,O',b,f.trans g⟩) pins s σ H D I q
 refine PSs.weak (Bj (Gj hN hi hx (Zp h nd hall hl h0 h15) hs hf) hss) fun D σ H q=>?_
 refine⟨q.1,fun d H3 f D'=>?_⟩
 have ft:=q.1.fr.trans f
 have ac:=q.2.step f.kp
 exact⟨d,H3,D',ft,⟨⟨(q.1.step f).rl.set (.raw _),.refl f.ok⟩,⟨fun ρ' O' σ' H' p a' k'=>ac.nx ρ' O' σ' H' p ⟨a'.rl,ft.trans a'.fr⟩ k',fun v H' t O' p fr r=>ac.rt v H' t O' p (ft.trans fr) r,fun ρ' O' σ' H' p a' k'=>ac.bk ρ' O' σ' H' p ⟨a'.rl,ft.trans a'.fr⟩ k',fun ρ' O' σ' H' p a' k'=>ac.ct ρ' O' σ' H' p ⟨a'.rl,ft.trans a'.fr⟩ k'⟩⟩⟩
end
noncomputable def SqS(K:a8)(a:Addr)(xs:List V):Prop:=∃(o:Obj) (its:Array Value) (n:Nat),K.lookup a=some o∧o.cls=.type "tuple"∧o.data=.seq its n∧its.size≤sizeLine∧Vals xs its.toList
theorem SqS.t{K:a8}(h:SqS K a xs):GG K H a xs:=.inr h
theorem QP{K:a8}(h:SqS K a xs):Mz K (fA K a) O H (xs.map T.raw):=fun O' H' k ok'=>by
 refine⟨fun i hi=>?_,fun i x H'' y t e=>?_,fun i hi=> ⟨xs,h.t,by rw[b9] at hi;exact hi⟩⟩
 ·rw[b9] at hi
  exact⟨xs,xs[i],h.t,jv hi⟩
 ·obtain⟨rfl,y⟩:=y
  have:=y xs h.t
  rw[i6,this] at e
  cases e
  exact⟨.refl ok',.raw _⟩
section
variable {Z:Zx} {ρ:List (Option T)} {O:AO} {a b tg:Expr} {i j:Int} {pos:Pos} {ad:Addr}
theorem Vx(hm:Z.X.mg n=some (.ref ad))(hs:SqS Z.K ad xs)(hg:Gl Z.X n:=by rfl)(hd:(n==("__debug__" :Str))=false:=by decide):EI Z ρ O tg (.Name n pos) (xs.map T.raw):=fun Φ p=>
 PI.weak (Qz (CB hm hg hd (fun t O'=>t=.raw (.ref ad)∧O'=O) ⟨rfl,rfl⟩)) fun σ H R q=> ⟨q.1,by
  rintro v H' _ _ ⟨rfl,rfl⟩ f r
  cases r.raw_inv
  exact⟨ad,rfl,⟨xs,hs.t⟩,q.2 _ H' _ _ p f (QP hs)⟩⟩
theorem Jt(ha:ET Z ρ O a (.int i))(hb:ET Z ρ O b (.int j))(h:RB i j):ET Z ρ O (.BinOp a .LShift b pos) (.int (i*2^j.toNat)):=Dp Yl (QD h) ha hb
theorem Sm(ha:ET Z ρ O a (.int i))(hb:ET Z ρ O b (.int j))(h:0≤j):ET Z ρ O (.BinOp a .RShift b pos) (.int (i/2^j.toNat)):=Dp Ym (QD h) ha hb
theorem Zq(ha:ET Z ρ O a (.int i))(hb:ET Z ρ O b (.int j)):ET Z ρ O (.BinOp a .BitXor b pos) (.int (oB i j)):=Dp Yn OQ ha hb
end
section
variable {Z:Zx} {ρ:List (Option T)} {O:AO} {y z:Str} {p1 p2 p3 pos:Pos} {k:Nat} {ad:Addr}
theorem Sn(i j m:Nat)(hS:SqS Z.K ad [.str w,.int l,.int m'])(hc:Z.X.calm=true)(hN:Z.X.N.Nodup)(hni:i<n)(hnj:j<n)(hnm:m<n)(hi:Z.X.N[i]?=some x:=by rfl)(hj:Z.X.N[j]?=some y:=by rfl)(hm:Z.X.N[m]?=some z:=by rfl)
  (hx:IF Z.X.env.scope x:=by first|exact nv rfl|exact nW rfl) (hy:IF Z.X.env.scope y:=by first|exact nv rfl|exact nW rfl) (hz:IF Z.X.env.scope z:=by first|exact nv rfl|exact nW rfl)
  (hf:Z.X.fn x=true∨Z.X.env.scope.names.lookup x=some .local:=by first|exact .inl rfl|exact .inr rfl) (hf2:Z.X.fn y=true∨Z.X.env.scope.names.lookup y=some .local:=by first|exact .inl rfl|exact .inr rfl) (hf3:Z.X.fn z=true∨Z.X.env.scope.names.lookup z=some .local:=by first|exact .inl rfl|exact .inr rfl)
  (hs:(kU [.Name x p1,.Name y p2,.Name z p3] Z.X.env).map (·.2)=assign (.Name x p1) Z.X.env::(kU [.Name y p2,.Name z p3] Z.X.env).map (·.2):=by rfl) (hs2:(kU [.Name y p2,.Name z p3] Z.X.env).map (·.2)=assign (.Name y p2) Z.X.env::(kU [.Name z p3] Z.X.env).map (·.2):=by rfl) (hs3:(kU [.Name z p3] Z.X.env).map (·.2)=assign (.Name z p3) Z.X.env::(kU [] Z.X.env).map (·.2):=by rfl)
  (hl:(kU [.Name x p1,.Name y p2,.Name z p3] Z.X.env).length=3:=by rfl) (hst:(kU [.Name x p1,.Name y p2,.Name z p3] Z.X.env).findIdx? (·.1)=none:=by rfl):
  WG Z n ρ O (.Tuple [.Name x p1,.Name y p2,.Name z p3] k pos) (.raw (.ref ad)) (((ρ.set i (some (.str w))).set j (some (.int l))).set m (some (.int m'))):=
 PG.weak (Qv hc (CD (CU hN hi hx hf) (CD (CU hN hj hy hf2) (CD (CU hN hm hz hf3) JK hs3) hs2) hs) hl hst) fun v σ H Q q=>by
  obtain⟨q1,q2,q3⟩:=q
  cases q2.raw_inv
  exact⟨ad,_,rfl,hS.t,rfl,_,_,rfl,_,_,rfl,_,_,rfl,rfl,q3 _ ⟨((q1.rl.set (.str w)).set (.int l)).set (.int m'),q1.fr⟩ ⟨by simp,fun m hm=>by rw[j7 (by omega),j7 (by omega),j7 (by omega)]⟩⟩
end
end L2.TL
namespace L2
open PySem PySem.Spec PySem.Calls PyProof.Rows Builtin.ObjectAttr
end L2
namespace L2.TL
open PySem PySem.Spec PySem.Calls PyProof.Rows
section
variable {Z:Zx} {ρ:List (Option T)} {O:AO} {Ψ:Es} {x:Str}
noncomputable def _root_.L2.TL.Zx.Wr(Z:Zx)(ρ:List (Option T)):St→XK:=fun σ cls d H'=>d=none∧∃O',Z.Xi cls O'∧Frm Z.K Z.Oe Z.He O' H'∧Rl Z.K O' H' σ ρ
theorem Rl.unset{K:a8}(r:Rl K O H σ ρ):Rl K O H (σ.set i none) (ρ.set i none):=⟨by simpa using r.1,fun j u e=>by
 by_cases hj:j=i
 ·subst hj
  have hl:j<ρ.length:=by
   have:=(jn.mp e).1
   simpa using this
  rw[kB hl] at e
  cases e
 ·rw[j7 (Ne.symm hj)] at e ⊢
  exact r.2 j u e⟩
noncomputable def iU(i:Nat)(Ψ:Es):Es:={nx:=fun ρ' O'=>Ψ.nx (ρ'.set i none) O',rt:=Ψ.rt,bk:=fun ρ' O'=>Ψ.bk (ρ'.set i none) O',ct:=fun ρ' O'=>Ψ.ct (ρ'.set i none) O'}
noncomputable abbrev zH(Z:Zx)(x:Addr)(O:AO)(H:Hp):Zx:=⟨Xe Z.X x,O,H,fun _ _=>False⟩
theorem Vy(Cs:Value→AO→Prop)
  (hbody:∀pins E' H,Frm Z.K Z.Oe Z.He O H→XFly (CS Z.X pins E') (Zx.Wr ⟨CS Z.X pins E',O,H,Cs⟩ ρ)→FY ⟨CS Z.X pins E',O,H,Cs⟩ ρ O body Ψ)
  (kc:∀cls O',Cs cls O'→∃C,(cls=.ref C∨∃fs,cls=.str fs C)∧mf Z.X.K (.ref C) (.ref B)=some true)
  (hsuite:∀y cls O' C x o H',Cs cls O'→HK cls C x H' o→Frm Z.K Z.Oe Z.He O' H'→H' x=none→FY (zH Z y O' (upd H' x o)) (ρ.set i (some (.raw (.ref x)))) O' (b₀::suite) (iU i Ψ))
  (hst:Z.X.stack=Z.X.env::Z.X.outer) (hex:Z.X.ex=[]) (hfr:Z.X.env.frame=some Z.X.env.locals) (hN:Z.X.N.Nodup) (hi:Z.X.N[i]?=some n) (hk:Z.X.env.scope.names.lookup n=some .local) (hmB:Z.X.mg bx=some (.ref B)) (hbe:m9 Z.X.K B (.type "BaseException")=some true)
  (hgB:Gl Z.X bx) (hd2:(bx==("__debug__" :Str))=false):
  WS Z ρ O (.Try body [.ExceptHandler (some (.Name bx np)) (some n) (b₀::suite) hpos] [] [] pos) Ψ:=by
 have hb1:∀(W:St→XK) (X':Cx),TryIs Z.X X'→XFly X' W→PSs X' body (fun D σ H=>tS Z ρ O Ψ D σ H∧∀(σ':St) cls O' H',Cs cls O'→Frm Z.K O H O' H'→Rl Z.K O' H' σ' ρ→W σ' cls none H'):=by
  rintro W X' ⟨pins0,E',rfl⟩ xf
  intro pins s σ H D I ⟨⟨a,acc⟩,hw⟩
  refine hbody pins0 E' H a.fr ⟨fun pins1 σ1 H1 s1 e s2 I1 c=>xf.fly pins1 σ1 H1 s1 e s2 I1 ?_⟩ pins s σ H D I ⟨⟨a.rl,.refl a.ok⟩,⟨fun ρ' O' σ' H' p a' k=>acc.nx ρ' O' σ' H' p ⟨a'.rl,a.fr.trans a'.fr⟩ k,fun v H' t O' p f r=>acc.rt v H' t O' p (a.fr.trans f) r,fun ρ' O' σ' H' p a' k=>acc.bk ρ' O' σ' H' p ⟨a'.rl,a.fr.trans a'.fr⟩ k,fun ρ' O' σ' H' p a' k=>acc.ct ρ' O' σ' H' p ⟨a'.rl,a.fr.trans a'.fr⟩ k⟩⟩
  obtain⟨x,cls,H',e1,fl,_,O',hc,f,rl⟩:=c
  exact⟨x,cls,H',e1,fl,hw σ1 cls O' H' hc f rl⟩
 have hh1:∀y,PSs (Xe Z.X y) (b₀::suite) (fun D σ H=>∃z cls O' C o H',Cs cls O'∧HK cls C z H' o∧Frm Z.K Z.Oe Z.He O' H'∧H' z=none∧tS (zH Z z O' (upd H' z o)) (ρ.set i (some (.raw (.ref z)))) O' (iU i Ψ) D σ H):=by
  rintro y pins s σ H D I ⟨z,cls,O',C,o,H',c,hk',f,hz,q⟩
  exact hsuite y cls O' C z o H' c hk' f hz pins s σ _ D I ⟨⟨q.1.rl,q.1.fr⟩,⟨fun ρ' O' σ' H' p a k=>q.2.nx ρ' O' σ' H' p ⟨a.rl,a.fr⟩ k,q.2.rt,fun ρ' O' σ' H' p a k=>q.2.bk ρ' O' σ' H' p ⟨a.rl,a.fr⟩ k,fun ρ' O' σ' H' p a k=>q.2.ct ρ' O' σ' H' p ⟨a.rl,a.fr⟩ k⟩⟩
 refine PS.weak (RZ (i:=i) hst hex hfr hN hi hk hgB hmB hbe hb1 hh1 hd2) fun D σ H q=>?_
 refine⟨q,?_⟩
 intro σ' cls O' H' hc f rl
 obtain⟨C,h1,h2⟩:=kc cls O' hc
 refine⟨C,h1,h2,fun z o hz hk'=> ⟨z,cls,O',C,o,H',hc,hk',q.1.fr.trans f,hz,⟨(rl.kp (BO f.ok hz) f.ok).set (.raw _),.refl (Frm.new f.ok hz).ok⟩,?_⟩⟩
 have g:Frm Z.K Z.Oe Z.He O' (upd H' z o):=(q.1.fr.trans f).trans (.new f.ok hz)
 have k0:TL.Kp O H O' (upd H' z o):=f.kp.trans (BO f.ok hz)
 exact⟨fun ρ2 O2 σ2 H2 p a2 k2=>q.2.nx _ O2 _ H2 p ⟨Rl.unset a2.rl,g.trans a2.fr⟩ (k0.trans k2),fun v H2 t O2 p f2 r=>q.2.rt v H2 t O2 p (g.trans f2) r,
  fun ρ2 O2 σ2 H2 p a2 k2=>q.2.bk _ O2 _ H2 p ⟨Rl.unset a2.rl,g.trans a2.fr⟩ (k0.trans k2),fun ρ2 O2 σ2 H2 p a2 k2=>q.2.ct _ O2 _ H2 p ⟨Rl.unset a2.rl,g.trans a2.fr⟩ (k0.trans k2)⟩
end
end L2.TL
namespace L2
open PySem PySem.Spec PySem.Calls PyProof.Rows
end L2
namespace L2.TL
open PySem PySem.Spec PySem.Calls PyProof.Rows
structure ExC(Z:Zx)(x C:Addr):Prop where
 rd:Rd Z.He x (GQ C x)
 no:Z.Oe x=none
section
variable {pos p:Pos}
theorem HK.exc(h:HK cls C x H' o)(f:Frm Z.K Z.Oe Z.He O' H')(hz:H' x=none):ExC (zH Z y O' (upd H' x o)) x C:=by
 refine⟨?_,f.ok.none_of hz⟩
 rcases h with⟨_,rfl⟩| ⟨_,ox,_,_,_,rfl,_⟩
 ·exact .inl AL
 ·exact .inr ⟨ox,AL⟩
theorem HK.cls_ref(h:HK (.ref C) D x H' o):D=C:=by
 rcases h with⟨e,_⟩| ⟨_,_,_,_,e,_⟩
 ·cases e;rfl
 ·cases e
theorem QQ(F:FnH Z.X.prog Z.X.w Z.X.K Z.X.mg Z.X.base k f fd ps sp)(hm:Z.X.mg g=some (.ref f))(hk:lF Z.X.K (.ref f)=true)(hb:Binds Z.X.K fd ps [])(hr:RoomH k Z.X.A)(h:EA Z ρ O (e::es) ts)
  (w:∀σ H vs Q,Asr Z ρ O σ H→Reps Z.K O H vs ts→Acc Z.K O H Φ Q→sp vs H Q E0) (hg:Gl Z.X g:=by rfl) (hdb:(g==("__debug__" :Str))=false:=by decide) (he:i5 (e::es) Z.X.env=(false,eval e Z.X.env)::i5 es Z.X.env:=by rfl) (hpl:(mS pos (i5 es Z.X.env)).any (·.1)=false:=by rfl):
  WE Z ρ O (.Call (.Name g p) (e::es) [] pos) Φ:=by
 refine PE.weak (Ko F hr hg hm hk hb (IJ (ρ:=ρ)) hdb he hpl) fun σ H Q q=>?_
 refine⟨O,_,h (fun ts' O'=>ts'=ts∧O'=O) ⟨rfl,rfl⟩,q.1,fun vs H1 ts1 O1 p1 f1 r=>?_⟩
 obtain⟨rfl,rfl⟩:=p1
 exact w σ H1 vs Q (q.1.step f1) r (q.2.step f1)
theorem So(F:FnH Z.X.prog Z.X.w Z.X.K Z.X.mg Z.X.base k f fd ps (gT C t))(hm:Z.X.mg g=some (.ref f))(hk:lF Z.X.K (.ref f)=true)(hb:Binds Z.X.K fd ps [])(hr:RoomH k Z.X.A)(hx:ExC Z x C)(h:ET Z ρ O e (.raw (.ref x)))
  (hg:Gl Z.X g:=by rfl) (hdb:(g==("__debug__" :Str))=false:=by decide) (he:i5 [e] Z.X.env=(false,eval e Z.X.env)::i5 [] Z.X.env:=by rfl) (hpl:(mS pos (i5 [] Z.X.env)).any (·.1)=false:=by rfl):ET Z ρ O (.Call (.Name g p) [e] [] pos) t:=fun Φ p=>
 QQ F hm hk hb hr (AX h AD he) (fun σ H vs Q a r acc=>by
  obtain⟨v,rfl,r1⟩:=r.one_inv
  cases r1.raw_inv
  have rd:Rd H x (GQ C x):=by
   rcases hx.rd with z| ⟨o',z⟩
   ·exact .inl (a.fr.kp _ _ z hx.no).1
   ·exact .inr ⟨o',(a.fr.kp _ _ z hx.no).1⟩
  exact⟨x,rfl,rd,fun v H2 sm rp=>acc v H2 t O p (Frm.same (.refl a.ok) sm) (rp _ _)⟩) hg hdb he hpl
end
end L2.TL
namespace K40
open PySem L2 L2.TL PySem.Spec PyProof.Rows
noncomputable def top(i:Nat):Stmt:=kz.main.body.getD i (.Pass ⟨0,0,0,0⟩)
noncomputable abbrev NI:Stmt:=top 11
noncomputable abbrev FN:Stmt:=top 15
noncomputable abbrev Oi:Stmt:=top 47
noncomputable abbrev Zr:Stmt:=top 48
noncomputable abbrev JA:Stmt:=top 25
noncomputable abbrev Le:Stmt:=top 26
noncomputable abbrev NJ:Stmt:=top 27
noncomputable abbrev Oj:Stmt:=top 28
noncomputable abbrev Vz:Stmt:=top 29
noncomputable abbrev Ol:Stmt:=top 30
noncomputable abbrev Ju:Stmt:=top 31
noncomputable abbrev WB:Stmt:=top 32
noncomputable abbrev Om:Stmt:=top 33
noncomputable abbrev Gd:Stmt:=top 34
noncomputable abbrev Zs:Stmt:=top 35
noncomputable abbrev Zt:Stmt:=top 36
noncomputable abbrev NK:Stmt:=top 37
noncomputable abbrev Dw:Stmt:=top 54
noncomputable abbrev Lg:Stmt:=top 55
noncomputable abbrev GM:Stmt:=top 56
noncomputable abbrev Lh:Stmt:=top 57
noncomputable abbrev Sq:Stmt:=top 58
noncomputable abbrev Hm:Stmt:=top 49
noncomputable abbrev Eh:Stmt:=top 50
noncomputable abbrev Jv:Stmt:=top 12
noncomputable abbrev WC:Stmt:=top 19
noncomputable abbrev Sr:Stmt:=top 51
noncomputable abbrev Ss:Stmt:=top 60
noncomputable abbrev Jw:Stmt:=top 20
noncomputable abbrev gc:Stmt:=top 38
noncomputable abbrev gf:Stmt:=top 39
noncomputable abbrev gh:Stmt:=top 40
noncomputable abbrev Cm:Stmt:=top 52
noncomputable abbrev Ei:Stmt:=top 53
noncomputable abbrev Hn:Stmt:=top 59
noncomputable abbrev Fv:Stmt:=top 61
noncomputable abbrev Jx:Stmt:=top 62
noncomputable abbrev Oo:Stmt:=top 18
structure Txt(mg:Str→Option Value):Prop where
 nInt:mg "int" =none
 nBool:mg "bool" =none
 nTuple:mg "tuple" =none
 nList:mg "list" =none
 nSet:mg "set" =none
 nRange:mg "range" =none
 nIsi:mg "isinstance" =none
 nMax:mg "max" =none
 nMin:mg "min" =none
 nLen:mg "len" =none
 nAll:mg "all" =none
 nSorted:mg "sorted" =none
 nRepr:mg "repr" =none
 nVE:mg "ValueError" =none
 nEnum:mg "enumerate" =none
 nStr:mg "str" =none
 iMP:∃t:Tok,mg "MOST_PLACES" =some (.int 16 t)
 iLS:∃t:Tok,mg "LEAST_SPOKES" =some (.int 3 t)
 iMS:∃t:Tok,mg "MOST_SPOKES" =some (.int 8 t)
noncomputable def NL(t:T)(a b:Int):Bool:=match t with
 | .int i=>decide (a≤i)&&decide (i≤b)
 |_=>false
noncomputable def Xw(n:Int)(p:Int×Int):Prop:=0≤p.1∧p.1<p.2∧p.2<n
theorem EW.cast(h:EW Z ρ O e k)(z:k=l):EW Z ρ O e l:=z▸h
theorem EB.cast(h:EB Z ρ O e k)(z:k=l):EB Z ρ O e l:=z▸h
theorem ET.cast(h:ET Z ρ O e k)(z:k=l):ET Z ρ O e l:=z▸h
section
variable {K:a8}
noncomputable def Oq:CV:=FX fun ts r=>∃t a b,ts=[t,.int a,.int b]∧DF t=false∧r=.bl (NL t a b)
theorem WD:FnScope ["thing","least","most"] ["thing","least","most"] (AA NI):=⟨rfl,rfl,rfl,by decide+kernel,rfl,by decide+kernel,by decide+kernel⟩
theorem Su(F:Fun K "is_whole" "is_whole" NI f fd)(T:Txt mg):FnOk P w K mg base (CXe P w) 1 f fd ["thing","least","most"] (Cf K Oq):=by
 refine AY F WD ?_ ?_
 ·rintro ts O Φ Ξ ⟨r,⟨t,a,b,rfl,_⟩,_⟩
  rfl
 ·rintro cdv A outer s H E O Ξ hr xf _ Φ ⟨_,⟨t,a,b,rfl,ht,rfl⟩,q⟩
  refine AC (AS (EW.eb (GL (Bp (Dr T.nIsi T.nInt Zd OW (ev 0) ht)) fun _=>Mx (Dr T.nIsi T.nBool Xr LR (ev 0) ht))) (fun h=>AF (AH (Do _ ?_))) (fun h=>Ac ?_))
  ·have:NL t a b=false:=by
    cases t<;>first|rfl|cases h
   rw[this] at q;exact q
  ·cases t with
   |int i=>exact AF (AH (Jf (ev 1) (ev 0) (ev 2) (by with_unfolding_all rfl) _ q))
   |bl i=>cases h
   |raw i=>cases ht
   |_=>cases h
theorem Os(h:NL t a b=true):∃i,t=.int i:=by
 cases t<;>first|exact⟨_,rfl⟩|cases h
end
noncomputable abbrev Sv:Stmt:=top 42
noncomputable abbrev Sw:Stmt:=top 43
noncomputable abbrev Zu:Stmt:=top 44
noncomputable abbrev Sx:Stmt:=top 45
noncomputable abbrev Jy:Stmt:=top 46
noncomputable def Li(xs:List T):Prop:=∃a b c:Int,xs=[.int a,.int b,.int c]∧0≤a∧0≤c∧c<2147483648
section
variable {K:a8}
noncomputable def Fw(K:a8):Sp:=fun vs H Q _=>∃(a:Addr) (ns:List Int),vs=[.ref a,.int 0]∧SqL K H a (ns.map V.int)∧∀i,Q (.int i) H
theorem Zv:FnScope ["_law_script","_law_k"] ["_law_script","_law_k"] (AA Sv):=⟨rfl,rfl,rfl,by decide+kernel,rfl,by decide+kernel,by decide+kernel⟩
theorem WH(F:Fun K "_law_cell_at" "_law_cell_at" Sv f fd)(T:Txt mg):FnOk P w K mg base (CXe P w) 1 f fd ["_law_script","_law_k"] (Fw K):=by
 refine F.okX Zv (fun vs H Q E h=>?_) (fun cdv A outer s H vs Q E hr h=>?_)
 ·obtain⟨a,ns,rfl,_⟩:=h
  rfl
 ·obtain⟨a,ns,rfl,hS,k⟩:=h
  refine⟨_,Bj (KZ (ED Gp (pv 1) (BA DM (by rfl) T.nLen Ze (AJ (pv 0) Au)) (Ao _)) (Cg (Dh (Nw Bz (pv 0) (pv 1) (fun _ _=>rfl)))) Eo) (Cg (Dh JJ)),?_⟩
  refine⟨_,rfl,_,rfl,a,_,rfl,.inl hS,_,_,rfl,rfl,_,rfl,?_⟩
  refine gF (fun h1=>?_) (fun h1=>?_)
  ·have h1:(0:Int)< ((ns.map V.int).length:Int):=by simpa using h1
   cases ns with
   |nil=>simp at h1
   |cons n ns=>exact⟨_,rfl,_,rfl,a,_,0,.int n,rfl,rfl,hS,An (j:=0) rfl,k n⟩
  ·exact k 0
noncomputable def Sy:CV:=fun ts O Φ _=>∃n:Int,ts=[.int n]∧∀m:Int,0≤m→m<2147483629→Φ (.int m) O
theorem Sz:FnScope ["_law_seed"] ["_law_seed"] (AA Sw):=⟨rfl,rfl,rfl,by decide+kernel,rfl,by decide+kernel,by decide+kernel⟩
theorem WJ(F:Fun K "_law_next" "_law_next" Sw f fd):FnOk P w K mg base (CXe P w) 1 f fd ["_law_seed"] (Cf K Sy):=by
 refine AY F Sz ?_ ?_
 ·rintro ts O Φ Ξ ⟨n,rfl,_⟩
  rfl
 ·rintro cdv A outer s H E O Ξ hr xf _ Φ ⟨n,rfl,q⟩
  have b1:=oH (n+7919) (show(2147483647:Int)≠0 by decide)
  have b2:=nV (n+7919) (show(0:Int)<2147483647 by decide)
  refine AC (AM 0 (ET.we (Cd (As (ev 0) AB) AB (by decide)) ?_) Sz.nd)
  exact AF (AH (ET.we (Cd (As (As (Bv (ev 0) (ev 0) (.inl ⟨by omega,by omega⟩)) (Bv AB (ev 0) (.inl ⟨by decide,by decide⟩))) AB) AB (by decide)) (q _ (oH _ (by decide)) (nV _ (by decide)))))
noncomputable def Xx:CV:=fun ts O Φ _=>∃c:Int,ts=[.int c]∧∀(p:Addr) (xs:List T),O p=none→Li xs→Φ (.raw (.ref p)) (Am O p xs)
theorem Xy:FnScope ["_law_cell","_law_left"] ["_law_cell"] (AA Zu):=⟨rfl,rfl,rfl,by decide+kernel,rfl,by decide+kernel,by decide+kernel⟩
theorem Zw(F:Fun K "_law_pen_of" "_law_pen_of" Zu f fd)(T:Txt mg):FnOk P w K mg base (CXe P w) 1 f fd ["_law_cell"] (Cf K Xx):=by
 refine AY F Xy ?_ ?_
 ·rintro ts O Φ Ξ ⟨n,rfl,_⟩
  rfl
 ·rintro cdv A outer s H E O Ξ hr xf _ Φ ⟨n,rfl,q⟩
  refine AC (AM 1 (ET.we (OX T.nMax rfl (ev 0) (BK AB (ev 0))) ?_) Xy.nd)
  refine AF (AH (Bo (EA.wa (AX (ev 1) (AX (Vk T.nInt (cV (ev 1) (SB AB AB ⟨by decide,by decide,by decide⟩))) (AX (Cd (ev 1) AB (by decide)) AD))) ⟨by show 3≤sizeLine;decide,fun a ha=>q a _ ha ?_⟩)))
  have b1:=oH (max n (0-n)) (show(1000003:Int)≠0 by decide)
  have b2:=nV (max n (0-n)) (show(0:Int)<1000003 by decide)
  exact⟨_,_,_,rfl,by omega,b1,by omega⟩
noncomputable def Jz:CV:=fun ts O Φ _=>∃(p:Addr) (xs:List T) (m:Int),ts=[.raw (.ref p),.int m]∧O p=some xs∧Li xs∧0<m∧m≤1000000000∧∀(r:Int) (xs':List T),0≤r→r<m→Li xs'→Φ (.int r) (Am O p xs')
theorem TB:FnScope ["_law_pen","_law_many","_law_found"] ["_law_pen","_law_many"] (AA Sx):=⟨rfl,rfl,rfl,by decide+kernel,rfl,by decide+kernel,by decide+kernel⟩
theorem WK(F:Fun K "_law_draw" "_law_draw" Sx f fd)(G:FnT P w K mg base "_law_next" 1 ["_law_seed"] Sy):FnOk P w K mg base (CXe P w) 2 f fd ["_law_pen","_law_many"] (Cf K Jz):=by
 refine AY F TB ?_ ?_
 ·rintro ts O Φ Ξ ⟨p,xs,m,rfl,_⟩
  rfl
 ·rintro cdv A outer s H E O Ξ hr xf _ Φ ⟨p,_,m,rfl,hp,⟨a,b,c,rfl,a0,c0,c1⟩,m0,m1,q⟩
  refine AC (AS (SF (DT hp (ev 0) AB) AB) (fun h=>?_) (fun h=>Ac ?_))
  ·refine AC (AM 2 (ET.we (Cd (DT hp (ev 0) AB) (ev 1) m0) ?_) TB.nd)
   refine AC (Fq (ET.we (OR (DT hp (ev 0) AB) (ev 1) ⟨m0,by omega⟩) (ET.we (ev 0) ⟨p,rfl,ET.we AB ⟨_,0,0,rfl,hp,rfl,?_⟩⟩)))
   exact AF (AH (ET.we (ev 2) (q _ _ (oH _ (by omega)) (nV _ m0) ⟨a/m,b,c,rfl,Int.ediv_nonneg a0 (by omega),c0,c1⟩)))
  ·refine AC (Fq (Ax G hr xf (EK (LK RC (Ax G hr xf (EA.wa (AX (DT hp (ev 0) AB) AD) ⟨c,rfl,fun u u0 u1=>?_⟩))))))
   refine ET.we AB (OQ _ (BC ⟨u+7,rfl,fun r r0 r1=>ET.we (ev 0) ⟨p,rfl,ET.we AB ⟨_,2,2,rfl,hp,rfl,?_⟩⟩⟩))
   exact AF (AH (ET.we (Cd (OR (DT AE (ev 0) AB) AB ⟨by decide,by decide⟩) (ev 1) m0) (q _ _ (oH _ (by omega)) (nV _ m0) ⟨a,b,r,rfl,a0,r0,by omega⟩)))
noncomputable def Dx:CV:=FX fun ts r=>∃t,ts=[t]∧DF t=false∧r=.bl (SO t&&!NA t)
theorem TC:FnScope ["_law_found"] ["_law_found"] (AA Jy):=⟨rfl,rfl,rfl,by decide+kernel,rfl,by decide+kernel,by decide+kernel⟩
theorem QR(F:Fun K "_law_whole" "_law_whole" Jy f fd)(T:Txt mg):FnOk P w K mg base (CXe P w) 1 f fd ["_law_found"] (Cf K Dx):=by
 refine AY F TC ?_ ?_
 ·rintro ts O Φ Ξ ⟨r,⟨t,rfl,_⟩,_⟩
  rfl
 ·rintro cdv A outer s H E O Ξ hr xf _ Φ ⟨_,⟨t,rfl,ht,rfl⟩,q⟩
  exact AF (AH (ET.we (Bw (NC T.nIsi T.nInt Zd OW (ev 0) ht) fun _=>DS (ZT (NC T.nIsi T.nBool Xr LR (ev 0) ht))) q))
end
theorem AN:(1000:Nat)<sizeLine:=by decide
noncomputable def PO(O0:AO)(p:Addr)(O:AO):Prop:=∃xs,O=Am O0 p xs∧Li xs
theorem PO.at(h:PO O0 p O):∃xs,O p=some xs∧Li xs:=by
 obtain⟨xs,rfl,px⟩:=h
 exact⟨xs,AE,px⟩
theorem PO.step(h:PO O0 p O)(px:Li xs):PO O0 p (Am O p xs):=by
 obtain⟨ys,rfl,_⟩:=h
 exact⟨xs,Aq,px⟩
theorem PO.start(h:O p=some xs)(px:Li xs):PO O p O:=⟨xs,(SV h).symm,px⟩
section
variable {pos q:Pos}
theorem FO(G:FnT Z.X.prog Z.X.w Z.X.K Z.X.mg Z.X.base "_law_draw" 2 ["_law_pen","_law_many"] Jz)(hr:Room 2 Z.X.A)(xf:XFly Z.X Z.W)(po:PO O0 p O)(ha:ET Z ρ O a (.raw (.ref p)))(hb:ET Z ρ O b (.int m))(m0:0<m)(m1:m≤1000000000)(k:∀r O',0≤r→r<m→PO O0 p O'→Φ (.int r) O')(hg:Gl Z.X "_law_draw":=by rfl)
  (he:i5 [a,b] Z.X.env=(false,eval a Z.X.env)::i5 [b] Z.X.env:=by rfl) (he2:i5 [b] Z.X.env=(false,eval b Z.X.env)::i5 [] Z.X.env:=by rfl) (hpl:(mS pos (i5 [b] Z.X.env)).any (·.1)=false:=by rfl):WE Z ρ O (.Call (.Name "_law_draw" q) [a,b] [] pos) Φ:=by
 obtain⟨xs,hp,px⟩:=po.at
 exact Ax G hr xf (EA.wa (AX ha (AX hb AD he2) he) ⟨p,xs,m,rfl,hp,px,m0,m1,fun r xs' r0 r1 px'=>k r _ r0 r1 (po.step px')⟩) hg (by decide) he hpl
end
noncomputable def mm(p:Int×Int):Int×Int:=(min p.1 p.2,max p.1 p.2)
section
variable {K:a8}
theorem Zy:(Ah ["a","b"] []).Nodup:=by decide+kernel
noncomputable def Lj:CV:=fun ts O Φ _=>∃ps:List (Int×Int),ts=[.lst (ps.map AU)]∧ps.length≤300∧(∀p∈ps,(0≤p.1∧p.1<65536)∧0≤p.2∧p.2<65536)∧
 ∀qs:List (Int×Int),qs.Pairwise KU→(∀q,q∈qs↔q∈ps.map mm)→qs.length≤ps.length→Φ (.tup (qs.map AU)) O
theorem TF:FnScope ["pairs"] ["pairs"] (AA FN):=⟨rfl,rfl,rfl,by decide+kernel,rfl,by decide+kernel,by decide+kernel⟩
theorem NM(F:Fun K "ties_of" "ties_of" FN f fd)(Tx:Txt mg):FnOk P w K mg base (CXe P w) 1 f fd ["pairs"] (Cf K Lj):=by
 refine AY F TF ?_ ?_
 ·rintro ts O Φ Ξ ⟨ps,rfl,_⟩
  rfl
 ·rintro cdv A outer s H E O Ξ hr xf _ Φ ⟨ps,rfl,hl,hp,q⟩
  have hu:(A.deeper (nI "ties_of" (AA FN) s.heap.objs.size f cdv)).units+8<cLine:=by have:=hr.un;omega
  have hz:ps.length≤sizeLine:=kO hl (by decide)
  refine AF (AH (LS Tx.nTuple (Jn (ps:=ps.map mm) Tx.nSorted Tx.nSet rfl hu ?_ (by simpa using hl) ?_ fun qs h1 h2 h3=> ⟨_,rfl,q qs h1 h2 (by simpa using h3)⟩)))
  ·rw[kI]
   refine BL ["a","b"] [] ps AU _ rfl (Ba (AA FN) ["pairs"] (by decide+kernel)) (BN (ev 0)) hz fun x hx=> ⟨[some (.int x.1),some (.int x.2)],fun X' Oe He is O'=>?_⟩
   obtain⟨cl,s',H',fp,rfl⟩:=is
   exact⟨GZ 0 1 rfl Zy (by decide) (by decide),AV (AG (Vi Tx.nMin rfl (ev 0) (ev 1)) (AG (OX Tx.nMax rfl (ev 0) (ev 1)) AD))⟩
  ·intro z hz
   obtain⟨p,h1,rfl⟩:=jw.mp hz
   have:=hp p h1
   show 0≤max _ _∧max _ _<65536
   omega
noncomputable def gj(p:Int×Int):Prop:=(0≤p.1∧p.1<65536)∧0≤p.2∧p.2<65536
end
theorem ja:kS "ValueError" =some (.type "ValueError"):=by decide+kernel
theorem Dy(s:Same H H')(hp:H' p=none):Same H (upd H' p o):=fun b u e=>by
 rw[AR (AW (s b u e) hp)];exact s b u e
structure Asks(K:a8)(mg:Str→Option Value)(CN:Addr)(x:Str)(b:Bool):Prop where
 ex:∃C,mg x=some (.ref C)∧js K (.ref CN) (.ref C)=some b
structure Kinds(K:a8)(mg:Str→Option Value)(CN:Addr)(b0 b1 b2 b3 b4 b5 b6 b7:Bool):Prop where
 a0:Asks K mg CN "NoPlace" b0
 a1:Asks K mg CN "NoNumber" b1
 a2:Asks K mg CN "NoLine" b2
 a3:Asks K mg CN "NoRing" b3
 a4:Asks K mg CN "NotEven" b4
 a5:Asks K mg CN "NoWeb" b5
 a6:Asks K mg CN "NoText" b6
 a7:Asks K mg CN "TooGreat" b7
 ve:js K (.ref CN) (.type "ValueError")=some true
 eN:ExcCls K CN
section
variable {P:Program} {w:World} {K:a8} {mg:Str→Option Value} {base:Heap} {CP:Addr}
theorem NN:FnScope ["_law_e","_law_marks"] ["_law_e"] (AA Oi):=⟨rfl,rfl,rfl,by decide+kernel,rfl,by decide+kernel,by decide+kernel⟩
theorem WL{j:Nat}(F:Fun K "_law_kind_of" "_law_kind_of" Oi f fd)(T:Txt mg)(U:Kinds K mg CP b0 b1 b2 b3 b4 b5 b6 b7)(hc:(([.bl b0,.bl b1,.bl b2,.bl b3]++[.bl b4,.bl b5,.bl b6,.bl b7]:List V).countP fun z=>Ke z (.bl true))=1)(hj:([.bl b0,.bl b1,.bl b2,.bl b3]++[.bl b4,.bl b5,.bl b6,.bl b7]:List V)[j]?=some (.bl true))(hno:∀m z,m<j→([.bl b0,.bl b1,.bl b2,.bl b3]++[.bl b4,.bl b5,.bl b6,.bl b7]:List V)[m]?=some z→Ke z (.bl true)=false)(hw:([.str "place",.str "number",.str "line",.str "ring",.str "even",.str "web",.str "text",.str "great"]:List V)[j]?=some (.str y)):FnH P w K mg base 1 f fd ["_law_e"] (Jp CP y):=by
 obtain⟨c0,m0,k0⟩:=U.a0.ex
 obtain⟨c1,m1,k1⟩:=U.a1.ex
 obtain⟨c2,m2,k2⟩:=U.a2.ex
 obtain⟨c3,m3,k3⟩:=U.a3.ex
 obtain⟨c4,m4,k4⟩:=U.a4.ex
 obtain⟨c5,m5,k5⟩:=U.a5.ex
 obtain⟨c6,m6,k6⟩:=U.a6.ex
 obtain⟨c7,m7,k7⟩:=U.a7.ex
 refine F.okH NN (fun vs H Q E h=>?_) (fun cdv A outer s H vs Q hr h=>?_)
 ·obtain⟨x,rfl,_⟩:=h
  rfl
 ·obtain⟨x,rfl,hx,k⟩:=h
  refine⟨_,Bj (Gj (i:=1) NN.nd rfl (nv rfl) (Gu
    (AJ (BA Bc (by rfl) T.nIsi IL (AJ (pv 0) (AJ (By (v:=.ref c0) (by rfl) m0 rfl) Au)))
    (AJ (BA Bc (by rfl) T.nIsi IL (AJ (pv 0) (AJ (By (v:=.ref c1) (by rfl) m1 rfl) Au)))
    (AJ (BA Bc (by rfl) T.nIsi IL (AJ (pv 0) (AJ (By (v:=.ref c2) (by rfl) m2 rfl) Au)))
    (AJ (BA Bc (by rfl) T.nIsi IL (AJ (pv 0) (AJ (By (v:=.ref c3) (by rfl) m3 rfl) Au))) Au))))))
   (Bj (Gj (i:=1) NN.nd rfl (nv rfl) (Xa MZ (pv 1) (Gu
    (AJ (BA Bc (by rfl) T.nIsi IL (AJ (pv 0) (AJ (By (v:=.ref c4) (by rfl) m4 rfl) Au)))
    (AJ (BA Bc (by rfl) T.nIsi IL (AJ (pv 0) (AJ (By (v:=.ref c5) (by rfl) m5 rfl) Au)))
    (AJ (BA Bc (by rfl) T.nIsi IL (AJ (pv 0) (AJ (By (v:=.ref c6) (by rfl) m6 rfl) Au)))
    (AJ (BA Bc (by rfl) T.nIsi IL (AJ (pv 0) (AJ (By (v:=.ref c7) (by rfl) m7 rfl) Au))) Au)))))))
   (Bj (KZ (XY (Qt (Kb (BA Bc (by rfl) T.nIsi IL (AJ (pv 0) (AJ (Nm (v:=.ty "ValueError") (by rfl) T.nVE ja rfl) Au))) (fun _=>rfl)))
     (Qs (ED RF (RO nH PySem.F.slot_list_count PySem.F.type_list_count Kq (pv 1) (AJ Qr Au)) JJ (Ao _)))).pt
     (Cg (Dh CK)) Eo)
   (Cg (Dh (Nw Bz (Gu (AJ CK (AJ CK (AJ CK (AJ CK (AJ CK (AJ CK (AJ CK (AJ CK Au)))))))))
    (RO nH PySem.F.slot_list_index PySem.F.type_list_index Ra (pv 1) (AJ Qr Au)) (fun _ _=>rfl)))))),?_⟩
  refine⟨_,rfl,_,.ref c0,_,_,b0,rfl,rfl,.inr ⟨x,CP,rfl,rfl,hx,U.eN⟩,k0,?_⟩
  refine⟨_,rfl,_,.ref c1,_,_,b1,rfl,rfl,.inr ⟨x,CP,rfl,rfl,hx,U.eN⟩,k1,?_⟩
  refine⟨_,rfl,_,.ref c2,_,_,b2,rfl,rfl,.inr ⟨x,CP,rfl,rfl,hx,U.eN⟩,k2,?_⟩
  refine⟨_,rfl,_,.ref c3,_,_,b3,rfl,rfl,.inr ⟨x,CP,rfl,rfl,hx,U.eN⟩,k3,(by show 4≤sizeLine;decide),fun p hp=>?_⟩
  have hx1:Rd (upd H p (.lst [.bl b0,.bl b1,.bl b2,.bl b3])) x (GQ CP x):=hx.upd hp
  refine⟨_,rfl,?_⟩
  refine⟨_,rfl,_,.ref c4,_,_,b4,rfl,rfl,.inr ⟨x,CP,rfl,rfl,hx1,U.eN⟩,k4,?_⟩
  refine⟨_,rfl,_,.ref c5,_,_,b5,rfl,rfl,.inr ⟨x,CP,rfl,rfl,hx1,U.eN⟩,k5,?_⟩
  refine⟨_,rfl,_,.ref c6,_,_,b6,rfl,rfl,.inr ⟨x,CP,rfl,rfl,hx1,U.eN⟩,k6,?_⟩
  refine⟨_,rfl,_,.ref c7,_,_,b7,rfl,rfl,.inr ⟨x,CP,rfl,rfl,hx1,U.eN⟩,k7,(by show 4≤sizeLine;decide),fun p2 hp2=>?_⟩
  have np:p≠p2:=fun z=>by rw[z,AL] at hp2;cases hp2
  refine⟨p,p2,_,_,rfl,rfl,(by rw[AR np];exact AL),AL,(by show 8≤sizeLine;decide),fun p3 hp3=>?_⟩
  have s1:Same H (upd H p (.lst [.bl b0,.bl b1,.bl b2,.bl b3])):=Dy (Same.refl H) hp
  have s2:=Dy (o:=.lst [.bl b4,.bl b5,.bl b6,.bl b7]) s1 hp2
  have s3:=Dy (o:=.lst ([.bl b0,.bl b1,.bl b2,.bl b3]++[.bl b4,.bl b5,.bl b6,.bl b7])) s2 hp3
  refine⟨_,rfl,_,.ty "ValueError",_,_,true,rfl,rfl,.inr ⟨x,CP,rfl,rfl,hx.same s3,U.eN⟩,U.ve,true,rfl,?_⟩
  refine GP ?_
  refine⟨_,rfl,.inl ⟨rfl,_,SqL.of AL⟩,p3,_,_,rfl,rfl,SqL.of AL,rfl,rfl,rfl,_,rfl,?_⟩
  have ec:(!decide (V.int ((([.bl b0,.bl b1,.bl b2,.bl b3]++[.bl b4,.bl b5,.bl b6,.bl b7]:List V).countP fun z=>Ke z (.bl true):Nat):Int)=V.int 1))=false:=by rw[hc];rfl
  rw[ec]
  refine GP ?_
  refine⟨(by show 8≤sizeLine;decide),fun p4 hp4=>?_⟩
  have n4:p3≠p4:=fun z=>by rw[z,AL] at hp4;cases hp4
  refine⟨_,rfl,.inl ⟨rfl,_,SqL.of (by rw[AR n4];exact AL)⟩,p3,_,_,j,rfl,rfl,SqL.of (by rw[AR n4];exact AL),rfl,rfl,⟨.bl true,hj,rfl⟩,hno,?_⟩
  exact⟨p4,_,(j:Int),_,rfl,rfl,SqL.of AL,An hw,k _ (Dy s3 hp4)⟩
theorem cw{xs:List V}(h:((jr j).all fun m=>match xs[m]? with|some z=>!Ke z (.bl true)|none=>true)=true):∀m z,m<j→xs[m]?=some z→Ke z (.bl true)=false:=fun m z hm e=>by
 have:=kA.mp h m (ky.mpr hm)
 rw[e] at this
 simpa using this
theorem KA(F:Fun K "_law_kind_of" "_law_kind_of" Oi f fd)(T:Txt mg)(U:Kinds K mg CP false false true false false false false false):FnH P w K mg base 1 f fd ["_law_e"] (Jp CP "line"):=WL (j:=2) F T U rfl rfl (cw (by decide)) rfl
theorem Xz:FnScope ["_law_e","_law_kind"] ["_law_e"] (AA Zr):=⟨rfl,rfl,rfl,by decide+kernel,rfl,by decide+kernel,by decide+kernel⟩
theorem Zz{y:Str}(h1:y≠"great")(h2:y≠"web")(F:Fun K "_law_refused" "_law_refused" Zr f fd)(FK:FnH P w K mg base 1 fK fdK ["_law_e"] (Jp CP y))(mK:mg "_law_kind_of" =some (.ref fK))(kK:lF K (.ref fK)=true)(bK:Binds K fdK ["_law_e"] []):FnH P w K mg base 2 f fd ["_law_e"] (gT CP (.tup [.str y])):=by
 refine F.okH Xz (fun vs H Q E h=>?_) (fun cdv A outer s H vs Q hr h=>?_)
 ·obtain⟨x,rfl,_⟩:=h
  rfl
 ·obtain⟨x,rfl,hx,k⟩:=h
  refine⟨_,Bj (Gj (i:=1) Xz.nd rfl (nv rfl) (Ko FK hr (by rfl) mK kK bK (AJ (pv 0) Au)))
   (Bj (KZ (ED Gm (pv 1) CK (Ao _)) (Cg (Dh (JM (AJ (pv 1) (AJ (MS (pv 0) rfl) (AJ (MS (pv 0) rfl) Au)))))) Eo)
   (Bj (KZ (ED Gm (pv 1) CK (Ao _)) (Cg (Dh (JM (AJ (pv 1) (AJ (MS (pv 0) rfl) Au))))) Eo)
   (Cg (Dh (JM (AJ (pv 1) Au)))))),?_⟩
  refine⟨_,rfl,x,rfl,hx,fun H' s'=>?_⟩
  have e1:decide (V.str y=V.str "great")=false:=decide_eq_false fun z=>h1 (by injection z)
  have e2:decide (V.str y=V.str "web")=false:=decide_eq_false fun z=>h2 (by injection z)
  refine⟨_,rfl,rfl,_,rfl,?_⟩
  rw[e1]
  refine GP ?_
  refine⟨_,rfl,rfl,_,rfl,?_⟩
  rw[e2]
  refine GP ?_
  refine⟨_,rfl,(by show 1≤sizeLine;decide),fun p hp=>?_⟩
  refine k _ _ (Dy s' hp) fun K O=> .tup AL (.one (.str y))
end
structure WebA(n:Int)(ps:List (Int×Int)):Prop where
 n0:1≤n
 n1:n≤16
 hp:∀p∈ps,Xw n p
 hl:ps.length≤200
noncomputable def gm:Stmt→Expr
 | .Return (some e) _=>e
 | .Assign _ e _=>e
 |_=> .Constant .none 0 ⟨0,0,0,0⟩
theorem BR{α β:Type}{f:α→List β}:∀{l:List α},(∀x∈l,(f x).length≤m)→(l.flatMap f).length≤l.length*m
 | [],_=>by simp
 |x::l,h=>by
  have:=BR (l:=l) fun y hy=>h y (jt _ hy)
  have:=h x (j4 ..)
  rw[List.flatMap_cons,j8,km,Nat.succ_mul]
  omega
theorem Bx{β:Type}{f:Nat→List β}:(jr (i+1)).flatMap f=(jr i).flatMap f++f i:=by
 rw[List.range_succ,ow]
 simp
noncomputable def FP{β:Type}(n:Int)(f:Int→β):List β:=(jr n.toNat).map fun(i:Nat)=>f (0+(i:Int))
theorem BW{f:Int→β}:(FP n f).length=n.toNat:=by unfold FP;simp
noncomputable def gq{β:Type}(n:Int)(f:Int→List β):List β:=(jr n.toNat).flatMap fun(i:Nat)=>f (0+(i:Int))
noncomputable def FQ(n:Int):List (Int×Int):=FP n fun i=> (i,(i+1)%n)
noncomputable def NO(n:Int):List (Int×Int):=FP n fun i=> (i,n+i)
noncomputable def Ho(n k:Int):List (Int×Int):=FQ n++(FP n fun i=> (n+i,n+(i+k)%n))++NO n
noncomputable def aA(a b:Int):List (Int×Int):=gq a fun i=>FP b fun j=> (i,a+j)
noncomputable def TH(n:Int):List (Int×Int):=gq n fun i=>FP i fun j=> (j,i)
noncomputable def TJ(k:Int):List (Int×Int):=gq k fun i=>FP (1*2^k.toNat) fun j=> (j,oB j (1*2^i.toNat))
noncomputable def NP(n:Int):List (Int×Int):=[(0:Int),1,3].flatMap fun st=>FP n fun i=> (n+i,(i+st)%n)
section
variable {K:a8}
theorem YA:(Ah ["place"] [(("n" :Str),0)]).Nodup:=by decide+kernel
theorem aB:(Ah ["place"] [(("n" :Str),0),(("k" :Str),1)]).Nodup:=by decide+kernel
noncomputable def NQ:CV:=FX fun ts r=>∃n,ts=[.int n]∧0<n∧n≤16∧r=.lst ((FQ n).map AU)
theorem WM:FnScope ["n"] ["n"] (AA Ju):=⟨rfl,rfl,rfl,by decide+kernel,rfl,by decide+kernel,by decide+kernel⟩
theorem WN(F:Fun K "ring_pairs" "ring_pairs" Ju f fd)(Tx:Txt mg):FnOk P w K mg base (CXe P w) 1 f fd ["n"] (Cf K NQ):=by
 refine AY F WM ?_ ?_
 ·rintro ts O Φ Ξ ⟨r,⟨n,rfl,_⟩,_⟩
  rfl
 ·rintro cdv A outer s H E O Ξ hr xf _ Φ ⟨_,⟨n,rfl,n0,n1,rfl⟩,q⟩
  have sb:=AN
  refine AF (AH (ET.we (ET.cast (BL ["place"] [("n",0)] (jr n.toNat) (fun i=> .int (0+(i:Int))) (fun i=>AU (0+(i:Int),(0+(i:Int)+1)%n)) rfl (Ba (AA Ju) ["n"] (by decide+kernel)) (Ad Tx.nRange (ev 0) ⟨by omega,by omega⟩) (by simp;omega) fun x hx=> ⟨[some (.int (0+(x:Int))),some (.int n)],fun X' Oe He is O'=>?_⟩) ?_) q))
  ·obtain⟨cl,s',H',fp,rfl⟩:=is
   exact⟨AK 0 YA (by decide),Ck (ev 0) (Cd (As (ev 0) AB) (ev 1) n0)⟩
  ·unfold FQ FP
   rw[kI]
   rfl
noncomputable def TK:CV:=FX fun ts r=>∃n,ts=[.int n]∧0<n∧n≤16∧r=.lst ((NO n).map AU)
theorem dA:FnScope ["n"] ["n"] (AA WB):=⟨rfl,rfl,rfl,by decide+kernel,rfl,by decide+kernel,by decide+kernel⟩
theorem aC(F:Fun K "across_pairs" "across_pairs" WB f fd)(Tx:Txt mg):FnOk P w K mg base (CXe P w) 1 f fd ["n"] (Cf K TK):=by
 refine AY F dA ?_ ?_
 ·rintro ts O Φ Ξ ⟨r,⟨n,rfl,_⟩,_⟩
  rfl
 ·rintro cdv A outer s H E O Ξ hr xf _ Φ ⟨_,⟨n,rfl,n0,n1,rfl⟩,q⟩
  have sb:=AN
  refine AF (AH (ET.we (ET.cast (BL ["place"] [("n",0)] (jr n.toNat) (fun i=> .int (0+(i:Int))) (fun i=>AU (0+(i:Int),n+(0+(i:Int)))) rfl (Ba (AA WB) ["n"] (by decide+kernel)) (Ad Tx.nRange (ev 0) ⟨by omega,by omega⟩) (by simp;omega) fun x hx=> ⟨[some (.int (0+(x:Int))),some (.int n)],fun X' Oe He is O'=>?_⟩) ?_) q))
  ·obtain⟨cl,s',H',fp,rfl⟩:=is
   exact⟨AK 0 YA (by decide),Ck (ev 0) (As (ev 1) (ev 0))⟩
  ·unfold NO FP
   rw[kI]
   rfl
noncomputable def TM:CV:=FX fun ts r=>∃n k,ts=[.int n,.int k]∧0<n∧n≤16∧r=.lst ((Ho n k).map AU)
theorem aD:FnScope ["n","k"] ["n","k"] (AA Om):=⟨rfl,rfl,rfl,by decide+kernel,rfl,by decide+kernel,by decide+kernel⟩
theorem WO(F:Fun K "spokes_pairs" "spokes_pairs" Om f fd)(Tx:Txt mg)(Gr:FnT P w K mg base "ring_pairs" 1 ["n"] NQ)(Ga:FnT P w K mg base "across_pairs" 1 ["n"] TK):FnOk P w K mg base (CXe P w) 2 f fd ["n","k"] (Cf K TM):=by
 refine AY F aD ?_ ?_
 ·rintro ts O Φ Ξ ⟨r,⟨n,k,rfl,_⟩,_⟩
  rfl
 ·rintro cdv A outer s H E O Ξ hr xf _ Φ ⟨_,⟨n,k,rfl,n0,n1,rfl⟩,q⟩
  have sb:=AN
  have l1:(FQ n).length=n.toNat:=BW
  have l2:(NO n).length=n.toNat:=BW
  have l3:(FP n fun i=> (n+i,n+(i+k)%n)).length=n.toNat:=BW
  refine AF (AH (ET.we (t:=.lst ((Ho n k).map AU)) ?_ q))
  unfold Ho
  rw[kl,kl]
  refine EL (EL (Aj Gr hr xf (AG (ev 0) AD) ⟨n,rfl,n0,n1,rfl⟩) (ET.cast (BL ["place"] [("n",0),("k",1)] (jr n.toNat) (fun i=> .int (0+(i:Int))) (fun i=>AU (n+(0+(i:Int)),n+(0+(i:Int)+k)%n)) rfl (Ba (AA Om) ["n","k"] (by decide+kernel)) (Ad Tx.nRange (ev 0) ⟨by omega,by omega⟩) (by simp;omega) fun x hx=> ⟨[some (.int (0+(x:Int))),some (.int n),some (.int k)],fun X' Oe He is O'=>?_⟩) ?_) (by simp only[b9];omega)) (Aj Ga hr xf (AG (ev 0) AD) ⟨n,rfl,n0,n1,rfl⟩) (by simp only[j8,b9];omega)
  ·obtain⟨cl,s',H',fp,rfl⟩:=is
   exact⟨AK 0 aB (by decide),Ck (As (ev 1) (ev 0)) (As (ev 1) (Cd (As (ev 0) (ev 2)) (ev 1) n0))⟩
  ·unfold FP
   rw[kI]
   rfl
end
theorem NR{β:Type}{n:Int}{f:Int→List β}(h:∀j:Nat,j<i→(f (0+(j:Int))).length≤m):((jr i).flatMap fun(i:Nat)=>f (0+(i:Int))).length≤i*m:=by
 have:=BR (f:=fun(i:Nat)=>f (0+(i:Int))) (m:=m) (l:=jr i) fun x hx=>h x (ky.mp hx)
 rw[kr] at this
 exact this
section
variable {K:a8}
theorem aE:(Ah ["other"] [(("place" :Str),3),(("a" :Str),0)]).Nodup:=by decide+kernel
theorem WQ:(Ah ["other"] [(("place" :Str),2)]).Nodup:=by decide+kernel
theorem WR:(Ah ["place"] [(("bit" :Str),2)]).Nodup:=by decide+kernel
noncomputable def YB:CV:=FX fun ts r=>∃a b,ts=[.int a,.int b]∧0≤a∧a≤16∧0≤b∧b≤16∧r=.lst ((aA a b).map AU)
theorem TN:FnScope ["a","b","pairs","place"] ["a","b"] (AA Vz):=⟨rfl,rfl,rfl,by decide+kernel,rfl,by decide+kernel,by decide+kernel⟩
theorem aF(F:Fun K "two_pairs" "two_pairs" Vz f fd)(Tx:Txt mg):FnOk P w K mg base (CXe P w) 1 f fd ["a","b"] (Cf K YB):=by
 refine AY F TN ?_ ?_
 ·rintro ts O Φ Ξ ⟨r,⟨a,b,rfl,_⟩,_⟩
  rfl
 ·rintro cdv A outer s H E O Ξ hr xf _ Φ ⟨_,⟨a,b,rfl,a0,a1,b0,b1,rfl⟩,q⟩
  have sb:=AN
  refine AC (AM 2 (Bo (BC ⟨kZ _,fun l hlO=>?_⟩)) TN.nd)
  refine AC (BQ Af.own rfl (EI.wi (Ad Tx.nRange (ev 0) ⟨by omega,by omega⟩) ⟨fun i ρ' O'=>i≤16∧∃v3:Option T,ρ'=[some (.int a),some (.int b),some (.raw (.ref l)),v3]∧O'=Am O l (((jr i).flatMap fun(i:Nat)=>FP b fun j=> (0+(i:Int),a+j)).map AU),⟨by omega,none,rfl,rfl⟩,?_,?_⟩))
  ·rintro i t _ _ e ⟨_,v3,rfl,rfl⟩
   obtain⟨hi,rfl⟩:=Br e
   have hlen:=NR (n:=0) (f:=fun i=>FP b fun j=> (i,a+j)) (m:=16) (i:=i) fun j _=>by rw[BW];omega
   refine⟨[some (.int a),some (.int b),some (.raw (.ref l)),some (.int (0+(i:Int)))],AK 3 TN.nd (by show 3<4;decide),?_⟩
   refine AF (BI (BE (ET.we (ev 2) ⟨l,rfl,⟨_,AE⟩,ET.we (t:=.lst ((FP b fun j=> (0+(i:Int),a+j)).map AU)) (ET.cast (BL ["other"] [("place",3),("a",0)] (jr b.toNat) (fun j=> .int (0+(j:Int))) (fun j=>AU (0+(i:Int),a+(0+(j:Int)))) rfl (Ba (AA Vz) ["a","b","pairs","place"] (by decide+kernel)) (Ad Tx.nRange (ev 1) ⟨by omega,by omega⟩) (by simp;omega) fun x hx=> ⟨[some (.int (0+(x:Int))),some (.int (0+(i:Int))),some (.int a)],fun X' Oe He is O'=>?_⟩) ?_) ⟨_,_,rfl,AE,?_,?_⟩⟩)))
   ·obtain⟨cl,s',H',fp,rfl⟩:=is
    exact⟨AK 0 aE (by decide),Ck (ev 1) (As (ev 2) (ev 0))⟩
   ·unfold FP
    rw[kI]
    rfl
   ·rw[b9,b9,BW]
    omega
   ·refine⟨by omega,_,rfl,?_⟩
    rw[Aq,Bx,kl]
  ·rintro _ _ ⟨_,v3,rfl,rfl⟩
   rw[Ar]
   refine BD (p:=l) (n:=2) AE hlO rfl ?_
   rw[Al hlO]
   exact AF (AH (ET.we (ev 2) q))
noncomputable def TQ:CV:=FX fun ts r=>∃n,ts=[.int n]∧0≤n∧n≤16∧r=.lst ((TH n).map AU)
theorem NS:FnScope ["n","pairs","place"] ["n"] (AA Ol):=⟨rfl,rfl,rfl,by decide+kernel,rfl,by decide+kernel,by decide+kernel⟩
theorem WU(F:Fun K "full_pairs" "full_pairs" Ol f fd)(Tx:Txt mg):FnOk P w K mg base (CXe P w) 1 f fd ["n"] (Cf K TQ):=by
 refine AY F NS ?_ ?_
 ·rintro ts O Φ Ξ ⟨r,⟨n,rfl,_⟩,_⟩
  rfl
 ·rintro cdv A outer s H E O Ξ hr xf _ Φ ⟨_,⟨n,rfl,n0,n1,rfl⟩,q⟩
  have sb:=AN
  refine AC (AM 1 (Bo (BC ⟨kZ _,fun l hlO=>?_⟩)) NS.nd)
  refine AC (BQ Af.own rfl (EI.wi (Ad Tx.nRange (ev 0) ⟨by omega,by omega⟩) ⟨fun i ρ' O'=>i≤16∧∃v2:Option T,ρ'=[some (.int n),some (.raw (.ref l)),v2]∧O'=Am O l (((jr i).flatMap fun(i:Nat)=>FP (0+(i:Int)) fun j=> (j,0+(i:Int))).map AU),⟨by omega,none,rfl,rfl⟩,?_,?_⟩))
  ·rintro i t _ _ e ⟨_,v2,rfl,rfl⟩
   obtain⟨hi,rfl⟩:=Br e
   have hlen:=NR (n:=0) (f:=fun i=>FP i fun j=> (j,i)) (m:=16) (i:=i) fun j hj=>by rw[BW];omega
   refine⟨[some (.int n),some (.raw (.ref l)),some (.int (0+(i:Int)))],AK 2 NS.nd (by show 2<3;decide),?_⟩
   refine AF (BI (BE (ET.we (ev 1) ⟨l,rfl,⟨_,AE⟩,ET.we (t:=.lst ((FP (0+(i:Int)) fun j=> (j,0+(i:Int))).map AU)) (ET.cast (BL ["other"] [("place",2)] (jr (0+(i:Int)).toNat) (fun j=> .int (0+(j:Int))) (fun j=>AU (0+(j:Int),0+(i:Int))) rfl (Ba (AA Ol) ["n","pairs","place"] (by decide+kernel)) (Ad Tx.nRange (ev 2) ⟨by omega,by omega⟩) (by simp;omega) fun x hx=> ⟨[some (.int (0+(x:Int))),some (.int (0+(i:Int)))],fun X' Oe He is O'=>?_⟩) ?_) ⟨_,_,rfl,AE,?_,?_⟩⟩)))
   ·obtain⟨cl,s',H',fp,rfl⟩:=is
    exact⟨AK 0 WQ (by decide),Ck (ev 0) (ev 1)⟩
   ·unfold FP
    rw[kI]
    rfl
   ·rw[b9,b9,BW]
    omega
   ·refine⟨by omega,_,rfl,?_⟩
    rw[Aq,Bx,kl]
  ·rintro _ _ ⟨_,v2,rfl,rfl⟩
   rw[Ar]
   refine BD (p:=l) (n:=1) AE hlO rfl ?_
   rw[Al hlO]
   exact AF (AH (ET.we (ev 1) q))
noncomputable def TR:CV:=FX fun ts r=>∃n,ts=[.int n]∧0≤n∧n≤4∧r=.lst ((TJ n).map AU)
theorem NT:FnScope ["k","pairs","bit"] ["k"] (AA Oj):=⟨rfl,rfl,rfl,by decide+kernel,rfl,by decide+kernel,by decide+kernel⟩
theorem dB{k:Int}(h0:0≤k)(h1:k≤4):(0:Int)<1*2^k.toNat∧(1*2^k.toNat:Int)≤16:=by
 have:k=0∨k=1∨k=2∨k=3∨k=4:=by omega
 rcases this with rfl|rfl|rfl|rfl|rfl<;>decide
theorem TU(h0:0≤k)(h1:k≤4):RB 1 k:=by
 have:k=0∨k=1∨k=2∨k=3∨k=4:=by omega
 rcases this with rfl|rfl|rfl|rfl|rfl<;>exact⟨by decide,by decide,by decide⟩
theorem WV(F:Fun K "cube_pairs" "cube_pairs" Oj f fd)(Tx:Txt mg):FnOk P w K mg base (CXe P w) 1 f fd ["k"] (Cf K TR):=by
 refine AY F NT ?_ ?_
 ·rintro ts O Φ Ξ ⟨r,⟨n,rfl,_⟩,_⟩
  rfl
 ·rintro cdv A outer s H E O Ξ hr xf _ Φ ⟨_,⟨n,rfl,n0,n1,rfl⟩,q⟩
  have sb:=AN
  have pl:=dB n0 n1
  refine AC (AM 1 (Bo (BC ⟨kZ _,fun l hlO=>?_⟩)) NT.nd)
  refine AC (BQ Af.own rfl (EI.wi (Ad Tx.nRange (ev 0) ⟨by omega,by omega⟩) ⟨fun i ρ' O'=>i≤4∧∃v2:Option T,ρ'=[some (.int n),some (.raw (.ref l)),v2]∧O'=Am O l (((jr i).flatMap fun(i:Nat)=>FP (1*2^n.toNat) fun j=> (j,oB j (1*2^(0+(i:Int)).toNat))).map AU),⟨by omega,none,rfl,rfl⟩,?_,?_⟩))
  ·rintro i t _ _ e ⟨_,v2,rfl,rfl⟩
   obtain⟨hi,rfl⟩:=Br e
   have hlen:=NR (n:=0) (f:=fun i=>FP (1*2^n.toNat) fun j=> (j,oB j (1*2^i.toNat))) (m:=16) (i:=i) fun j hj=>by rw[BW];omega
   refine⟨[some (.int n),some (.raw (.ref l)),some (.int (0+(i:Int)))],AK 2 NT.nd (by show 2<3;decide),?_⟩
   refine AF (BI (BE (ET.we (ev 1) ⟨l,rfl,⟨_,AE⟩,ET.we (t:=.lst ((FP (1*2^n.toNat) fun j=> (j,oB j (1*2^(0+(i:Int)).toNat))).map AU)) (ET.cast (BL ["place"] [("bit",2)] (jr (1*2^n.toNat:Int).toNat) (fun j=> .int (0+(j:Int))) (fun j=>AU (0+(j:Int),oB (0+(j:Int)) (1*2^(0+(i:Int)).toNat))) rfl (Ba (AA Oj) ["k","pairs","bit"] (by decide+kernel)) (Ad Tx.nRange (Jt AB (ev 0) (TU n0 n1)) ⟨by omega,by omega⟩) (by simp only[kr];omega) fun x hx=> ⟨[some (.int (0+(x:Int))),some (.int (0+(i:Int)))],fun X' Oe He is O'=>?_⟩) ?_) ⟨_,_,rfl,AE,?_,?_⟩⟩)))
   ·obtain⟨cl,s',H',fp,rfl⟩:=is
    exact⟨AK 0 WR (by decide),Ck (ev 0) (Zq (ev 0) (Jt AB (ev 1) (TU (by omega) (by omega))))⟩
   ·unfold FP
    rw[kI]
    rfl
   ·rw[b9,b9,BW]
    omega
   ·refine⟨by omega,_,rfl,?_⟩
    rw[Aq,Bx,kl]
  ·rintro _ _ ⟨_,v2,rfl,rfl⟩
   rw[Ar]
   refine BD (p:=l) (n:=1) AE hlO rfl ?_
   rw[Al hlO]
   exact AF (AH (ET.we (ev 1) q))
end
open SrtG
inductive KIs:Kd→Prop
 |cube {n:Int}:0≤n→n≤4→KIs ("cube",[n])
 |full {n:Int}:1≤n→n≤16→KIs ("full",[n])
 |ladder {n:Int}:3≤n→n≤8→KIs ("ladder",[n])
 |lines:KIs ("lines",[7])
 |ring {n:Int}:3≤n→n≤16→KIs ("ring",[n])
 |spokes {n k:Int}:3≤n→n≤8→1≤k→k*2<n→KIs ("spokes",[n,k])
 |twisted {n:Int}:2≤n→n≤8→KIs ("twisted",[n])
 |two {a b:Int}:1≤a→1≤b→a+b≤16→KIs ("two",[a,b])
noncomputable def CW(k:Kd):Int×List (Int×Int):=
 let n:=k.2.getD 0 0
 let m:=k.2.getD 1 0
 if k.1= "cube" then(1*2^n.toNat,TJ n) else if k.1= "full" then(n,TH n) else if k.1= "ladder" then(n*2,Ho n 1) else if k.1= "lines" then(n*2,NP n) else if k.1= "ring" then(n,FQ n) else if k.1= "spokes" then(n*2,Ho n m) else if k.1= "twisted" then(n*2,FQ (n*2)++NO n) else(n+m,aA n m)
section
variable {P:Program} {w:World} {K:a8} {mg:Str→Option Value} {base:Heap}
theorem dC:(Ah ["line"] [(("n" :Str),0),(("step" :Str),2)]).Nodup:=by decide+kernel
noncomputable def Ot:CV:=FX fun ts r=>∃n,ts=[.int n]∧0<n∧n≤16∧r=.lst ((NP n).map AU)
theorem KB:FnScope ["n","pairs","step"] ["n"] (AA Gd):=⟨rfl,rfl,rfl,by decide+kernel,rfl,by decide+kernel,by decide+kernel⟩
theorem TV(F:Fun K "lines_pairs" "lines_pairs" Gd f fd)(Tx:Txt mg):FnOk P w K mg base (CXe P w) 1 f fd ["n"] (Cf K Ot):=by
 refine AY F KB ?_ ?_
 ·rintro ts O Φ Ξ ⟨r,⟨n,rfl,_⟩,_⟩
  rfl
 ·rintro cdv A outer s H E O Ξ hr xf _ Φ ⟨_,⟨n,rfl,n0,n1,rfl⟩,q⟩
  have sb:=AN
  refine AC (AM 1 (Bo (BC ⟨kZ _,fun l hlO=>?_⟩)) KB.nd)
  refine AC (BQ Af.own rfl (EI.wi (DU (ts:=[(0:Int),1,3].map T.int) (AV (AG AB (AG AB (AG AB AD))) (by show 3≤sizeLine;decide))) ⟨fun i ρ' O'=>i≤3∧∃v2:Option T,ρ'=[some (.int n),some (.raw (.ref l)),v2]∧O'=Am O l ((([(0:Int),1,3].take i).flatMap fun st=>FP n fun j=> (n+j,(j+st)%n)).map AU),⟨by omega,none,rfl,rfl⟩,?_,?_⟩))
  ·rintro i t _ _ e ⟨_,v2,rfl,rfl⟩
   rw[i6] at e
   cases ec:[(0:Int),1,3][i]? with
   |none=>rw[ec] at e;cases e
   |some st=>
    rw[ec] at e
    cases e
    have hi:i<3:=(jn.mp ec).1
    have hlen:=BR (f:=fun st=>FP n fun j=> (n+j,(j+st)%n)) (m:=16) (l:=[(0:Int),1,3].take i) fun x hx=>by rw[BW];omega
    have hl3:([(0:Int),1,3].take i).length≤3:=by rw[kH];omega
    refine⟨[some (.int n),some (.raw (.ref l)),some (.int st)],AK 2 KB.nd (by show 2<3;decide),?_⟩
    refine AF (BI (BE (ET.we (ev 1) ⟨l,rfl,⟨_,AE⟩,ET.we (t:=.lst ((FP n fun j=> (n+j,(j+st)%n)).map AU)) (ET.cast (BL ["line"] [("n",0),("step",2)] (jr n.toNat) (fun j=> .int (0+(j:Int))) (fun j=>AU (n+(0+(j:Int)),(0+(j:Int)+st)%n)) rfl (Ba (AA Gd) ["n","pairs","step"] (by decide+kernel)) (Ad Tx.nRange (ev 0) ⟨by omega,by omega⟩) (by simp;omega) fun x hx=> ⟨[some (.int (0+(x:Int))),some (.int n),some (.int st)],fun X' Oe He is O'=>?_⟩) ?_) ⟨_,_,rfl,AE,?_,?_⟩⟩)))
    ·obtain⟨cl,s',H',fp,rfl⟩:=is
     exact⟨AK 0 dC (by decide),Ck (As (ev 1) (ev 0)) (Cd (As (ev 0) (ev 2)) (ev 1) n0)⟩
    ·unfold FP
     rw[kI]
     rfl
    ·rw[b9,b9,BW]
     omega
    ·refine⟨by omega,_,rfl,?_⟩
     rw[Aq,oX,ec,ow,kl]
     congr 2
     simp
  ·rintro _ _ ⟨_,v2,rfl,rfl⟩
   refine BD (p:=l) (n:=1) AE hlO rfl ?_
   rw[Al hlO]
   exact AF (AH (ET.we (ev 1) q))
noncomputable def YC:CV:=FX fun ts r=>∃k,ts=[kT k]∧KIs k∧r=.tup [.int (CW k).1,.lst ((CW k).2.map AU)]
theorem CG:FnScope ["kind","word","n"] ["kind"] (AA Zs):=⟨rfl,rfl,rfl,by decide+kernel,rfl,by decide+kernel,by decide+kernel⟩
structure Prs(P:Program)(w:World)(K:a8)(mg:Str→Option Value)(base:Heap):Prop where
 cu:FnT P w K mg base "cube_pairs" 1 ["k"] TR
 fu:FnT P w K mg base "full_pairs" 1 ["n"] TQ
 ri:FnT P w K mg base "ring_pairs" 1 ["n"] NQ
 ac:FnT P w K mg base "across_pairs" 1 ["n"] TK
 tw:FnT P w K mg base "two_pairs" 1 ["a","b"] YB
 li:FnT P w K mg base "lines_pairs" 1 ["n"] Ot
 sp:FnT P w K mg base "spokes_pairs" 2 ["n","k"] TM
end
end K40
namespace L2.TL
open PySem PySem.Spec PySem.Calls PyProof.Rows
noncomputable def gu:T→Bool
 | .tup _=>true
 | .lst _=>true
 |_=>false
section
variable {Z:Zx} {ρ:List (Option T)} {O:AO} {e a b hi:Expr} {p2 pos:Pos} {t:T} {ts:List T} {i:Int}
theorem Ou(ha:ET Z ρ O a (.lst [t]))(hb:ET Z ρ O b (.int i))(hi:0≤i∧i≤1000):ET Z ρ O (.BinOp a .Mult b pos) (.lst (j0 i.toNat t)):=fun Φ k=>
 LK Of (ET.we ha (ET.we hb fun H v w Q ok r1 r2 q=>by
  obtain⟨a,xs,rfl,h1,_,r1⟩:=r1.lst_inv
  obtain⟨v,rfl,g⟩:=r1.one_inv
  exact⟨a,i,v,rfl,r2.int_inv,.inl (.inl h1),hi,fun l hl=>q _ _ _ _ k (.new ok hl) (.lst AL (ok.none_of hl) ((Rep.repl g _).kp (BO ok hl) ok))⟩))
theorem aG(h:ET Z ρ O e (.lst ts))(h2:ET Z ρ O hi (.int i)):ET Z ρ O (.Subscript e (.Slice none (some hi) none p2) pos) (.lst (EX ts none (some i))):=fun Φ k=>by
 refine PE.weak (Et Nx (Bd (ρ:=ρ)) JN (Er (Bd (ρ:=ρ)))) fun σ H0 Q q=>?_
 refine⟨O,_,h (fun t O'=>t=.lst ts∧O'=O) ⟨rfl,rfl⟩,q.1,?_⟩
 rintro v H1 _ _ ⟨rfl,rfl⟩ f1 r1
 refine⟨_,_,h2 (fun t O'=>t=.int i∧O'=_) ⟨rfl,rfl⟩,q.1.step f1,?_⟩
 rintro v2 H2 _ _ ⟨rfl,rfl⟩ f2 r2
 obtain⟨a,xs,rfl,h1,_,r1⟩:=(r1.kp f2.kp f1.ok).lst_inv
 have ff:=f1.trans f2
 exact⟨i,r2.int_inv,a,xs,rfl,.inl (.inl h1),fun l hl=>q.2 _ _ _ _ k (ff.trans (.new ff.ok hl)) (.lst AL (ff.ok.none_of hl) ((r1.cut).kp (BO ff.ok hl) ff.ok))⟩
end
open PySem.Builtin PySem.Builtin.Str
theorem dD:kS "str" =some (.type "str"):=by decide+kernel
section
variable {Z:Zx} {ρ:List (Option T)} {O:AO} {e elt tg iter:Expr} {csc:Scope} {nc:List Str} {cap:List (Str×Nat)} {pos:Pos}
theorem Lk{α:Type}(xs:List α)(f g:α→T)(q:α→Bool)(hl:xs.length≤sizeLine)(h:∀x,x∈xs→∃ρ4,∀X' Oe He,LcCx Z.X csc (Ah nc cap) X'→∀O',(∀b us,O b=some us→O' b=some us)→(WG (zc X' Oe He) nc.length (GS nc ρ cap) O' tg (f x) ρ4∧EB (zc X' Oe He) ρ4 O' c (q x)∧(q x=true→ET (zc X' Oe He) ρ4 O' elt (g x))))(fin:F ((xs.filter q).map g) O):Up Z ρ elt tg [c] csc nc cap F (xs.map f) O:=by
 refine⟨fun i acc O'=>O'=O∧acc=((xs.take i).filter q).map g,⟨rfl,by simp⟩,?_,?_⟩
 ·rintro i t acc O' p e ⟨rfl,rfl⟩ np
  rw[i6] at e
  cases ex:xs[i]? with
  |none=>rw[ex] at e;cases e
  |some x=>
   rw[ex] at e
   cases e
   have hk:∀b us,O' b=some us→(Am O' p (((xs.take i).filter q).map g)) b=some us:=fun b us e=>by
    have:b≠p:=fun z=>by rw[z,np] at e;cases e
    rw[Ai this];exact e
   obtain⟨ρ4,w⟩:=h x (i7 ex)
   have hi:=(jn.mp ex).1
   refine⟨ρ4,fun X' Oe He is=> ⟨(w X' Oe He is _ hk).1,OV ((w X' Oe He is _ hk).2.1 _ ?_)⟩⟩
   cases hq:q x with
   |true=>
    refine JP fun X' Oe He is=> (w X' Oe He is _ hk).2.2 hq _ ⟨_,rfl,np,?_,rfl,?_⟩
    ·have:=lO q (xs.take i)
     simp at this ⊢;omega
    ·rw[lM,ex];simp[hq]
   |false=>
    refine GP ⟨_,rfl,np,rfl,?_⟩
    rw[lM,ex];simp[hq]
 ·rintro acc O' ⟨rfl,rfl⟩
  rw[b9,lQ]
  exact fin
theorem WX{α:Type}(nc:List Str)(cap:List (Str×Nat))(xs:List α)(f g:α→T)(q:α→Bool)(hc:Z.X.calm=true)(ok:LcOk Z.X csc nc cap)(hi:EI Z ρ O tg iter (xs.map f))(hl:xs.length≤sizeLine)(h:∀x,x∈xs→∃ρ4,∀X' Oe He,LcCx Z.X csc (Ah nc cap) X'→∀O',(∀b us,O b=some us→O' b=some us)→(WG (zc X' Oe He) nc.length (GS nc ρ cap) O' tg (f x) ρ4∧EB (zc X' Oe He) ρ4 O' c (q x)∧(q x=true→ET (zc X' Oe He) ρ4 O' elt (g x))))
  (hs:∀x,lW iter Z.X.env x=pure x:=by intro _;rfl):ET Z ρ O (.ListComp elt [⟨tg,iter,[c],0⟩] csc pos) (.lst ((xs.filter q).map g)):=fun Φ p=>SN hc ok (hi _ (Lk xs f g q hl h p)) hs
theorem TX{p:Pos}(m:Z.X.mg "list" =none)(h:ET Z ρ O e (.lst ts))(hg:Gl Z.X "list":=by rfl)(he:i5 [e] Z.X.env=(false,eval e Z.X.env)::i5 [] Z.X.env:=by rfl):ET Z ρ O (.Call (.Name "list" p) [e] [] pos) (.lst ts):=
 Fo Ed m SQ (AX h AD he) (fun Φ q H vs Q ok r k=>by
  obtain⟨v,rfl,r1⟩:=r.one_inv
  obtain⟨a,xs,rfl,h1,_,r1⟩:=r1.lst_inv
  exact⟨a,xs,rfl,.inl (.inl (.inl h1)),fun p hp=>k _ _ _ O q (.new ok hp) (.lst AL (ok.none_of hp) (r1.kp (BO ok hp) ok))⟩) hg (by decide) (by decide) he
end
theorem DG:∀{ns:List Int},((dTs (ns.map T.int)).any fun y=>my y (dT (.int i)))=decide (i∈ns)
 | []=>rfl
 |n::ns=>by
  show((n==i)|| (dTs (ns.map T.int)).any fun y=>my y (dT (.int i)))=_
  rw[DG,nu]
  simp only[Bool.or_eq_true,decide_eq_true_eq,ju,beq_iff_eq]
  constructor
  ·rintro(h|h)
   ·exact .inl h.symm
   ·exact .inr h
  ·rintro(h|h)
   ·exact .inl h.symm
   ·exact .inr h
end L2.TL
namespace L2
open PySem PySem.Spec PySem.Calls PyProof.Rows
section
variable {prog:Program} {w:World} {A:j6} {R:tP→Shared→Prop} {I:Addr} {fp wr:List Addr} {n:Nat} {P:Nat→Value→Prop} {St:Nat→Heap→Prop}
theorem FR:(toString "min" ++toString ".loop" :String)= "min.loop":=by decide
theorem QS(W:Walks prog w A.in1 I fp wr n P St)(bt:Nat→Nat→Bool)(hcmp:CmpOf prog w A.in1 .Lt P bt)(S:Addr)(hSf:S∉fp):
  ∀(k j:Nat) (s:Shared) (vb:Value) (c:Nat),n- (j+1)=k→j+1≤n→St (j+1) s.heap→P (sh bt j) vb→
  s.heap.get? S=some {cls:=.type "list",dict:=none,data:=.seq #[vb,vb] c,slots:=#[]}→
  (∀v h' tk,P (sh bt (n-1)) v→(∀b o,b∉wr→b≠S→s.heap.get? b=some o→h'.get? b=some o)→R (.ok (.ret v)) {s with heap:=h',toks:=tk})→
  oF (model prog w) A (.builtin "min.loop" ⟨[.ref I,.none,.ref S],kw⟩) R s:=by
 have hSw:S∉wr:=fun h=>hSf (W.sub _ h)
 intro k
 induction k with
 |zero=>
  intro j s vb c hk hj hst hPb hS hR
  have hin:j+1=n:=by omega
  refine mW r8 ?_
  rw[mD nS _]
  show wpAny _ A.in1 (seqItems? (.ref S)>>=_) _ _ s
  refine a9 (pW hS rfl ?_)
  show wpAny _ A.in1 (tryCatch (pk (.ref I)) _>>=_) _ _ s
  refine a9 (pU (W.done s _ _ (hin▸hst) fun h' tk hk'=>?_))
  have hS':=hk' S _ hSw hS
  show wpAny _ A.in1 (updateSeq S (fun _=> #[])>>=_) _ _ _
  refine a9 (su hS' rfl (a9 (sM (b8 ?_))))
  exact hR vb _ tk (by rw[←hin];exact hPb) fun b o hbw hbS e=> (mM _ _ (Ne.symm hbS)).trans (hk' b o hbw e)
 |succ k ih=>
  intro j s vb c hk hj hst hPb hS hR
  have hlt:j+1<n:=by omega
  refine mW r8 ?_
  rw[mD nS _]
  show wpAny _ A.in1 (seqItems? (.ref S)>>=_) _ _ s
  refine a9 (pW hS rfl ?_)
  show wpAny _ A.in1 (tryCatch (pk (.ref I)) _>>=_) _ _ s
  refine a9 (pU (W.item (j+1) s _ _ hlt hst fun v h' tk hP hst' hk'=>?_))
  have hS':=hk' S _ hSw hS
  show wpAny _ A.in1 (tryCatch (holding [v,v] (richCompare .Lt v vb>>=_)) _>>=_) _ _ _
  refine a9 (pU (ko (a9 (hcmp (j+1) (sh bt j) v vb _ _ _ hP hPb ?_))))
  refine a9 (ko (nF (a9 (sM (b8 ?_)))))
  cases hb:bt (j+1) (sh bt j) with
  |true=>
   simp only[if_true]
   refine a9 (su hS' rfl (a9 (sM ?_)))
   rw[FR]
   refine b8 ⟨nN nS _,ih (j+1) _ v _ (by omega) hlt (W.frame _ _ _ hst' fun b hbf o e=>?_) (by simp only[sh,hb,if_true];exact hP) (oP _ hS' rfl) fun v' h'' tk'' hP' hk''=>?_⟩
   ·exact(mM _ _ (fun h:S=b=>hSf (by rw[h];exact hbf))).trans e
   ·exact hR v' h'' tk'' hP' fun b o hbw hbS e=>hk'' b o hbw hbS ((mM _ _ (Ne.symm hbS)).trans (hk' b o hbw e))
  |false=>
   simp only[j9,if_false]
   refine a9 (sM ?_)
   rw[FR]
   refine b8 ⟨nN nS _,ih (j+1) _ vb c (by omega) hlt hst' (by simp only[sh,hb,j9,if_false];exact hPb) hS' fun v' h'' tk'' hP' hk''=>?_⟩
   exact hR v' h'' tk'' hP' fun b o hbw hbS e=>hk'' b o hbw hbS (hk' b o hbw e)
theorem NU(W:Walks prog w A.in1 I fp wr n P St)(bt:Nat→Nat→Bool)(hcmp:CmpOf prog w A.in1 .Lt P bt)(S:Addr)(hSf:S∉fp)(hst:St 0 s.heap)
  (hS:s.heap.get? S=some {cls:=.type "list",dict:=none,data:=.seq #[] c,slots:=#[]})
  (h0:n=0→∀h' tk,(∀b o,b∉wr→b≠S→s.heap.get? b=some o→h'.get? b=some o)→R (.ok (.ret d)) {s with heap:=h',toks:=tk})
  (hR:0<n→∀v h' tk,P (sh bt (n-1)) v→(∀b o,b∉wr→b≠S→s.heap.get? b=some o→h'.get? b=some o)→R (.ok (.ret v)) {s with heap:=h',toks:=tk}):
  oF (model prog w) A (.builtin "min.loop" ⟨[.ref I,.none,.ref S],[(nm,d)]⟩) R s:=by
 have hSw:S∉wr:=fun h=>hSf (W.sub _ h)
 refine mW r8 ?_
 rw[mD nS _]
 show wpAny _ A.in1 (seqItems? (.ref S)>>=_) _ _ s
 refine a9 (pW hS rfl ?_)
 show wpAny _ A.in1 (tryCatch (pk (.ref I)) _>>=_) _ _ s
 by_cases hn:0<n
 ·refine a9 (pU (W.item 0 s _ _ hn hst fun v h' tk hP hst' hk'=>?_))
  have hS':=hk' S _ hSw hS
  show wpAny _ A.in1 (updateSeq S (fun _=> #[v,v])>>=_) _ _ _
  refine a9 (su hS' rfl ?_)
  rw[FR]
  refine b8 ⟨nN nS _,QS W bt hcmp S hSf _ 0 _ v _ rfl hn (W.frame _ _ _ hst' fun b hbf o e=>?_) hP (oP _ hS' rfl) fun v' h'' tk'' hP' hk''=>?_⟩
  ·exact(mM _ _ (fun h:S=b=>hSf (by rw[h];exact hbf))).trans e
  ·exact hR hn v' h'' tk'' hP' fun b o hbw hbS e=>hk'' b o hbw hbS ((mM _ _ (Ne.symm hbS)).trans (hk' b o hbw e))
 ·have e0:n=0:=by omega
  refine a9 (pU (W.done s _ _ (by rw[e0];exact hst) fun h' tk hk'=>?_))
  show wpAny _ A.in1 (rule _>>=fun _=>ret d) _ _ _
  exact a9 (og (b8 (h0 e0 h' tk fun b o hbw _ e=>hk' b o hbw e)))
end
theorem QT
  (h:wpAny (model prog w) A.in1 (sQ x) (fun it s₂=>∃I fp wr n P St bt,it=.ref I∧Walks prog w A.in1 I fp wr n P St∧St 0 s₂.heap∧(∀b∈fp,b<s₂.heap.objs.size)∧CmpOf prog w A.in1 .Lt P bt∧
   (n=0→∀h' tk,(∀b o,b∉wr→s₂.heap.get? b=some o→h'.get? b=some o)→Q d {s₂ with heap:=h',toks:=tk})∧
   (0<n→∀v h' tk,P (sh bt (n-1)) v→(∀b o,b∉wr→s₂.heap.get? b=some o→h'.get? b=some o)→Q v {s₂ with heap:=h',toks:=tk})) E s):
  wpAny (model prog w) A (call (.builtin "min") [x] [("default",d)]) Q E s:=by
 refine pJ (nY F.plain_min F.entry_min ?_)
 refine rB (show rS "min" ⟨[x],[("default",d)]⟩=pure () by kernel_rfl) ?_
 show wpAny _ A.in1 (Builtin.Builtins.bindParams "min" ["key","default"] 0 ⟨[],[("default",d)]⟩>>=_) _ _ s
 refine a9 (rB (show Builtin.Builtins.bindParams "min" ["key","default"] 0 ⟨[],[("default",d)]⟩=pure [none,some d] from rfl) ?_)
 refine a9 (b8 ?_)
 refine a9 (nz h (fun it s₂ h₂=>?_) fun _ _ e=>e)
 obtain⟨I,fp,wr,n,P,St,bt,rfl,W,hst,hfp,hcmp,q0,q1⟩:=h₂
 refine a9 (lK ?_)
 have hSf:s₂.heap.objs.size∉fp:=fun hm=>lH _ (hfp _ hm)
 rw[FR]
 refine b8 ⟨nN nS _,NU W bt hcmp s₂.heap.objs.size hSf (W.frame _ _ _ hst fun b _ o e=>c9 _ e) (kb _ rfl) (fun e0 h' tk hk=>?_) fun hn v h' tk hP hk=>?_⟩
 ·exact q0 e0 h' tk fun b o hbw e=>hk b o hbw (ke (jo e)) (c9 _ e)
 ·exact q1 hn v h' tk hP fun b o hbw e=>hk b o hbw (ke (jo e)) (c9 _ e)
theorem KC{id:String}
  (h:wpAny M A x (fun v s₁=>wpAny M A y (fun d s₂=>wpAny M A (call (.builtin id) [v] [(k,d)]) Q E s₂) E s₁) E s):
  wpAny M A (ur pos (.builtin id) [] [(false,x)] [(some k,y)]) Q E s:=by
 unfold ur
 refine a9 (ko (evalArgs_kw rfl (Calls.spliced_cons (nz h (fun v s₁ h₁=>?_) fun _ _ e=>e))))
 refine Calls.spliced_nil (wpAny_evalAll_cons (nz h₁ (fun d s₂ h₂=>wpAny_evalAll_nil ?_) fun _ _ e=>e))
 refine a9 (oI ?_)
 refine a9 (b8 ?_)
 exact a9 (nz h₂ (fun r s₃ hr=>a9 (ko (wpAny_point (b8 hr)))) fun _ _ e=>e)
noncomputable def Fy(ns:List Int):Option Int→Prop
 |none=>ns=[]
 |some m=>HR ns m
noncomputable def gz:Option Int→V
 |none=> .non
 |some m=> .int m
theorem WY(hc:X.calm=true)(hg:Gl X "min")(hm:X.mg "min" =none)(he:PE X e te)(hn:TL.Cj e=true):
  PE X (.Call (.Name "min" p) [e] [⟨some "default",.Constant .none j np,kp⟩] pos) (fun σ H Q=>te σ H fun v H1=>∃(a:Addr) (ns:List Int),v=.ref a∧SqS X.K H1 a (ns.map V.int)∧∀m,Fy ns m→Q (gz m) H1):=by
 intro pins s σ H Q I h
 refine nT (Fc I hg hm TL.Vh ?_ (by decide) (by decide))
 rw[TL.Ft hn]
 refine KC (Az (he pins s σ H _ I h) fun u s1 ⟨v,H1,I1,r1,q1⟩=>?_)
 obtain⟨a,ns,rfl,hq,q⟩:=q1
 cases r1
 refine a9 ?_
 show wpAny _ _ (eval (.Constant .none j np) X.env) _ _ _
 refine b8 (a9 (oI (b8 ?_)))
 obtain⟨its,rv,lt,wk⟩:=I1.walk hq
 have hl:its.length=ns.length:=by have:=rv.length;rw[b9] at this;exact this.symm
 refine QT (wk X.A.in1 _ _ (I1.ok.hd hc) fun o St W st=> ⟨_,_,_,_,_,_,_,rfl,W,st,fun b hb=>?_,CmpOf.ints_lt (fun i=>ns.getD i 0) (fun i v hv=>DD rv i v hv),fun e0 h' tk hk=>?_,fun hn v h' tk hP hk=>?_⟩)
 ·show b< (s1.heap.push o).objs.size
  rw[lU]
  simp only[ju,mi,or_false] at hb
  rcases hb with rfl|rfl
  ·exact nQ _
  ·exact mq lt
 ·exact⟨.non,H1,I1.kept (t':=tk) (HQ hk),rfl,q none (List.eq_nil_of_length_eq_zero (by omega))⟩
 ·obtain⟨t,rfl⟩:=DD rv _ v hP
  obtain⟨b1,b2⟩:=argBest_lt (fun i=>ns.getD i 0) (its.length-1)
  exact⟨.int _,H1,I1.kept (t':=tk) (HQ hk),⟨t,rfl⟩,q (some _) ⟨HU (by omega),fun n hn=>by
   obtain⟨j,hj,rfl⟩:=ou hn
   have:=b2 j (by omega)
   simpa[qP,hj] using this⟩⟩
end L2
namespace L2.TL
open PySem PySem.Spec PySem.Calls PyProof.Rows
section
variable {Z:Zx} {ρ:List (Option T)} {O:AO} {e:Expr} {p pos kp np:Pos} {ns:List Int} {j:Nat}
noncomputable def KE:Option Int→T
 |none=> .non
 |some m=> .int m
theorem Ll(ha:Fy ns a)(hb:Fy ns b):a=b:=by
 cases a with
 |none=>
  cases b with
  |none=>rfl
  |some m=>rw[show ns=[] from ha] at hb;exact absurd hb.1 (by simp)
 |some m=>
  cases b with
  |none=>rw[show ns=[] from hb] at ha;exact absurd ha.1 (by simp)
  |some k=>rw[sJ (ha.2 k hb.1) (hb.2 m ha.1)]
theorem WZ(hm:Fy ns m)(mm:Z.X.mg "min" =none)(hc:Z.X.calm=true)(h:ET Z ρ O e (.lst (ns.map T.int)))(hg:Gl Z.X "min":=by rfl)(hn:Cj e=true:=by rfl):
  ET Z ρ O (.Call (.Name "min" p) [e] [⟨some "default",.Constant .none j np,kp⟩] pos) (KE m):=fun Φ q=>
 PE.weak (WY hc hg mm (h (fun t O'=>t=.lst (ns.map T.int)∧O'=O) ⟨rfl,rfl⟩) hn) fun σ H Q k=> ⟨k.1,by
  rintro v H' _ _ ⟨rfl,rfl⟩ f r
  obtain⟨a,xs,rfl,h1,o1,r1⟩:=r.lst_inv
  cases Reps.ints r1
  refine⟨a,ns,rfl,.inl (.inl (.inl h1)),fun m' hm'=>?_⟩
  cases Ll hm' hm
  refine k.2 _ H' _ _ q f ?_
  cases m with
  |none=>exact .non
  |some m=>exact .int m⟩
end
end L2.TL
namespace L2
open PySem PySem.Spec PySem.Calls PyProof.Rows
end L2
namespace L2.TL
open PySem PySem.Spec PySem.Calls PyProof.Rows
end L2.TL
namespace L2
open PySem PySem.Spec PyProof.Rows
open Sem (wp)
end L2
namespace L2.TL
open PySem PySem.Spec PyProof.Rows
open PySem.Builtin PySem.Builtin.Str
section
variable {Z:Zx} {ρ:List (Option T)} {O:AO} {a b:Expr} {pos:Pos} {x y:Str} {K:a8}
theorem TY:RP K fm (.str x) (.str y) O (.bl (x==y)):=fun Φ p H v w Q ok r1 r2 q=>by
 cases r1.str_inv;cases r2.str_inv
 refine⟨rfl,?_⟩
 rw[JL]
 exact q _ H _ O p (.refl ok) (.bl _)
theorem aH(ha:ET Z ρ O a (.str x))(hb:ET Z ρ O b (.str y)):ET Z ρ O (.Compare a [.Eq] [b] pos) (.bl (x==y)):=Cu Gm (Ao _) TY ha hb
theorem Ag(ha:ET Z ρ O a (.str x))(hb:ET Z ρ O b (.str y)):EB Z ρ O (.Compare a [.Eq] [b] pos) (x==y):=BZ Gm (Ao _) TY ha hb
theorem jb(K:a8):js K (.type "NoneType") (.type "str")=some false:=by kernel_rfl
theorem jc(K:a8):js K (.type "bool") (.type "str")=some false:=by kernel_rfl
theorem jd(K:a8):js K (.type "int") (.type "str")=some false:=by kernel_rfl
theorem je(K:a8):js K (.type "str") (.type "str")=some true:=by rfl
theorem jf(K:a8):js K (.type "tuple") (.type "str")=some false:=by kernel_rfl
theorem iV(K:a8):js K (.type "list") (.type "str")=some false:=by kernel_rfl
theorem jg(K:a8):js K (.type "dict") (.type "str")=some false:=by kernel_rfl
noncomputable def TZ:T→Bool
 | .str _=>true
 |_=>false
theorem Wa:NB K "str" TZ:=fun t h=>by
 cases t with
 |non=>exact jb K
 |bl b=>exact jc K
 |int i=>exact jd K
 |str i=>exact je K
 |tup i=>exact jf K
 |lst i=>exact iV K
 |frz i=>exact iV K
 |dct=>exact jg K
 |raw v=>cases h
end
end L2.TL
namespace K40
open PySem L2 L2.TL PySem.Spec PyProof.Rows SrtG
theorem Wb:CW ("cube",[n])=(1*2^n.toNat,TJ n):=rfl
theorem Wc:CW ("full",[n])=(n,TH n):=rfl
theorem QU:CW ("ladder",[n])=(n*2,Ho n 1):=rfl
theorem Ta:CW ("lines",[n])=(n*2,NP n):=rfl
theorem Wd:CW ("ring",[n])=(n,FQ n):=rfl
theorem QV:CW ("spokes",[n,k])=(n*2,Ho n k):=rfl
theorem NV:CW ("twisted",[n])=(n*2,FQ (n*2)++NO n):=rfl
theorem aI:CW ("two",[n,k])=(n+k,aA n k):=rfl
section
variable {K:a8}
theorem aJ(F:Fun K "places_and_pairs" "places_and_pairs" Zs f fd)(G:Prs P w K mg base):FnOk P w K mg base (CXe P w) 3 f fd ["kind"] (Cf K YC):=by
 refine AY F CG ?_ ?_
 ·rintro ts O Φ Ξ ⟨r,⟨k,rfl,_⟩,_⟩
  rfl
 ·rintro cdv A outer s H E O Ξ hr xf _ Φ ⟨_,⟨k,rfl,hk,rfl⟩,q⟩
  have sb:=AN
  have z2:(2:Nat)≤sizeLine:=by decide
  cases hk with
  | @cube n h0 h1=>
   rw[Wb] at q
   refine AC (AM 1 (ET.we (t:=.str "cube") (AI (ts:=[.str "cube",.int n]) (ev 0) AB) ?_) CG.nd)
   refine AC (AM 2 (ET.we (t:=.int n) (AI (ts:=[.str "cube",.int n]) (ev 0) AB) ?_) CG.nd)
   refine AC (AS (k:=true) (EB.cast (Ag (ev 1) AQ) (by decide+kernel)) (fun _=>?_) (fun h=>by cases h))
   exact AF (AH (ET.we (AV (AG (Jt AB (ev 2) (TU h0 h1)) (AG (Aj G.cu (hr.mono (by decide)) xf (AG (ev 2) AD) ⟨n,rfl,h0,h1,rfl⟩) AD))) q))
  | @full n h0 h1=>
   rw[Wc] at q
   refine AC (AM 1 (ET.we (t:=.str "full") (AI (ts:=[.str "full",.int n]) (ev 0) AB) ?_) CG.nd)
   refine AC (AM 2 (ET.we (t:=.int n) (AI (ts:=[.str "full",.int n]) (ev 0) AB) ?_) CG.nd)
   refine AC (AS (k:=false) (EB.cast (Ag (ev 1) AQ) (by decide+kernel)) (fun h=>by cases h) (fun _=>Ac ?_))
   refine AC (AS (k:=true) (EB.cast (Ag (ev 1) AQ) (by decide+kernel)) (fun _=>?_) (fun h=>by cases h))
   exact AF (AH (ET.we (AV (AG (ev 2) (AG (Aj G.fu (hr.mono (by decide)) xf (AG (ev 2) AD) ⟨n,rfl,by omega,h1,rfl⟩) AD))) q))
  | @ladder n h0 h1=>
   rw[QU] at q
   refine AC (AM 1 (ET.we (t:=.str "ladder") (AI (ts:=[.str "ladder",.int n]) (ev 0) AB) ?_) CG.nd)
   refine AC (AM 2 (ET.we (t:=.int n) (AI (ts:=[.str "ladder",.int n]) (ev 0) AB) ?_) CG.nd)
   iterate 2 refine AC (AS (k:=false) (EB.cast (Ag (ev 1) AQ) (by decide+kernel)) (fun h=>by cases h) (fun _=>Ac ?_))
   refine AC (AS (k:=true) (EB.cast (Ag (ev 1) AQ) (by decide+kernel)) (fun _=>?_) (fun h=>by cases h))
   exact AF (AH (ET.we (AV (AG (Bv (ev 2) AB (.inr ⟨by decide,by decide⟩)) (AG (Aj G.sp hr xf (AG (ev 2) (AG AB AD)) ⟨n,1,rfl,by omega,by omega,rfl⟩) AD))) q))
  |lines=>
   rw[Ta] at q
   refine AC (AM 1 (ET.we (t:=.str "lines") (AI (ts:=[.str "lines",.int 7]) (ev 0) AB) ?_) CG.nd)
   refine AC (AM 2 (ET.we (t:=.int 7) (AI (ts:=[.str "lines",.int 7]) (ev 0) AB) ?_) CG.nd)
   iterate 3 refine AC (AS (k:=false) (EB.cast (Ag (ev 1) AQ) (by decide+kernel)) (fun h=>by cases h) (fun _=>Ac ?_))
   refine AC (AS (k:=true) (EB.cast (Ag (ev 1) AQ) (by decide+kernel)) (fun _=>?_) (fun h=>by cases h))
   exact AF (AH (ET.we (AV (AG (Bv (ev 2) AB (.inr ⟨by decide,by decide⟩)) (AG (Aj G.li (hr.mono (by decide)) xf (AG (ev 2) AD) ⟨7,rfl,by decide,by decide,rfl⟩) AD))) q))
  | @ring n h0 h1=>
   rw[Wd] at q
   refine AC (AM 1 (ET.we (t:=.str "ring") (AI (ts:=[.str "ring",.int n]) (ev 0) AB) ?_) CG.nd)
   refine AC (AM 2 (ET.we (t:=.int n) (AI (ts:=[.str "ring",.int n]) (ev 0) AB) ?_) CG.nd)
   iterate 4 refine AC (AS (k:=false) (EB.cast (Ag (ev 1) AQ) (by decide+kernel)) (fun h=>by cases h) (fun _=>Ac ?_))
   refine AC (AS (k:=true) (EB.cast (Ag (ev 1) AQ) (by decide+kernel)) (fun _=>?_) (fun h=>by cases h))
   exact AF (AH (ET.we (AV (AG (ev 2) (AG (Aj G.ri (hr.mono (by decide)) xf (AG (ev 2) AD) ⟨n,rfl,by omega,h1,rfl⟩) AD))) q))
  | @spokes n k h0 h1 h2 h3=>
   rw[QV] at q
   refine AC (AM 1 (ET.we (t:=.str "spokes") (AI (ts:=[.str "spokes",.int n,.int k]) (ev 0) AB) ?_) CG.nd)
   refine AC (AM 2 (ET.we (t:=.int n) (AI (ts:=[.str "spokes",.int n,.int k]) (ev 0) AB) ?_) CG.nd)
   iterate 5 refine AC (AS (k:=false) (EB.cast (Ag (ev 1) AQ) (by decide+kernel)) (fun h=>by cases h) (fun _=>Ac ?_))
   refine AC (AS (k:=true) (EB.cast (Ag (ev 1) AQ) (by decide+kernel)) (fun _=>?_) (fun h=>by cases h))
   exact AF (AH (ET.we (AV (AG (Bv (ev 2) AB (.inr ⟨by decide,by decide⟩)) (AG (Aj G.sp hr xf (AG (ev 2) (AG (AI (ts:=[.str "spokes",.int n,.int k]) (ev 0) AB) AD)) ⟨n,k,rfl,by omega,by omega,rfl⟩) AD))) q))
  | @twisted n h0 h1=>
   rw[NV] at q
   refine AC (AM 1 (ET.we (t:=.str "twisted") (AI (ts:=[.str "twisted",.int n]) (ev 0) AB) ?_) CG.nd)
   refine AC (AM 2 (ET.we (t:=.int n) (AI (ts:=[.str "twisted",.int n]) (ev 0) AB) ?_) CG.nd)
   iterate 6 refine AC (AS (k:=false) (EB.cast (Ag (ev 1) AQ) (by decide+kernel)) (fun h=>by cases h) (fun _=>Ac ?_))
   refine AC (AS (k:=true) (EB.cast (Ag (ev 1) AQ) (by decide+kernel)) (fun _=>?_) (fun h=>by cases h))
   have l1:(FQ (n*2)).length=(n*2).toNat:=BW
   have l2:(NO n).length=n.toNat:=BW
   rw[kl] at q
   exact AF (AH (ET.we (AV (AG (Bv (ev 2) AB (.inr ⟨by decide,by decide⟩)) (AG (EL (Aj G.ri (hr.mono (by decide)) xf (AG (Bv (ev 2) AB (.inr ⟨by decide,by decide⟩)) AD) ⟨n*2,rfl,by omega,by omega,rfl⟩) (Aj G.ac (hr.mono (by decide)) xf (AG (ev 2) AD) ⟨n,rfl,by omega,by omega,rfl⟩) (by simp only[b9];omega)) AD))) q))
  | @two a b h0 h1 h2=>
   rw[aI] at q
   refine AC (AM 1 (ET.we (t:=.str "two") (AI (ts:=[.str "two",.int a,.int b]) (ev 0) AB) ?_) CG.nd)
   refine AC (AM 2 (ET.we (t:=.int a) (AI (ts:=[.str "two",.int a,.int b]) (ev 0) AB) ?_) CG.nd)
   iterate 7 refine AC (AS (k:=false) (EB.cast (Ag (ev 1) AQ) (by decide+kernel)) (fun h=>by cases h) (fun _=>Ac ?_))
   exact AF (AH (ET.we (AV (AG (As (ev 2) (AI (ts:=[.str "two",.int a,.int b]) (ev 0) AB)) (AG (Aj G.tw (hr.mono (by decide)) xf (AG (ev 2) (AG (AI (ts:=[.str "two",.int a,.int b]) (ev 0) AB) AD)) ⟨a,b,rfl,by omega,by omega,by omega,by omega,rfl⟩) AD))) q))
end
noncomputable def BS(x:Str)(lo hi:Int):List Kd:=(jr (hi+1-lo).toNat).map fun(i:Nat)=> (x,[lo+(i:Int)])
noncomputable def IP(n:Int):List Kd:=((jr (n-1).toNat).filter fun(j:Nat)=>decide ((1+(j:Int))*2<n)).map fun(j:Nat)=> (("spokes" :Str),[n,1+(j:Int)])
noncomputable def We:List Kd:=(jr 6).flatMap fun(i:Nat)=>IP (3+(i:Int))
noncomputable def Wf:List Kd:=(jr 15).flatMap fun(i:Nat)=> (jr (15-i)).map fun(j:Nat)=> (("two" :Str),[1+(i:Int),1+(j:Int)])
noncomputable def CO:List Kd:=BS "cube" 0 4++BS "full" 1 16++BS "ladder" 3 8++BS "lines" 7 7++BS "ring" 3 16++We++BS "twisted" 2 8++Wf
theorem ER{lo:Int}(h0:lo≤n)(h1:n≤hi):(x,[n])∈BS x lo hi:=
 jw.mpr ⟨(n-lo).toNat,ky.mpr (by omega),by
  have:lo+(((n-lo).toNat:Nat):Int)=n:=by omega
  rw[this]⟩
theorem Wg(h0:3≤n)(h1:n≤8)(h2:1≤k)(h3:k*2<n):(("spokes":Str),[n,k])∈We:=by
 have e1:3+(((n-3).toNat:Nat):Int)=n:=by omega
 have e2:1+(((k-1).toNat:Nat):Int)=k:=by omega
 refine qj.mpr ⟨(n-3).toNat,ky.mpr (by omega),?_⟩
 rw[e1]
 refine jw.mpr ⟨(k-1).toNat,lR.mpr ⟨ky.mpr (by omega),?_⟩,by rw[e2]⟩
 rw[e2]
 exact decide_eq_true h3
theorem Wh(h0:1≤a)(h1:1≤b)(h2:a+b≤16):(("two":Str),[a,b])∈Wf:=by
 refine qj.mpr ⟨(a-1).toNat,ky.mpr (by omega),jw.mpr ⟨(b-1).toNat,ky.mpr (by omega),?_⟩⟩
 have e1:1+(((a-1).toNat:Nat):Int)=a:=by omega
 have e2:1+(((b-1).toNat:Nat):Int)=b:=by omega
 rw[e1,e2]
theorem KIs.mem(h:KIs k):k∈CO:=by
 unfold CO
 simp only[kj]
 cases h with
 |cube h0 h1=>exact .inl (.inl (.inl (.inl (.inl (.inl (.inl (ER h0 h1)))))))
 |full h0 h1=>exact .inl (.inl (.inl (.inl (.inl (.inl (.inr (ER h0 h1)))))))
 |ladder h0 h1=>exact .inl (.inl (.inl (.inl (.inl (.inr (ER h0 h1))))))
 |lines=>exact .inl (.inl (.inl (.inl (.inr (ER (by decide) (by decide))))))
 |ring h0 h1=>exact .inl (.inl (.inl (.inr (ER h0 h1))))
 |spokes h0 h1 h2 h3=>exact .inl (.inl (.inr (Wg h0 h1 h2 h3)))
 |twisted h0 h1=>exact .inl (.inr (ER h0 h1))
 |two h0 h1 h2=>exact .inr (Wh h0 h1 h2)
theorem Fz{lo:Int}(h:k∈BS x lo hi):∃n,lo≤n∧n≤hi∧k=(x,[n]):=by
 obtain⟨i,hi',rfl⟩:=jw.mp h
 have:=ky.mp hi'
 exact⟨lo+(i:Int),by omega,by omega,rfl⟩
theorem KIs.of(h:k∈CO):KIs k:=by
 unfold CO at h
 simp only[kj] at h
 rcases h with((((((h|h)|h)|h)|h)|h)|h)|h
 ·obtain⟨n,h0,h1,rfl⟩:=Fz h;exact .cube h0 h1
 ·obtain⟨n,h0,h1,rfl⟩:=Fz h;exact .full h0 h1
 ·obtain⟨n,h0,h1,rfl⟩:=Fz h;exact .ladder h0 h1
 ·obtain⟨n,h0,h1,rfl⟩:=Fz h
  have:n=7:=by omega
  subst this
  exact .lines
 ·obtain⟨n,h0,h1,rfl⟩:=Fz h;exact .ring h0 h1
 ·obtain⟨i,hi,h⟩:=qj.mp h
  have hi:=ky.mp hi
  obtain⟨j,hj,rfl⟩:=jw.mp h
  have h3:=of_decide_eq_true (lR.mp hj).2
  exact .spokes (by omega) (by omega) (by omega) h3
 ·obtain⟨n,h0,h1,rfl⟩:=Fz h;exact .twisted h0 h1
 ·obtain⟨i,hi,h⟩:=qj.mp h
  have hi:=ky.mp hi
  obtain⟨j,hj,rfl⟩:=jw.mp h
  have hj:=ky.mp hj
  exact .two (by omega) (by omega) (by omega)
noncomputable def aK(p:Int×Int):Bool:=decide (0≤p.1)&&decide (p.1<65536)&&decide (0≤p.2)&&decide (p.2<65536)
theorem Wi(h:aK p=true):gj p:=by
 unfold aK at h
 simp at h
 unfold gj
 omega
theorem aL:(CO.all fun k=>decide ((CW k).2.length≤200)&&(CW k).2.all aK)=true:=by decide+kernel
theorem dE(h:KIs k):(CW k).2.length≤200∧∀p∈(CW k).2,gj p:=by
 have:=kA.mp aL k h.mem
 rw[ki] at this
 exact⟨of_decide_eq_true this.1,fun p hp=>Wi (kA.mp this.2 p hp)⟩
noncomputable def Tc:List Int→Bool
 |a::b::l=>decide (a<b)&&Tc (b::l)
 |_=>true
theorem Lm:∀{l:List Int},Tc l=true→l.Pairwise (· < ·)
 | [],_=> .nil
 | [a],_=>mZ _ _
 |a::b::l,h=>by
  unfold Tc at h
  rw[ki] at h
  have h1:a<b:=of_decide_eq_true h.1
  have ih:=Lm h.2
  refine oG.mpr ⟨fun z hz=>?_,ih⟩
  rcases ju.mp hz with rfl|hz
  ·exact h1
  ·have:=(oG.mp ih).1 z hz
   omega
theorem Ln:CO.Pairwise fun x y=>Iy x<Iy y:=lY.mp (Lm (l:=CO.map Iy) (by decide+kernel))
theorem Lo:∀k∈CO,KGood k:=by
 intro k h
 cases KIs.of h<;>refine⟨by simp[kws],by simp,fun a ha=>?_⟩<;>simp only[ju,mi,or_false] at ha<;>omega
section
variable {K:a8}
theorem YD:FnScope ["kind","told"] ["kind"] (AA Zt):=⟨rfl,rfl,rfl,by decide+kernel,rfl,by decide+kernel,by decide+kernel⟩
noncomputable def Td:CV:=fun ts O Φ _=>∃k,ts=[kT k]∧KIs k∧∀rs:List (Int×Int),rs.Pairwise KU→(∀q,q∈rs↔q∈(CW k).2.map mm)→rs.length≤250→Φ (Cv (CW k).1 rs) O
theorem aM(F:Fun K "web_of_kind" "web_of_kind" Zt f fd)(G:FnT P w K mg base "places_and_pairs" 3 ["kind"] YC)(Gt:FnT P w K mg base "ties_of" 1 ["pairs"] Lj):FnOk P w K mg base (CXe P w) 4 f fd ["kind"] (Cf K Td):=by
 refine AY F YD ?_ ?_
 ·rintro ts O Φ Ξ ⟨k,rfl,_⟩
  rfl
 ·rintro cdv A outer s H E O Ξ hr xf _ Φ ⟨k,rfl,hk,q⟩
  obtain⟨l1,l2⟩:=dE hk
  refine AC (AM 1 (ET.we (Aj G hr xf (AG (ev 0) AD) ⟨k,rfl,hk,rfl⟩) ?_) YD.nd)
  exact AF (AH (Rz (QI (ET.we (AI (ev 1) AB) (QI (Ax Gt (hr.mono (by decide)) xf (EA.wa (ts:=[.lst ((CW k).2.map AU)]) (AG (AI (ev 1) AB) AD) ⟨(CW k).2,rfl,by omega,l2,fun rs h1 h2 h3=>BC ⟨by show 2≤sizeLine;decide,q rs h1 h2 (by omega)⟩⟩)))))))
end
noncomputable def CQ:List (Str×Int×Int):=[("cube",0,4),("full",1,16),("ladder",3,8),("lines",7,7),("ring",3,16),("twisted",2,8)]
structure One(K:a8)(mg:Str→Option Value):Prop where
 ex:∃(g:Addr) (as:List Addr),mg "OF_ONE_NUMBER" =some (.ref g)∧SqS K g (as.map V.ref)∧as.length=6∧∀(i:Nat) (a:Addr),as[i]?=some a→∃r,CQ[i]?=some r∧SqS K a [.str r.1,.int r.2.1,.int r.2.2]
noncomputable def Ej:List Kd:=(CQ.flatMap fun r=>BS r.1 r.2.1 r.2.2)++We++Wf
theorem ES:CO.Perm Ej:=by
 have e:Ej=(BS "cube" 0 4++BS "full" 1 16++BS "ladder" 3 8++BS "lines" 7 7++BS "ring" 3 16++BS "twisted" 2 8)++We++Wf:=by decide+kernel
 rw[e]
 unfold CO
 refine nB.append_right _ ?_
 rw[lz (BS "cube" 0 4++BS "full" 1 16++BS "ladder" 3 8++BS "lines" 7 7++BS "ring" 3 16),lz (BS "cube" 0 4++BS "full" 1 16++BS "ladder" 3 8++BS "lines" 7 7++BS "ring" 3 16)]
 exact qb _ mV
theorem DX:Ej.length≤300∧2≤Ej.length:=by decide+kernel
theorem aN:(Ah ["n"] [(("word" :Str),1)]).Nodup:=by decide+kernel
theorem aO:(Ah ["k"] [(("n" :Str),4)]).Nodup:=by decide+kernel
theorem aP:(Ah ["b"] [(("a" :Str),5)]).Nodup:=by decide+kernel
noncomputable def Ov:List Str:=["kinds","word","least","most","n","a"]
theorem hV(i:Nat):((CQ.take i).flatMap fun r=>BS r.1 r.2.1 r.2.2).length≤100:=by
 match i with
 |0|1|2|3|4|5=>decide+kernel
 |n+6=>rw[p8 (by show 6≤n+6;omega)];decide+kernel
noncomputable def Lp(i:Nat):List Kd:=(jr (15-i)).map fun(j:Nat)=> (("two" :Str),[1+(i:Int),1+(j:Int)])
section
variable {K:a8}
noncomputable def KG:CV:=FX fun ts r=>ts=[]∧r=.lst (CO.map kT)
theorem Hq:FnScope Ov [] (AA JA):=⟨rfl,rfl,rfl,by decide+kernel,rfl,by decide+kernel,by decide+kernel⟩
theorem Wj(F:Fun K "all_kinds" "all_kinds" JA f fd)(Tx:Txt mg)(On:One K mg):FnOk P w K mg base (CXe P w) 1 f fd [] (Cf K KG):=by
 refine AY F Hq ?_ ?_
 ·rintro ts O Φ Ξ ⟨r,⟨rfl,_⟩,_⟩
  rfl
 ·rintro cdv A outer s H E O Ξ hr xf _ Φ ⟨_,⟨rfl,rfl⟩,q⟩
  have sb:=AN
  obtain⟨g,as,hg,hS,hal,hrow⟩:=On.ex
  refine AC (AM 0 (Bo (BC ⟨kZ _,fun l hlO=>?_⟩)) Hq.nd)
  refine AC (BQ Af.own rfl (EI.wi (Vx hg hS) ⟨fun i ρ' O'=>∃v1 v2 v3:Option T,ρ'=[some (.raw (.ref l)),v1,v2,v3,none,none]∧O'=Am O l (((CQ.take i).flatMap fun r=>BS r.1 r.2.1 r.2.2).map kT),⟨none,none,none,rfl,rfl⟩,?_,?_⟩))
  ·rintro i t _ _ e ⟨v1,v2,v3,rfl,rfl⟩
   rw[i6,i6] at e
   cases ea:as[i]? with
   |none=>rw[ea] at e;cases e
   |some a=>
    rw[ea] at e
    cases e
    obtain⟨r,er,hr3⟩:=hrow i a ea
    have hb:0≤r.2.1∧r.2.1≤16∧0≤r.2.2∧r.2.2≤16:=by
     have:=i7 er
     simp only[CQ,ju,mi,or_false] at this
     rcases this with rfl|rfl|rfl|rfl|rfl|rfl<;>decide
    refine⟨[some (.raw (.ref l)),some (.str r.1),some (.int r.2.1),some (.int r.2.2),none,none],Sn 1 2 3 hr3 rfl Hq.nd (by show 1<6;decide) (by show 2<6;decide) (by show 3<6;decide),?_⟩
    refine AF (BI (BE (ET.we (ev 0) ⟨l,rfl,⟨_,AE⟩,ET.we (t:=.lst ((BS r.1 r.2.1 r.2.2).map kT)) (ET.cast (BL ["n"] [("word",1)] (jr (r.2.2+1-r.2.1).toNat) (fun j=> .int (r.2.1+(j:Int))) (fun j=>kT (r.1,[r.2.1+(j:Int)])) rfl (Ba (AA JA) Ov (by decide+kernel)) (Bf Tx.nRange (ev 2) (As (ev 3) AB) ⟨by omega,by omega,by omega,by omega⟩) (by simp only[kr];omega) fun x hx=> ⟨[some (.int (r.2.1+(x:Int))),some (.str r.1)],fun X' Oe He is O'=>?_⟩) ?_) ⟨_,_,rfl,AE,?_,?_⟩⟩)))
    ·obtain⟨cl,s',H',fp,rfl⟩:=is
     exact⟨AK 0 aN (by decide),AV (ts:=[.str r.1,.int (r.2.1+(x:Int))]) (AG (ev 1) (AG (ev 0) AD)) (by show 2≤sizeLine;decide)⟩
    ·unfold BS
     rw[kI]
     rfl
    ·have:=hV i
     have:(BS r.1 r.2.1 r.2.2).length=(r.2.2+1-r.2.1).toNat:=by unfold BS;simp
     rw[b9,b9]
     omega
    ·refine⟨_,_,_,rfl,?_⟩
     rw[Aq,oX,er,ow,kl]
     congr 2
     simp
  rintro _ _ ⟨v1,v2,v3,rfl,rfl⟩
  have e6:CQ.take ((as.map V.ref).map T.raw).length=CQ:=by
   rw[b9,b9,hal]
   rfl
  rw[e6]
  have l6:(CQ.flatMap fun r=>BS r.1 r.2.1 r.2.2).length≤100:=by decide+kernel
  refine AC (BQ Af.own rfl (EI.wi (Bf (k:=3) (l:=8+1) Tx.nRange (FD Tx.iLS) (As (FD Tx.iMS) AB) ⟨by decide,by decide,by decide,by decide⟩) ⟨fun i ρ' O'=>i≤6∧∃v4:Option T,ρ'=[some (.raw (.ref l)),v1,v2,v3,v4,none]∧O'=Am O l (((CQ.flatMap fun r=>BS r.1 r.2.1 r.2.2)++(jr i).flatMap fun(i:Nat)=>IP (3+(i:Int))).map kT),⟨by omega,none,rfl,by rw[qD];simp⟩,?_,?_⟩))
  ·rintro i t _ _ e ⟨_,v4,rfl,rfl⟩
   obtain⟨hi,rfl⟩:=Br e
   have hi:i<6:=hi
   have hsl:∀j:Nat,j<6→(IP (3+(j:Int))).length≤15:=fun j hj=>by
    unfold IP
    rw[b9]
    exact kO (lO ..) (by rw[kr];omega)
   have hlen:=BR (f:=fun(i:Nat)=>IP (3+(i:Int))) (m:=15) (l:=jr i) fun x hx=>hsl x (by have:=ky.mp hx;omega)
   rw[kr] at hlen
   refine⟨[some (.raw (.ref l)),v1,v2,v3,some (.int (3+(i:Int))),none],AK 4 Hq.nd (by show 4<6;decide),?_⟩
   refine AF (BI (BE (ET.we (ev 0) ⟨l,rfl,⟨_,AE⟩,ET.we (t:=.lst ((IP (3+(i:Int))).map kT)) (ET.cast (Du ["k"] [("n",4)] (jr (3+(i:Int)-1).toNat) (fun j=> .int (1+(j:Int))) (fun j=>kT ("spokes",[3+(i:Int),1+(j:Int)])) (fun(j:Nat)=>decide ((1+(j:Int))*2<3+(i:Int))) rfl (Ba (AA JA) Ov (by decide+kernel)) (Bf Tx.nRange AB (ev 4) ⟨by decide,by decide,by omega,by omega⟩) (by simp only[kr];omega) fun x hx=> ⟨[some (.int (1+(x:Int))),some (.int (3+(i:Int)))],fun X' Oe He is O'=>?_⟩) ?_) ⟨_,_,rfl,AE,?_,?_⟩⟩)))
   ·obtain⟨cl,s',H',fp,rfl⟩:=is
    exact⟨AK 0 aO (by decide),OS (Bv (ev 0) AB (.inr ⟨by decide,by decide⟩)) (ev 1),fun _=>AV (ts:=[.str "spokes",.int (3+(i:Int)),.int (1+(x:Int))]) (AG AQ (AG (ev 1) (AG (ev 0) AD))) (by show 3≤sizeLine;decide)⟩
   ·unfold IP
    rw[kI]
    rfl
   ·have:=hsl i hi
    rw[b9,b9,j8]
    omega
   ·refine⟨by omega,_,rfl,?_⟩
    rw[Aq,Bx,←lz,kl (l₂:=IP _)]
  rintro _ _ ⟨_,v4,rfl,rfl⟩
  rw[Ar]
  have e9:(8+1-3:Int).toNat=6:=rfl
  rw[e9]
  have l9:((CQ.flatMap fun r=>BS r.1 r.2.1 r.2.2)++(jr 6).flatMap fun(i:Nat)=>IP (3+(i:Int))).length≤150:=by decide+kernel
  refine AC (BQ Af.own rfl (EI.wi (Bf (k:=1) (l:=16) Tx.nRange AB (FD Tx.iMP) ⟨by decide,by decide,by decide,by decide⟩) ⟨fun i ρ' O'=>i≤15∧∃v5:Option T,ρ'=[some (.raw (.ref l)),v1,v2,v3,v4,v5]∧O'=Am O l ((((CQ.flatMap fun r=>BS r.1 r.2.1 r.2.2)++(jr 6).flatMap fun(i:Nat)=>IP (3+(i:Int)))++(jr i).flatMap fun(i:Nat)=>Lp i).map kT),⟨by omega,none,rfl,by rw[qD];simp⟩,?_,?_⟩))
  ·rintro i t _ _ e ⟨_,v5,rfl,rfl⟩
   obtain⟨hi,rfl⟩:=Br e
   have hi:i<15:=hi
   have hsl:∀j:Nat,(Lp j).length≤15:=fun j=>by
    unfold Lp
    rw[b9,kr]
    omega
   have hlen:=BR (f:=fun(i:Nat)=>Lp i) (m:=15) (l:=jr i) fun x hx=>hsl x
   rw[kr] at hlen
   have en:(16- (1+(i:Int))+1-1).toNat=15-i:=by omega
   refine⟨[some (.raw (.ref l)),v1,v2,v3,v4,some (.int (1+(i:Int)))],AK 5 Hq.nd (by show 5<6;decide),?_⟩
   refine AF (BI (BE (ET.we (ev 0) ⟨l,rfl,⟨_,AE⟩,ET.we (t:=.lst ((Lp i).map kT)) (ET.cast (BL ["b"] [("a",5)] (jr (16- (1+(i:Int))+1-1).toNat) (fun j=> .int (1+(j:Int))) (fun j=>kT ("two",[1+(i:Int),1+(j:Int)])) rfl (Ba (AA JA) Ov (by decide+kernel)) (Bf Tx.nRange AB (As (BK (FD Tx.iMP) (ev 5)) AB) ⟨by decide,by decide,by omega,by omega⟩) (by simp only[kr];omega) fun x hx=> ⟨[some (.int (1+(x:Int))),some (.int (1+(i:Int)))],fun X' Oe He is O'=>?_⟩) ?_) ⟨_,_,rfl,AE,?_,?_⟩⟩)))
   ·obtain⟨cl,s',H',fp,rfl⟩:=is
    exact⟨AK 0 aP (by decide),AV (ts:=[.str "two",.int (1+(i:Int)),.int (1+(x:Int))]) (AG AQ (AG (ev 1) (AG (ev 0) AD))) (by show 3≤sizeLine;decide)⟩
   ·unfold Lp
    rw[kI,en]
    rfl
   ·have:=hsl i
    rw[b9,b9,j8]
    omega
   ·refine⟨by omega,_,rfl,?_⟩
    rw[Aq,Bx (f:=fun i=>Lp i),←lz,kl (l₂:=Lp i)]
  rintro _ _ ⟨_,v5,rfl,rfl⟩
  rw[Ar]
  have e15:(16-1:Int).toNat=15:=rfl
  rw[e15]
  refine BD (p:=l) (n:=0) AE hlO rfl ?_
  rw[Al hlO]
  exact AF (AH (ET.we (Hl (ks:=Ej) (ss:=CO) Tx.nSorted (ev 0) (fun k hk=>Lo k (ES.mem_iff.mpr hk)) DX.2 (by have:=DX.1;omega) ES Ln) q))
end
end K40
namespace L2
open PySem PySem.Spec PyProof.Rows
theorem QW(xo:XFly X W)(F:FnOk X.prog X.w X.K X.mg X.base (CXe X.prog X.w) k f fd ps sp)(hr:Room k X.A)(hg:Gl X x)(hm:X.mg x=some (.ref f))(hk:lF X.K (.ref f)=true)(hb:Binds X.K fd ps [])
  (hdb:(x==("__debug__" :Str))=false:=by decide):PE X (.Call (.Name x p) [] [] pos) (fun σ H Q=>sp [] H Q (W σ)):=by
 intro pins s σ H Q I q
 refine nT (EC I hg hm ?_ hdb)
 refine PySem.W.callWith_K0 I.kIn hk ?_
 have r2:Vals [] ([]++[]:List Value):=.nil
 have hl:([]++[]:List Value).length=ps.length:=by rw[←r2.length];exact F.len _ _ _ _ q
 refine pJ (oD (F.run X.A X.stack s H ⟨[],[]⟩ ([]++[]) [] Q (W σ) hr I.env0 (hb s [] I.kIn hl) r2 q) fun r s' hq=>?_)
 cases r with
 |error e=>exact xo.fly pins σ H s e s' I hq
 |ok fl=>
  cases fl with
  |ret u=>exact I.after hq
  |next=>exact lG hq
  |brk=>exact lG hq
  |cont=>exact lG hq
end L2
namespace L2.TL
open PySem PySem.Spec PyProof.Rows
section
variable {Z:Zx} {ρ:List (Option T)} {O:AO} {p pos:Pos}
theorem Te(G:FnT Z.X.prog Z.X.w Z.X.K Z.X.mg Z.X.base x k ps s)(hr:Room k Z.X.A)(xf:XFly Z.X Z.W)(h:s [] O Φ Z.Xi)(hg:Gl Z.X x:=by rfl)(hdb:(x==("__debug__" :Str))=false:=by decide):WE Z ρ O (.Call (.Name x p) [] [] pos) Φ:=by
 obtain⟨f,fd,F,hm,hk,hb⟩:=G.ex
 exact PE.weak (QW xf F hr hg hm hk hb hdb) fun σ H Q q=> ⟨[],O,Φ,Z.Xi,.nil,q.1.ok,h,q.2,fun cls O' H' x f'=> ⟨rfl,O',x,q.1.fr.trans f'⟩⟩
theorem Tf(G:FnT Z.X.prog Z.X.w Z.X.K Z.X.mg Z.X.base x k ps (FX φ))(hr:Room k Z.X.A)(xf:XFly Z.X Z.W)(hs:φ [] t)(hg:Gl Z.X x:=by rfl)(hdb:(x==("__debug__" :Str))=false:=by decide):ET Z ρ O (.Call (.Name x p) [] [] pos) t:=
 fun Φ q=>Te G hr xf ⟨t,hs,q⟩ hg hdb
end
end L2.TL
namespace K40
open PySem L2 L2.TL PySem.Spec PyProof.Rows SrtG
theorem Tg:EX ts (some 1) none=ts.drop 1:=by
 unfold EX
 cases ts with
 |nil=>rfl
 |cons t ts=>
  have e1:HT.BX (t::ts).length 0 (some 1)=1:=by
   unfold HT.BX
   simp
  have e2:HT.BX (t::ts).length (t::ts).length none=(t::ts).length:=rfl
  rw[e1,e2,p8 (by rw[m8];omega)]
theorem Ow:rdBs (CO.map kT)=true:=by decide+kernel
noncomputable def jh(us:List T):Bool:=(dTs (CO.map kT)).any fun y=>my y (dT (.tup us))
noncomputable def Ox(us:List T):Bool:=((us.drop 1).map fun u=>NL u 0 16).all id&&jh us
noncomputable def Ay:T→Bool
 | .tup us=>Ox us
 |_=>false
structure Thing(t:T):Prop where
 raw:DF t=false
 tup:∀us,t=.tup us→Bg t=true∧(dT t).depth≤100∧us.length≤100
theorem NW(h:Bg t=true):DF t=false:=by cases t<;>first|rfl| (unfold Bg at h;cases h)
theorem dF:(Ah ["number"] []).Nodup:=by decide+kernel
section
variable {P:Program} {w:World} {K:a8} {mg:Str→Option Value} {base:Heap} {CL:Addr}
noncomputable def Th:CV:=FX fun ts r=>∃t,ts=[t]∧Thing t∧r=.bl (Ay t)
theorem aQ:FnScope ["thing"] ["thing"] (AA Le):=⟨rfl,rfl,rfl,by decide+kernel,rfl,by decide+kernel,by decide+kernel⟩
theorem Wl(F:Fun K "kind_good" "kind_good" Le f fd)(Tx:Txt mg)(Gw:FnT P w K mg base "is_whole" 1 ["thing","least","most"] Oq)(Ga:FnT P w K mg base "all_kinds" 1 [] KG):FnOk P w K mg base (CXe P w) 2 f fd ["thing"] (Cf K Th):=by
 refine AY F aQ ?_ ?_
 ·rintro ts O Φ Ξ ⟨r,⟨t,rfl,_⟩,_⟩
  rfl
 ·rintro cdv A outer s H E O Ξ hr xf _ Φ ⟨_,⟨t,rfl,ht,rfl⟩,q⟩
  have sb:=AN
  have hu:(A.deeper (nI "kind_good" (AA Le) s.heap.objs.size f cdv)).units+102<cLine:=by have:=hr.un;omega
  refine AC (AS (k:=!LQ t) (Bp (Dr Tx.nIsi Tx.nTuple Fs FH (ev 0) ht.raw)) (fun h=>?_) (fun h=>Ac ?_))
  ·have:Ay t=false:=by cases t<;>first|rfl|cases h
   rw[this] at q
   exact AF (AH (ET.we Do q))
  ·cases t with
   |tup us=>
    obtain⟨h1,h2,h3⟩:=ht.tup us rfl
    have hm:=FJ.mp h1
    refine AF (AH (ET.we (t:=.bl (Ox us)) (Bw (ND (bs:=(us.drop 1).map fun u=>NL u 0 16) Tx.nAll rfl ?_) fun _=>DS (Cu (SX hu) rfl (Zl (us:=CO.map kT) h1 Ow h2) (ev 0) (Tf Ga (hr.mono (by decide)) xf ⟨rfl,rfl⟩))) q))
    rw[kI]
    refine BL ["number"] [] (us.drop 1) id _ rfl (Ba (AA Le) ["thing"] (by decide+kernel)) (DU (ET.cast (Jl (ev 0) AB) (by rw[Tg,tj]))) (by rw[m8];omega) fun u hx=> ⟨[some u],fun X' Oe He is O'=>?_⟩
    obtain⟨cl,s',H',fp,rfl⟩:=is
    exact⟨AK 0 dF (by decide),Aj Gw (hr.mono (by decide)) BV (AG (ev 0) (AG AB (AG (FD Tx.iMP) AD))) ⟨u,0,16,rfl,NW (hm u (qA hx)),rfl⟩⟩
   |_=>cases h
noncomputable def Oy(CL:Addr):CV:=fun ts O Φ Ξ=>∃t,ts=[t]∧Thing t∧(Ay t=true→Φ .non O)∧(Ay t=false→Ξ (.ref CL) O)
theorem Wm:FnScope ["thing"] ["thing"] (AA NJ):=⟨rfl,rfl,rfl,by decide+kernel,rfl,by decide+kernel,by decide+kernel⟩
theorem Ti(F:Fun K "need_kind" "need_kind" NJ f fd)(mL:mg "NoLine" =some (.ref CL))(xL:pB K CL VQ "ValueError.__new__" =true)(G:FnT P w K mg base "kind_good" 2 ["thing"] Th):FnOk P w K mg base (CXe P w) 3 f fd ["thing"] (Cf K (Oy CL)):=by
 refine Vm F Wm ?_ ?_
 ·rintro ts O Φ Ξ ⟨t,rfl,_⟩
  rfl
 ·rintro cdv A outer s H E O Ξ hr xo _ Φ ⟨t,rfl,ht,q1,q2⟩
  have xf:=xo.f
  exact AF (AS (k:=!Ay t) (Bp (Dq (Aj G hr xf (AG (ev 0) AD) ⟨t,rfl,ht,rfl⟩))) (fun h=>AF (QJ xo rfl mL xL (q2 (by simpa using h)))) (fun h=>Ac (q1 (by simpa using h))))
end
theorem Wn(hr:Bg u=true)(h:my (.str x) (dT u)=true):u=.str x:=by
 cases u with
 |str y=>
  rw[dT] at h
  unfold my at h
  have:x=y:=by simpa using h
  rw[this]
 |frz _=>unfold Bg at hr;cases hr
 |dct=>unfold Bg at hr;cases hr
 |raw _=>unfold Bg at hr;cases hr
 |_=>rw[dT] at h;unfold my at h;cases h
theorem Lq:∀{ns:List Int} {us:List T},nO (dTs (ns.map T.int)) (dTs us)=true→(∀u∈us,NL u 0 16=true)→us=ns.map T.int
 | [],[],_,_=>rfl
 | [],u::us,h,_=>by simp[dTs,nO] at h
 |n::ns,[],h,_=>by simp[dTs,nO] at h
 |n::ns,u::us,h,hw=>by
  simp only[kg,dTs,nO,ki] at h
  obtain⟨i,rfl⟩:=Os (hw u (j4 ..))
  have e:my (.int n) (.int i)=decide (n=i):=by unfold my;rfl
  have h1:=h.1
  rw[dT,dT,e] at h1
  have h1:=of_decide_eq_true h1
  subst h1
  rw[Lq h.2 fun u hu=>hw u (jt _ hu)]
  rfl
theorem Oz:∀{ts:List T} {q:PyData→Bool},(dTs ts).any q=true→∃t∈ts,q (dT t)=true
 | [],q,h=>by simp[dTs] at h
 |t::ts,q,h=>by
  simp only[dTs,List.any_cons,Bool.or_eq_true] at h
  rcases h with h|h
  ·exact⟨t,j4 ..,h⟩
  ·obtain⟨z,h1,h2⟩:=Oz h
   exact⟨z,jt _ h1,h2⟩
theorem KH(ht:Thing t)(h:Ay t=true):∃k,t=kT k∧KIs k:=by
 cases t with
 |tup us=>
  have h:Ox us=true:=h
  unfold Ox at h
  rw[ki] at h
  obtain⟨h1,h2⟩:=h
  obtain⟨r1,_,_⟩:=ht.tup us rfl
  obtain⟨z,hz,h3⟩:=Oz h2
  obtain⟨k,hk,rfl⟩:=jw.mp hz
  have h3:nO (dTs (.str k.1::k.2.map T.int)) (dTs us)=true:=h3
  cases us with
  |nil=>simp[dTs,nO] at h3
  |cons u us=>
   simp only[dTs,nO,ki] at h3
   have e1:=Wn (FJ.mp r1 u (j4 ..)) h3.1
   have hw:∀v∈us,NL v 0 16=true:=fun v hv=>by
    have:=kA.mp h1 (NL v 0 16) (jw.mpr ⟨v,hv,rfl⟩)
    exact this
   have e2:=Lq h3.2 hw
   refine⟨k,?_,KIs.of hk⟩
   rw[e1,e2]
   rfl
 |_=>cases h
section
variable {P:Program} {w:World} {K:a8} {mg:Str→Option Value} {base:Heap} {CL:Addr}
noncomputable def Gf(CL:Addr):CV:=fun ts O Φ Ξ=>∃t,ts=[t]∧Thing t∧(Ay t=false→Ξ (.ref CL) O)∧∀k,t=kT k→KIs k→Ay t=true→∀rs:List (Int×Int),rs.Pairwise KU→(∀q,q∈rs↔q∈(CW k).2.map mm)→rs.length≤250→Φ (Cv (CW k).1 rs) O
theorem Wo:FnScope ["kind"] ["kind"] (AA NK):=⟨rfl,rfl,rfl,by decide+kernel,rfl,by decide+kernel,by decide+kernel⟩
theorem Tj(F:Fun K "web_by" "web_by" NK f fd)(Gn:FnT P w K mg base "need_kind" 3 ["thing"] (Oy CL))(Gw:FnT P w K mg base "web_of_kind" 4 ["kind"] Td):FnOk P w K mg base (CXe P w) 5 f fd ["kind"] (Cf K (Gf CL)):=by
 refine AY F Wo ?_ ?_
 ·rintro ts O Φ Ξ ⟨t,rfl,_⟩
  rfl
 ·rintro cdv A outer s H E O Ξ hr xf _ Φ ⟨t,rfl,ht,q1,q2⟩
  refine AC (BI (Ax Gn (hr.mono (by decide)) xf (EA.wa (AG (ev 0) AD) ⟨t,rfl,ht,fun h=>?_,q1⟩)))
  obtain⟨k,rfl,hk⟩:=KH ht h
  exact AF (AH (Ax Gw hr xf (EA.wa (AG (ev 0) AD) ⟨k,rfl,hk,q2 k rfl hk h⟩)))
end
theorem QX:(CO.all fun k=>Ay (kT k))=true:=by decide+kernel
theorem dG(h:KIs k):Bg (kT k)=true:=by
 have:=Ow
 exact Hb.mp this _ (jw.mpr ⟨k,h.mem,rfl⟩)
theorem Tn(h:KIs k):Thing (kT k):=by
 refine⟨rfl,fun us e=> ⟨dG h,?_,?_⟩⟩
 ·cases h<;>simp[kT,dT,dTs,PyData.depth,lL]
 ·cases e
  cases h<;>simp
theorem PB(h:KIs k):Ay (kT k)=true:=kA.mp QX k h.mem
theorem To(ht:Thing t):Ay t=true↔∃k,t=kT k∧KIs k:=⟨KH ht,fun⟨k,e,h⟩=>e▸PB h⟩
theorem Tp(h:kT k=kT m):k=m:=by
 unfold kT at h
 injection h with h
 injection h with h1 h2
 injection h1 with h1
 exact mz h1 (List.map_inj_right (fun _ _ e=>by injection e)|>.mp h2)
theorem Wp(ht:Thing (kT k)):Ay (kT k)=true↔KIs k:=(To ht).trans ⟨fun⟨m,e,h⟩=>Tp e▸h,fun h=> ⟨k,rfl,h⟩⟩
end K40
namespace L2.TL
open PySem PySem.Spec PySem.Calls PyProof.Rows
end L2.TL
namespace K40
open PySem L2 L2.TL PySem.Spec PyProof.Rows SrtG
section
variable {P:Program} {w:World} {K:a8} {mg:Str→Option Value} {base:Heap} {CL CR:Addr}
noncomputable abbrev NX:T:=.tup [.str "line"]
structure Cat(P:Program)(w:World)(K:a8)(mg:Str→Option Value)(base:Heap)(CL CR:Addr):Prop where
 ex:∃fR fdR,FnH P w K mg base 2 fR fdR ["_law_e"] (gT CL NX)∧mg "_law_refused" =some (.ref fR)∧lF K (.ref fR)=true∧Binds K fdR ["_law_e"] []
 mR:mg "RingError" =some (.ref CR)
 bR:m9 K CR (.type "BaseException")=some true
 kL:mf K (.ref CL) (.ref CR)=some true
end
theorem Wq(ht:Thing (kT k))(h:b=true↔KIs k):Ay (kT k)=b:=by
 rw[nu,Wp ht,h]
theorem GA(ht:Thing (.tup us))(h:Ay (.tup us)=true):∃(x:Str) (ns:List Int),us=.str x::ns.map T.int∧(ns.length=1∨ns.length=2)∧∀n∈ns,0≤n∧n≤16:=by
 obtain⟨k,e,hk⟩:=KH ht h
 unfold kT at e
 injection e with e
 refine⟨k.1,k.2,e,?_,?_⟩
 ·cases hk<;>first|exact .inl rfl|exact .inr rfl
 ·cases hk<;>simp<;>omega
theorem Lr:∀{us:List T},(us.map fun u=>NL u 0 16).all id=true→∃ns:List Int,us=ns.map T.int∧∀n∈ns,0≤n∧n≤16
 | [],_=> ⟨[],rfl,fun n h=>by cases h⟩
 |u::us,h=>by
  simp only[kg,tM,ki] at h
  obtain⟨ns,rfl,hb⟩:=Lr h.2
  obtain⟨i,rfl⟩:=Os h.1
  have h1:(decide (0≤i)&&decide (i≤16))=true:=h.1
  rw[ki] at h1
  have a1:=of_decide_eq_true h1.1
  have a2:=of_decide_eq_true h1.2
  refine⟨i::ns,rfl,fun n hn=>?_⟩
  rcases ju.mp hn with rfl|hn
  ·exact⟨a1,a2⟩
  ·exact hb n hn
theorem aR{ns:List Int}(h:∀n∈ns,0≤n∧n≤16):((ns.map T.int).map fun u=>NL u 0 16).all id=true:=by
 refine kA.mpr fun b hb=>?_
 obtain⟨u,hu,rfl⟩:=jw.mp hb
 obtain⟨n,hn,rfl⟩:=jw.mp hu
 have:=h n hn
 show(decide (0≤n)&&decide (n≤16))=true
 simp
 omega
noncomputable def Ls:List (Str×T):=CQ.map fun r=> (r.1,.tup [.int r.2.1,.int r.2.2])
theorem Tq(h:IE Ls x=some t):∃a b,(x,a,b)∈CQ∧t=.tup [.int a,.int b]:=by
 unfold IE at h
 cases e:Ls.find? (fun q=>decide (q.1=x)) with
 |none=>rw[e] at h;cases h
 |some q=>
  rw[e] at h
  cases h
  have h1:=List.mem_of_find?_eq_some e
  have h2:=List.find?_some e
  have h2:q.1=x:=of_decide_eq_true h2
  obtain⟨r,hr,rfl⟩:=jw.mp h1
  subst h2
  exact⟨r.2.1,r.2.2,hr,rfl⟩
theorem Tr(h:IE Ls x=none):∀a b,(x,a,b)∉CQ:=by
 intro a b hm
 unfold IE at h
 rw[Option.map_eq_none_iff,rh] at h
 exact h (x,.tup [.int a,.int b]) (jw.mpr ⟨(x,a,b),hm,rfl⟩) (by simp)
theorem PC(h:(x,a,b)∈CQ):KIs (x,ns)↔∃n,ns=[n]∧a≤n∧n≤b:=by
 simp only[CQ,ju,rO,mi,or_false] at h
 rcases h with⟨rfl,rfl,rfl⟩| ⟨rfl,rfl,rfl⟩| ⟨rfl,rfl,rfl⟩| ⟨rfl,rfl,rfl⟩| ⟨rfl,rfl,rfl⟩| ⟨rfl,rfl,rfl⟩
 ·exact⟨fun h=>by cases h;exact⟨_,rfl,by assumption,by assumption⟩,fun⟨n,e,h1,h2⟩=>e▸ .cube h1 h2⟩
 ·exact⟨fun h=>by cases h;exact⟨_,rfl,by assumption,by assumption⟩,fun⟨n,e,h1,h2⟩=>e▸ .full h1 h2⟩
 ·exact⟨fun h=>by cases h;exact⟨_,rfl,by assumption,by assumption⟩,fun⟨n,e,h1,h2⟩=>e▸ .ladder h1 h2⟩
 ·refine⟨fun h=>by cases h;exact⟨_,rfl,by decide,by decide⟩,fun⟨n,e,h1,h2⟩=>?_⟩
  have:n=7:=by omega
  subst this
  exact e▸ .lines
 ·exact⟨fun h=>by cases h;exact⟨_,rfl,by assumption,by assumption⟩,fun⟨n,e,h1,h2⟩=>e▸ .ring h1 h2⟩
 ·exact⟨fun h=>by cases h;exact⟨_,rfl,by assumption,by assumption⟩,fun⟨n,e,h1,h2⟩=>e▸ .twisted h1 h2⟩
theorem Lu(h:∀a b,(x,a,b)∉CQ)(hk:KIs (x,ns)):(x= "two"∨x= "spokes")∧∃n m,ns=[n,m]:=by
 cases hk with
 |spokes=>exact⟨.inr rfl,_,_,rfl⟩
 |two=>exact⟨.inl rfl,_,_,rfl⟩
 |cube=>exact absurd (by simp[CQ]) (h 0 4)
 |full=>exact absurd (by simp[CQ]) (h 1 16)
 |ladder=>exact absurd (by simp[CQ]) (h 3 8)
 |lines=>exact absurd (by simp[CQ]) (h 7 7)
 |ring=>exact absurd (by simp[CQ]) (h 3 16)
 |twisted=>exact absurd (by simp[CQ]) (h 2 8)
theorem Ws:KIs ("two",[n,m])↔1≤n∧1≤m∧n+m≤16:=⟨fun h=>by cases h;exact⟨by assumption,by assumption,by assumption⟩,fun⟨a,b,c⟩=> .two a b c⟩
theorem NY:KIs ("spokes",[n,m])↔3≤n∧n≤8∧1≤m∧m*2<n:=⟨fun h=>by cases h;exact⟨by assumption,by assumption,by assumption,by assumption⟩,fun⟨a,b,c,d⟩=> .spokes a b c d⟩
noncomputable def aS:Stmt→List Stmt
 | .If _ a _ _=>a
 |_=> []
theorem dH:(Ah ["_law_one"] []).Nodup:=by decide+kernel
theorem Ts:rdBs ([(2:Int),3].map T.int)=true:=by decide+kernel
section
variable {P:Program} {w:World} {K:a8} {mg:Str→Option Value} {base:Heap} {f:Addr} {cdv:Value} {A:j6} {outer:List Env} {s:Shared} {H H1:Hp} {E:XK} {O:AO} {Ξ:Value→AO→Prop}
noncomputable abbrev YE(P:Program)(w:World)(K:a8)(mg:Str→Option Value)(base:Heap)(f:Addr)(cdv:Value)(A:j6)(outer:List Env)(s:Shared)(H:Hp)(E:XK)(O:AO)(H1:Hp)(Ξ:Value→AO→Prop):Zx:=
 ⟨CM (CXe P w) P w K mg base ["_law_thing","_law_some"] "_law_kind_like" (AA Dw) f cdv A outer s H E,O,H1,Ξ⟩
theorem Tt:FnScope ["_law_thing","_law_some"] ["_law_thing"] (AA Dw):=⟨rfl,rfl,rfl,by decide+kernel,rfl,by decide+kernel,by decide+kernel⟩
theorem Tu(Tx:Txt mg)(D:DcAt P w K d Ls O H1)(hab:(x,a,b)∈CQ)(e:IE Ls x=some (.tup [.int a,.int b]))(hl:ns.length=1∨ns.length=2)(q:∀{b:Bool},(b=true↔KIs (x,ns))→Ψ.rt (.bl b) O):
  HS (YE P w K mg base f cdv A outer s H E O H1 Ξ) [some (kT (x,ns)),some (.raw (.ref d))] O (aS ((Ae Dw).getD 3 (.Pass ⟨0,0,0,0⟩))) Ψ:=by
 refine⟨?_⟩
 rcases ns with _| ⟨n,_| ⟨m,_| ⟨_,_⟩⟩⟩
 ·simp at hl
 ·refine AF (AH (ET.we (t:=.bl (decide (((2:Nat):Int)=2)&&(decide (a≤n)&&decide (n≤b)))) (Bw (HW (CC (ts:=[.str x,.int n]) Tx.nLen (ev 0)) AB) fun _=>DS ?_) (q ?_)))
  ·exact Jf (AI (t:=.int a) (DW D e (ev 1) (AI (ts:=[.str x,.int n]) (ev 0) AB)) AB) (AI (ts:=[.str x,.int n]) (ev 0) AB) (AI (t:=.int b) (DW D e (ev 1) (AI (ts:=[.str x,.int n]) (ev 0) AB)) AB)
  ·rw[PC hab]
   simp
 ·refine AF (AH (ET.we (t:=.bl (decide (((3:Nat):Int)=2)&&false)) (Bw (HW (CC (ts:=[.str x,.int n,.int m]) Tx.nLen (ev 0)) AB) fun h=>absurd h (by decide)) (q ?_)))
  rw[PC hab]
  simp
 ·simp at hl
theorem QY(Tx:Txt mg)(hno:∀a b,(x,a,b)∉CQ)(hl:ns.length=1∨ns.length=2)(q:∀{b:Bool},(b=true↔KIs (x,ns))→Ψ.rt (.bl b) O):
  HS (YE P w K mg base f cdv A outer s H E O H1 Ξ) [some (kT (x,ns)),some (.raw (.ref d))] O ((Ae Dw).drop 4) Ψ:=by
 refine⟨?_⟩
 rcases ns with _| ⟨n,_| ⟨m,_| ⟨_,_⟩⟩⟩
 ·simp at hl
 ·refine AC (AS (k:=true) (EB.cast (Mw (CC (ts:=[.str x,.int n]) Tx.nLen (ev 0)) AB) rfl) (fun _=>AF (AH (ET.we Do (q ?_)))) (fun h=>by cases h))
  refine⟨(fun h=>by cases h),fun h=>?_⟩
  obtain⟨_,n,m,e⟩:=Lu hno h
  cases e
 ·refine AC (AS (k:=false) (EB.cast (Mw (CC (ts:=[.str x,.int n,.int m]) Tx.nLen (ev 0)) AB) rfl) (fun h=>by cases h) (fun _=>Ac ?_))
  refine AC (AS (k:=x== "two") (Ag (AI (ts:=[.str x,.int n,.int m]) (ev 0) AB) AQ) (fun h=>?_) (fun h=>Ac ?_))
  ·have:x= "two":=by simpa using h
   subst this
   refine AF (AH (ET.we (t:=.bl (decide (min n m>0)&&decide (n+m<17))) (Bw (cU (Vj Tx.nMin rfl (ET.cast (Jl (ev 0) AB) (by rw[Tg];rfl))) AB) fun _=>DS (SC (As (AI (ts:=[.str "two",.int n,.int m]) (ev 0) AB) (AI (ts:=[.str "two",.int n,.int m]) (ev 0) AB)) AB)) (q ?_)))
   rw[Ws]
   simp
   omega
  ·have:x≠"two":=by simpa using h
   refine AF (AH (ET.we (t:=.bl ((x== "spokes")&&((decide (2<n)&&decide (n<9))&&(decide (0<m)&&decide (2*m<n))))) (Bw (aH (AI (ts:=[.str x,.int n,.int m]) (ev 0) AB) AQ) fun _=>Bw (FE Gp Gp DE (fun _=>DE) AB (AI (t:=.int n) (ts:=[.str x,.int n,.int m]) (ev 0) AB) fun _=>AB) fun _=>Bw (SC AB (AI (ts:=[.str x,.int n,.int m]) (ev 0) AB)) fun _=>DS (SC (Bv AB (AI (ts:=[.str x,.int n,.int m]) (ev 0) AB) (.inl ⟨by decide,by decide⟩)) (AI (ts:=[.str x,.int n,.int m]) (ev 0) AB))) (q ?_)))
   by_cases hs:x= "spokes"
   ·subst hs
    rw[NY]
    simp
    omega
   ·refine⟨fun h=>?_,fun h=>?_⟩
    ·simp[hs] at h
    ·rcases(Lu hno h).1 with e|e
     ·exact absurd e this
     ·exact absurd e hs
 ·simp at hl
end
end K40
namespace L2.TL
open PySem PySem.Spec PyProof.Rows
structure HDP(Z:Zx)(ρ:List (Option T))(O:AO)(pos:Pos)(ks:List (Option Expr))(es:List Expr)(qs:List (Str×T)):Prop where
 out:bL Z ρ O pos ks es qs
section
variable{Z:Zx}{ρ:List (Option T)}{O:AO}{pos p:Pos}{x:Str}{t:T}{e:Expr}{qs:List (Str×T)}
theorem HDP.nil:HDP Z ρ O pos [] [] []:=⟨Vv⟩
theorem HDP.cons{j:Nat}{ks:List (Option Expr)}{es:List Expr}(he:HET Z ρ O e t)(h:HDP Z ρ O pos ks es qs):HDP Z ρ O pos (some (.Constant (.str x) j p)::ks) (e::es) ((x,t)::qs):=⟨Sl he.out h.out⟩
theorem HDP.c2(h:HDP Z ρ O pos ks es qs):HDP Z ρ O pos (some (.Constant (.str x) j p)::ks) (.Tuple [.Constant (.int i) j1 p1,.Constant (.int l) j2 p2] k p3::es) ((x,.tup [.int i,.int l])::qs):=.cons ⟨AV (AG AB (AG AB AD)) (by show 2≤sizeLine;decide)⟩ h
theorem Lv{px spos:Pos}(h:HDP Z ρ O pos ks es qs)(nd:(qs.map (·.1)).Nodup)(hN:Z.X.N.Nodup)(xf:XFly Z.X Z.W)
  (k:∀d H1,DcAt Z.X.prog Z.X.w Z.K d qs O H1→XFly Z.X (Zx.W ⟨Z.X,O,H1,Z.Xi⟩)→HS ⟨Z.X,O,H1,Z.Xi⟩ (ρ.set i (some (.raw (.ref d)))) O ss Ψ)
  (hall:ks.all (·.isSome)=true:=by rfl) (hl:ks.length=es.length:=by rfl) (h0:ks≠[]:=by exact List.cons_ne_nil _ _) (h15:ks.length≤15:=by decide)
  (hi:Z.X.N[i]?=some x:=by rfl) (hx:IF Z.X.env.scope x:=by first|exact nv rfl|exact nW rfl)
  (hs:pe (.Dict ks es pos) (some (.Name x px)) spos.line Z.X.env=pure false:=by rfl)
  (hf:Z.X.fn x=true∨Z.X.env.scope.names.lookup x=some .local:=by first|exact .inl rfl|exact .inr rfl):HS Z ρ O (.Assign [.Name x px] (.Dict ks es pos) spos::ss) Ψ:=
 ⟨Vw h.out nd hN xf (fun d H1 D xf1=> (k d H1 D xf1).out) hall hl h0 h15 hi hx hs hf⟩
theorem DY(D:DcAt Z.X.prog Z.X.w Z.K d qs Z.Oe Z.He)(hb:ET Z ρ O b (.str x))(ha:ET Z ρ O a (.raw (.ref d)))(hm:behindInMarks .In a=false:=by rfl):EB Z ρ O (.Compare b [.In] [a] pos) (IE qs x).isSome:=fun Φ k=>
 PT.weak (ED Vu (hb (fun t O'=>t=.str x∧O'=O) ⟨rfl,rfl⟩) (ha (fun t O'=>t=.raw (.ref d)∧O'=O) ⟨rfl,rfl⟩) hm) fun σ H Q w=> ⟨w.1,by
  rintro v H1 _ _ ⟨rfl,rfl⟩ f1 r1
  refine⟨w.1.step f1,?_⟩
  rintro v2 H2 _ _ ⟨rfl,rfl⟩ f2 r2
  cases r1.str_inv
  cases r2.raw_inv
  obtain⟨rs,vs,ps,h1,h2,rfl,h4,h5,_⟩:=(D.kp (w.1.fr.trans (f1.trans f2))).ex
  refine⟨d,x,_,rfl,rfl,h1,?_⟩
  have e:(sd (EY qs ps) (.inr x)).isSome=(IE qs x).isSome:=by
   cases hl:IE qs x with
   |none=>rw[(Oh (x:=x) h4 h5).1 hl];rfl
   |some t=>
    obtain⟨v,u,g1,_⟩:=(Oh (x:=x) h4 h5).2 t hl
    rw[g1];rfl
  rw[e]
  exact⟨_,rfl,w.2 _ H2 _ k (f1.trans f2)⟩⟩
end
end L2.TL
namespace K40
open PySem L2 L2.TL PySem.Spec PyProof.Rows SrtG
section
variable {K:a8}
theorem QZ(Tx:Txt mg)(xf:XFly (YE P w K mg base f cdv A outer s H E O H Ξ).X (YE P w K mg base f cdv A outer s H E O H Ξ).W)(hl:ns.length=1∨ns.length=2)(q:∀{b:Bool},(b=true↔KIs (x,ns))→Ψ.rt (.bl b) O):
  HS (YE P w K mg base f cdv A outer s H E O H Ξ) [some (kT (x,ns)),none] O ((Ae Dw).drop 2) Ψ:=by
 refine Lv (i:=1) (qs:=Ls) (.c2 (.c2 (.c2 (.c2 (.c2 (.c2 .nil)))))) (by decide+kernel) Tt.nd xf ?_
 intro d H1 D xf1
 refine Aa (AS (k:=(IE Ls x).isSome) (DY (x:=x) (qs:=Ls) D (AI (ts:=.str x::ns.map T.int) (ev 0) AB (An (j:=0) rfl)) (ev 1)) (fun h=>?_) (fun h=>Ac ?_))
 ·obtain⟨t,e⟩:=pD.mp h
  obtain⟨a,b,hab,rfl⟩:=Tq e
  refine HS.out ?_
  exact Tu (P:=P) (w:=w) (base:=base) (f:=f) (cdv:=cdv) (A:=A) (outer:=outer) (s:=s) (H:=H) (E:=E) (Ξ:=Ξ) (H1:=H1) Tx D hab e hl q
 ·exact QY (P:=P) (w:=w) (base:=base) (f:=f) (cdv:=cdv) (A:=A) (outer:=outer) (s:=s) (H:=H) (E:=E) (Ξ:=Ξ) (H1:=H1) (d:=d) (x:=x) (ns:=ns) Tx (Tr (x:=x) (by simpa using h)) hl q
end
section
variable {P:Program} {w:World} {K:a8} {mg:Str→Option Value} {base:Heap}
noncomputable def NZ:CV:=FX fun ts r=>∃t,ts=[t]∧Thing t∧r=.bl (Ay t)
theorem Tv(hr:Room 1 (A.deeper (nI "_law_kind_like" (AA Dw) s.heap.objs.size f cdv)))(Tx:Txt mg)(Gw:FnT P w K mg base "_law_whole" 1 ["_law_found"] Dx)(xf:XFly (YE P w K mg base f cdv A outer s H E O H Ξ).X (YE P w K mg base f cdv A outer s H E O H Ξ).W)(ht:Thing (.tup (.str x::us)))(hlen:us.length=1∨us.length=2)(q:Ψ.rt (.bl (Ay (.tup (.str x::us)))) O):
  HS (YE P w K mg base f cdv A outer s H E O H Ξ) [some (.tup (.str x::us)),none] O ((Ae Dw).drop 1) Ψ:=by
 refine⟨?_⟩
 have sb:=AN
 obtain⟨h1,h2,h3⟩:=ht.tup _ rfl
 have hm:=FJ.mp h1
 refine AC (AS (k:=!(us.map fun u=>NL u 0 16).all id) (Bp (Dq (ND (bs:=us.map fun u=>NL u 0 16) Tx.nAll rfl ?_))) (fun h=>AF (AH (ET.we Do ?_))) (fun h=>Ac ?_))
 ·rw[kI]
  refine BL ["_law_one"] [] us id _ rfl (Ba (AA Dw) ["_law_thing","_law_some"] (by decide+kernel)) (DU (ET.cast (Jl (ev 0) AB) (by rw[Tg,tj];rfl))) (by omega) fun v hv=> ⟨[some v],fun X' Oe He is O'=>?_⟩
  obtain⟨cl,s',H',fp,rfl⟩:=is
  have hv1:=NW (hm v (jt _ hv))
  refine⟨AK 0 dH (by decide),?_⟩
  by_cases hi:∃i,v=.int i
  ·obtain⟨i,rfl⟩:=hi
   exact ET.cast (Bw (Aj Gw (hr.mono (by decide)) BV (AG (ev 0) AD) ⟨_,rfl,rfl,rfl⟩) fun _=>DS (Jf AB (ev 0) AB)) rfl
  ·have e1:(SO v&&!NA v)=false:=by
    cases v<;>first|rfl|exact absurd ⟨_,rfl⟩ hi
   have e2:NL v 0 16=false:=by
    cases v<;>first|rfl|exact absurd ⟨_,rfl⟩ hi
   refine ET.cast (Bw (y:=false) (Aj Gw (hr.mono (by decide)) BV (AG (ev 0) AD) ⟨v,rfl,hv1,rfl⟩) fun h=>?_) ?_
   ·rw[e1] at h
    cases h
   ·show T.bl _=T.bl (NL v 0 16)
    rw[e1,e2]
    rfl
 ·rcases hg:Ay (.tup (.str x::us)) with _|_
  ·rw[hg] at q
   exact q
  ·obtain⟨y,ns,e,hl,hb⟩:=GA ht hg
   cases e
   rw[aR hb] at h
   cases h
 ·have h:(us.map fun u=>NL u 0 16).all id=true:=by simpa using h
  obtain⟨ns,rfl,hb⟩:=Lr h
  rw[b9] at hlen
  have ht:Thing (kT (x,ns)):=ht
  refine HS.out ?_
  refine QZ (P:=P) (w:=w) (base:=base) (f:=f) (cdv:=cdv) (A:=A) (outer:=outer) (s:=s) (H:=H) (E:=E) (Ξ:=Ξ) (x:=x) (ns:=ns) Tx xf hlen ?_
  intro b h
  have:=Wq ht h
  rw[←this]
  exact q
theorem Tw(h:TZ t=true):∃x,t=.str x:=by cases t<;>first|exact⟨_,rfl⟩|cases h
theorem Wt(F:Fun K "_law_kind_like" "_law_kind_like" Dw f fd)(Tx:Txt mg)(Gw:FnT P w K mg base "_law_whole" 1 ["_law_found"] Dx):FnOk P w K mg base (CXe P w) 2 f fd ["_law_thing"] (Cf K NZ):=by
 refine AY F Tt ?_ ?_
 ·rintro ts O Φ Ξ ⟨r,⟨t,rfl,_⟩,_⟩
  rfl
 ·rintro cdv A outer s H E O Ξ hr xf _ Φ ⟨_,⟨t,rfl,ht,rfl⟩,q⟩
  have sb:=AN
  have hu:(A.deeper (nI "_law_kind_like" (AA Dw) s.heap.objs.size f cdv)).units+102<cLine:=by have:=hr.un;omega
  by_cases hT:LQ t=true
  ·obtain⟨us,rfl⟩:∃us,t=.tup us:=by cases t<;>first|exact⟨_,rfl⟩|cases hT
   obtain⟨h1,h2,h3⟩:=ht.tup us rfl
   have hm:=FJ.mp h1
   by_cases hg:us.length=2∨us.length=3
   ·obtain⟨u,us,rfl⟩:∃u us',us=u::us':=by
     cases us with
     |nil=>simp at hg
     |cons u us=>exact⟨u,us,rfl⟩
    refine AC (AS (k:=!TZ u) ?_ (fun h=>?_) (fun h=>Ac ?_))
    ·refine EW.eb (EW.cast (GL (Bp (Dr Tx.nIsi Tx.nTuple Fs FH (ev 0) rfl)) fun _=>GL (BZ (SY hu) rfl (Jr (t:=.int ((u::us).length:Int)) (us:=[(2:Int),3].map T.int) (by rw[Bg]) Ts (by show 0≤100;decide)) (CC Tx.nLen (ev 0)) (AV (AG AB (AG AB AD)) (by show 2≤sizeLine;decide))) fun _=>Mx (Bp (Dr (t:=u) Tx.nIsi Tx.nStr dD Wa (AI (ts:=u::us) (ev 0) AB (An (j:=0) rfl)) (NW (hm u (j4 ..)))))) ?_)
     rw[DG]
     have:((u::us).length:Int)∈[(2:Int),3]:=by
      simp only[ju,mi,or_false]
      omega
     simp only[decide_eq_true this]
     rfl
    ·refine AF (AH (ET.we Do ?_))
     rcases hg:Ay (.tup (u::us)) with _|_
     ·rw[hg] at q
      exact q
     ·obtain⟨y,ns,e,hl,hb⟩:=GA ht hg
      cases e
      cases h
    ·obtain⟨x,rfl⟩:=Tw (by simpa using h)
     refine HS.out ?_
     exact Tv (P:=P) (w:=w) (base:=base) (f:=f) (cdv:=cdv) (A:=A) (outer:=outer) (s:=s) (H:=H) (E:=E) (Ξ:=Ξ) (x:=x) (us:=us) hr Tx Gw xf ht (by simp only[km] at hg;omega) q
   ·refine AC (AS (k:=true) ?_ (fun h=>?_) (fun h=>by cases h))
    ·have:¬((us.length:Int)∈[(2:Int),3]):=by
      simp only[ju,mi,or_false]
      omega
     refine EW.eb (EW.cast (GL (Bp (Dr Tx.nIsi Tx.nTuple Fs FH (ev 0) rfl)) fun _=>GL (y:=true) (EB.cast (l:=true) (BZ (SY hu) rfl (Jr (t:=.int (us.length:Int)) (us:=[(2:Int),3].map T.int) (by rw[Bg]) Ts (by show 0≤100;decide)) (CC Tx.nLen (ev 0)) (AV (AG AB (AG AB AD)) (by show 2≤sizeLine;decide))) ?_) fun h=>by cases h) rfl)
     rw[DG,decide_eq_false this]
     rfl
    ·refine AF (AH (ET.we Do ?_))
     rcases hg':Ay (.tup us) with _|_
     ·rw[hg'] at q
      exact q
     ·obtain⟨y,ns,e,hl,hb⟩:=GA ht hg'
      subst e
      simp at hg
      omega
  ·have hT:LQ t=false:=by simpa using hT
   have hg:Ay t=false:=by cases t<;>first|rfl|cases hT
   refine AC (AS (k:=true) ?_ (fun h=>AF (AH (ET.we Do (hg▸q)))) (fun h=>by cases h))
   exact EW.eb (EW.cast (GL (y:=true) (EB.cast (l:=true) (Bp (Dr Tx.nIsi Tx.nTuple Fs FH (ev 0) ht.raw)) (by rw[hT];rfl)) fun h=>by cases h) rfl)
end
end K40
namespace L2.TL
open PySem PySem.Spec PyProof.Rows
theorem Lw:∀{bs:List Bool},(bs.map V.bl).all Di=true
 | []=>rfl
 |_::bs=>Lw (bs:=bs)
theorem PD:∀{bs:List Bool},(bs.map V.bl).countP (fun z=>Ke z (.bl true))=bs.count true
 | []=>rfl
 |b::bs=>by
  rw[kg,rZ,List.count_cons,PD]
  cases b<;>rfl
theorem Hr:∀{ns:List Int},rdBs (ns.map T.int)=true
 | []=>rfl
 |n::ns=>by
  rw[kg,rdBs,Hr]
  rfl
section
variable {Z:Zx} {ρ:List (Option T)} {O:AO} {Ψ:Es} {a b o e:Expr} {apos cpos pos:Pos} {bs:List Bool} {i:Int} {ns:List Int}
theorem DZ(i j:Nat){y:Str}{px py pt:Pos}{kt k2 pt2}(hc:Z.X.calm=true)(hN:Z.X.N.Nodup)(h:WA Z ρ O [a,b] fun ts O'=>∃t u,ts=[t,u]∧Ψ.nx ((ρ.set i (some t)).set j (some u)) O')
  (hi:Z.X.N[i]?=some x:=by rfl) (hj:Z.X.N[j]?=some y:=by rfl) (hij:i≠j:=by decide) (hx:Z.X.env.scope.names.lookup x=some .local:=by rfl) (hy:Z.X.env.scope.names.lookup y=some .local:=by rfl)
  (hw:qp [.Tuple [.Name x px,.Name y py] kt pt] (.Tuple [a,b] k2 pt2) Z.X.env=pure (some [x,y]):=by rfl)
  (hs:qo [.Tuple [.Name x px,.Name y py] kt pt] (.Tuple [a,b] k2 pt2) pos.line Z.X.env=pure false:=by rfl):
  WS Z ρ O (.Assign [.Tuple [.Name x px,.Name y py] kt pt] (.Tuple [a,b] k2 pt2) pos) Ψ:=
 PS.weak (YY hc hN hi hj hij hx hy h hw hs) fun D σ H q=> ⟨q.1,fun vs H' ts O' ⟨t,u,e,p⟩ f r=>by
  subst e
  obtain⟨v,w,rfl,r1,r2⟩:=r.two_inv
  exact⟨v,w,rfl,q.2.nx _ O' _ H' p ⟨((q.1.step f).rl.set r1).set r2,(q.1.step f).fr⟩ f.kp⟩⟩
theorem Qa(h:ET Z ρ O o (.lst (bs.map T.bl)))(h2:ET Z ρ O e (.bl true))(hbase:oJ o "count" Z.X.env (eval o Z.X.env)=eval o Z.X.env:=by rfl)
  (hfew:((mS cpos (i5 [e] Z.X.env)).all (fun x=>!x.1)&&(rT cpos (pQ [] Z.X.env)).all (fun x=>x.1.isSome)&&decide ([e].length+([]:List qt).length+(if([]:List qt).isEmpty then 0 else 1)<30))=true:=by rfl) (hline:(apos.endLine==cpos.line)=true:=by rfl)
  (hs:i5 [e] Z.X.env=(false,eval e Z.X.env)::i5 [] Z.X.env:=by rfl) (hplain:(mS cpos (i5 [] Z.X.env)).any (·.1)=false:=by rfl):
  ET Z ρ O (.Call (.Attribute o "count" apos) [e] [] cpos) (.int ((bs.count true:Nat):Int)):=fun Φ q=>
 SJ nH PySem.F.slot_list_count PySem.F.type_list_count Kq (ET.we h ⟨Vf,EA.wa (AX h2 AD hs) fun H v vs Q ok r1 r2 acc=>by
  obtain⟨a,xs,rfl,h1,_,r1⟩:=r1.lst_inv
  obtain⟨u,rfl,r3⟩:=r2.one_inv
  cases r3.bl_inv
  cases r1.bls
  refine⟨a,_,_,rfl,rfl,.inl (.inl h1),rfl,Lw,?_⟩
  rw[PD]
  exact acc _ H _ O q (.refl ok) (.int _)⟩) hbase hfew hline hs hplain
theorem Ek(hu:Z.X.A.units+102<cLine)(ha:ET Z ρ O a (.int i))(hb:ET Z ρ O b (.tup (ns.map T.int)))(hm:behindInMarks .In b=false:=by rfl):ET Z ρ O (.Compare a [.In] [b] pos) (.bl (decide (i∈ns))):=by
 have h:=Cu (pos:=pos) (SX hu) hm (Jr (t:=.int i) (us:=ns.map T.int) (by rw[Bg]) Hr (by show 0≤100;decide)) ha hb
 rw[DG] at h
 exact h
end
end L2.TL
namespace K40
open PySem L2 L2.TL PySem.Spec PyProof.Rows SrtG
noncomputable def dI(n a b:Int):Bool:=decide ((((((jr n.toNat).map fun(j:Nat)=>!decide (a/2^(0+(j:Int)).toNat%2=b/2^(0+(j:Int)).toNat%2))).count true:Nat):Int)=1)
noncomputable def dJ(a b:Int):Bool:=decide (a<7)&&decide (7≤b)&&decide ((a-b)%7∈[(0:Int),1,3])
noncomputable def dM(n a b:Int):Bool:=decide (b-a∈[1,n-1])
noncomputable def dN(n a b:Int):Bool:=decide (b-a∈[1,2*n-1,n])
noncomputable def dO(n a b:Int):Bool:=decide (a<n)&&decide (n≤b)
noncomputable def Lx(n m a b:Int):Bool:=if b<n then decide (b-a∈[1,n-1]) else if a≥n then decide (b-a∈[m,n-m]) else decide (b-a=n)
noncomputable def aT(k:Kd)(a b:Int):Bool:=
 let n:=k.2.getD 0 0
 let m:=k.2.getD 1 0
 if k.1= "cube" then dI n a b else if k.1= "full" then true else if k.1= "ladder" then Lx n 1 a b else if k.1= "lines" then dJ a b else if k.1= "ring" then dM n a b else if k.1= "spokes" then Lx n m a b else if k.1= "twisted" then dN n a b else dO n a b
theorem dP:(Ah ["_law_bit"] [(("_law_a" :Str),1),(("_law_b" :Str),2)]).Nodup:=by decide+kernel
section
variable {K:a8}
noncomputable def iW:List Str:=["_law_kind","_law_a","_law_b","_law_word","_law_n","_law_step"]
noncomputable def Na:CV:=FX fun ts r=>∃k a b,ts=[kT k,.int a,.int b]∧KIs k∧r=.bl (aT k a b)
theorem Ce:FnScope iW ["_law_kind","_law_a","_law_b"] (AA Lg):=⟨rfl,rfl,rfl,by decide+kernel,rfl,by decide+kernel,by decide+kernel⟩
theorem Wu(F:Fun K "_law_kind_tie" "_law_kind_tie" Lg f fd)(Tx:Txt mg):FnOk P w K mg base (CXe P w) 1 f fd ["_law_kind","_law_a","_law_b"] (Cf K Na):=by
 refine AY F Ce ?_ ?_
 ·rintro ts O Φ Ξ ⟨r,⟨k,a,b,rfl,_⟩,_⟩
  rfl
 ·rintro cdv A outer s H E O Ξ hr xf _ Φ ⟨_,⟨k,a,b,rfl,hk,rfl⟩,q⟩
  have sb:=AN
  have hu:(A.deeper (nI "_law_kind_tie" (AA Lg) s.heap.objs.size f cdv)).units+102<cLine:=by have:=hr.un;omega
  have z2:(2:Nat)≤sizeLine:=by decide
  have z3:(3:Nat)≤sizeLine:=by decide
  cases hk with
  | @cube n h0 h1=>
   have q:Φ (.bl (dI n a b)) O:=q
   refine AC (DZ 3 4 rfl Ce.nd (EA.wa (ts:=[.str "cube",.int n]) (AG (AI (ts:=[.str "cube",.int n]) (ev 0) AB) (AG (AI (ts:=[.str "cube",.int n]) (ev 0) AB) AD)) ⟨_,_,rfl,?_⟩))
   refine AC (AS (k:=true) (EB.cast (Ag (ev 3) AQ) (by decide+kernel)) (fun _=>?_) (fun h=>by cases h))
   refine AF (AH (ET.we (HW (Qa (bs:=(jr n.toNat).map fun(j:Nat)=>!decide (a/2^(0+(j:Int)).toNat%2=b/2^(0+(j:Int)).toNat%2)) ?_ Do) AB) q))
   rw[kI]
   refine BL ["_law_bit"] [("_law_a",1),("_law_b",2)] (jr n.toNat) (fun j=> .int (0+(j:Int))) _ rfl (Ba (AA Lg) iW (by decide+kernel)) (Ad Tx.nRange (ev 4) ⟨by omega,by omega⟩) (by rw[kr];omega) fun x hx=> ⟨[some (.int (0+(x:Int))),some (.int a),some (.int b)],fun X' Oe He is O'=>?_⟩
   obtain⟨cl,s',H',fp,rfl⟩:=is
   exact⟨AK 0 dP (by decide),ZQ (Cd (Sm (ev 1) (ev 0) (by omega)) AB (by decide)) (Cd (Sm (ev 2) (ev 0) (by omega)) AB (by decide))⟩
  | @full n h0 h1=>
   have q:Φ (.bl (true)) O:=q
   refine AC (DZ 3 4 rfl Ce.nd (EA.wa (ts:=[.str "full",.int n]) (AG (AI (ts:=[.str "full",.int n]) (ev 0) AB) (AG (AI (ts:=[.str "full",.int n]) (ev 0) AB) AD)) ⟨_,_,rfl,?_⟩))
   iterate 1 refine AC (AS (k:=false) (EB.cast (Ag (ev 3) AQ) (by decide+kernel)) (fun h=>by cases h) (fun _=>Ac ?_))
   refine AC (AS (k:=true) (EB.cast (Ag (ev 3) AQ) (by decide+kernel)) (fun _=>?_) (fun h=>by cases h))
   exact AF (AH (ET.we Do q))
  | @ladder n h0 h1=>
   have q:Φ (.bl (Lx n 1 a b)) O:=q
   refine AC (DZ 3 4 rfl Ce.nd (EA.wa (ts:=[.str "ladder",.int n]) (AG (AI (ts:=[.str "ladder",.int n]) (ev 0) AB) (AG (AI (ts:=[.str "ladder",.int n]) (ev 0) AB) AD)) ⟨_,_,rfl,?_⟩))
   iterate 6 refine AC (AS (k:=false) (EB.cast (Ag (ev 3) AQ) (by decide+kernel)) (fun h=>by cases h) (fun _=>Ac ?_))
   refine AC (AM 5 (ET.we (t:=.int 1) (ET.cast (BP (x:=false) (ta:=.non) (EB.cast (Ag (ev 3) AQ) (by decide+kernel)) (fun h=>by cases h) (fun _=>AB)) rfl) ?_) Ce.nd)
   refine AC (AS (k:=decide (b<n)) (OS (ev 2) (ev 4)) (fun h=>?_) (fun h=>Ac ?_))
   ·have h:=of_decide_eq_true h
    unfold Lx at q
    rw[if_pos h] at q
    exact AF (AH (ET.we (Ek (ns:=[1,n-1]) hu (BK (ev 2) (ev 1)) (AV (AG AB (AG (BK (ev 4) AB) AD)) z2)) q))
   ·have h:=of_decide_eq_false h
    unfold Lx at q
    rw[if_neg h] at q
    refine AF (AH (ET.we (ET.cast (BP (x:=decide (a≥n)) (Xn (ev 1) (ev 4)) (fun _=>Ek (ns:=[1,n-1]) hu (BK (ev 2) (ev 1)) (AV (AG (ev 5) (AG (BK (ev 4) (ev 5)) AD)) z2)) (fun _=>HW (BK (ev 2) (ev 1)) (ev 4))) ?_) q))
    by_cases g:a≥n
    ·rw[if_pos g,if_pos (decide_eq_true g)]
    ·rw[if_neg g,if_neg (by rw[decide_eq_false g];decide)]
  |lines=>
   have q:Φ (.bl (dJ a b)) O:=q
   refine AC (DZ 3 4 rfl Ce.nd (EA.wa (ts:=[.str "lines",.int 7]) (AG (AI (ts:=[.str "lines",.int 7]) (ev 0) AB) (AG (AI (ts:=[.str "lines",.int 7]) (ev 0) AB) AD)) ⟨_,_,rfl,?_⟩))
   iterate 2 refine AC (AS (k:=false) (EB.cast (Ag (ev 3) AQ) (by decide+kernel)) (fun h=>by cases h) (fun _=>Ac ?_))
   refine AC (AS (k:=true) (EB.cast (Ag (ev 3) AQ) (by decide+kernel)) (fun _=>?_) (fun h=>by cases h))
   exact AF (AH (ET.we (Bw (FE Gp Nq (x:=decide (a<7)) (y:=decide ((7:Int)≤b)) DE (fun _=>DE) (ev 1) AB fun _=>ev 2) fun _=>DS (Ek (ns:=[(0:Int),1,3]) hu (Cd (BK (ev 1) (ev 2)) AB (by decide)) (AV (AG AB (AG AB (AG AB AD))) z3))) q))
  | @ring n h0 h1=>
   have q:Φ (.bl (dM n a b)) O:=q
   refine AC (DZ 3 4 rfl Ce.nd (EA.wa (ts:=[.str "ring",.int n]) (AG (AI (ts:=[.str "ring",.int n]) (ev 0) AB) (AG (AI (ts:=[.str "ring",.int n]) (ev 0) AB) AD)) ⟨_,_,rfl,?_⟩))
   iterate 3 refine AC (AS (k:=false) (EB.cast (Ag (ev 3) AQ) (by decide+kernel)) (fun h=>by cases h) (fun _=>Ac ?_))
   refine AC (AS (k:=true) (EB.cast (Ag (ev 3) AQ) (by decide+kernel)) (fun _=>?_) (fun h=>by cases h))
   exact AF (AH (ET.we (Ek (ns:=[1,n-1]) hu (BK (ev 2) (ev 1)) (AV (AG AB (AG (BK (ev 4) AB) AD)) z2)) q))
  | @spokes n m h0 h1 h2 h3=>
   have q:Φ (.bl (Lx n m a b)) O:=q
   refine AC (DZ 3 4 rfl Ce.nd (EA.wa (ts:=[.str "spokes",.int n]) (AG (AI (ts:=[.str "spokes",.int n,.int m]) (ev 0) AB) (AG (AI (ts:=[.str "spokes",.int n,.int m]) (ev 0) AB) AD)) ⟨_,_,rfl,?_⟩))
   iterate 6 refine AC (AS (k:=false) (EB.cast (Ag (ev 3) AQ) (by decide+kernel)) (fun h=>by cases h) (fun _=>Ac ?_))
   refine AC (AM 5 (ET.we (t:=.int m) (ET.cast (BP (x:=true) (tb:=.non) (EB.cast (Ag (ev 3) AQ) (by decide+kernel)) (fun _=>AI (t:=.int m) (ts:=[.str "spokes",.int n,.int m]) (ev 0) AB) (fun h=>by cases h)) rfl) ?_) Ce.nd)
   refine AC (AS (k:=decide (b<n)) (OS (ev 2) (ev 4)) (fun h=>?_) (fun h=>Ac ?_))
   ·have h:=of_decide_eq_true h
    unfold Lx at q
    rw[if_pos h] at q
    exact AF (AH (ET.we (Ek (ns:=[1,n-1]) hu (BK (ev 2) (ev 1)) (AV (AG AB (AG (BK (ev 4) AB) AD)) z2)) q))
   ·have h:=of_decide_eq_false h
    unfold Lx at q
    rw[if_neg h] at q
    refine AF (AH (ET.we (ET.cast (BP (x:=decide (a≥n)) (Xn (ev 1) (ev 4)) (fun _=>Ek (ns:=[m,n-m]) hu (BK (ev 2) (ev 1)) (AV (AG (ev 5) (AG (BK (ev 4) (ev 5)) AD)) z2)) (fun _=>HW (BK (ev 2) (ev 1)) (ev 4))) ?_) q))
    by_cases g:a≥n
    ·rw[if_pos g,if_pos (decide_eq_true g)]
    ·rw[if_neg g,if_neg (by rw[decide_eq_false g];decide)]
  | @twisted n h0 h1=>
   have q:Φ (.bl (dN n a b)) O:=q
   refine AC (DZ 3 4 rfl Ce.nd (EA.wa (ts:=[.str "twisted",.int n]) (AG (AI (ts:=[.str "twisted",.int n]) (ev 0) AB) (AG (AI (ts:=[.str "twisted",.int n]) (ev 0) AB) AD)) ⟨_,_,rfl,?_⟩))
   iterate 4 refine AC (AS (k:=false) (EB.cast (Ag (ev 3) AQ) (by decide+kernel)) (fun h=>by cases h) (fun _=>Ac ?_))
   refine AC (AS (k:=true) (EB.cast (Ag (ev 3) AQ) (by decide+kernel)) (fun _=>?_) (fun h=>by cases h))
   exact AF (AH (ET.we (Ek (ns:=[1,2*n-1,n]) hu (BK (ev 2) (ev 1)) (AV (AG AB (AG (BK (Bv AB (ev 4) (.inl ⟨by decide,by decide⟩)) AB) (AG (ev 4) AD))) z3)) q))
  | @two n m h0 h1 h2=>
   have q:Φ (.bl (dO n a b)) O:=q
   refine AC (DZ 3 4 rfl Ce.nd (EA.wa (ts:=[.str "two",.int n]) (AG (AI (ts:=[.str "two",.int n,.int m]) (ev 0) AB) (AG (AI (ts:=[.str "two",.int n,.int m]) (ev 0) AB) AD)) ⟨_,_,rfl,?_⟩))
   iterate 5 refine AC (AS (k:=false) (EB.cast (Ag (ev 3) AQ) (by decide+kernel)) (fun h=>by cases h) (fun _=>Ac ?_))
   refine AC (AS (k:=true) (EB.cast (Ag (ev 3) AQ) (by decide+kernel)) (fun _=>?_) (fun h=>by cases h))
   exact AF (AH (ET.we (FE Gp Nq (x:=decide (a<n)) (y:=decide (n≤b)) DE (fun _=>DE) (ev 1) (ev 4) fun _=>ev 2) q))
end
noncomputable def IQ(k:Kd)(many:Int)(i:Nat):List (Int×Int):=((jr (many- (0+(i:Int)+1)).toNat).filter fun(j:Nat)=>aT k (0+(i:Int)) (0+(i:Int)+1+(j:Int))).map fun(j:Nat)=> (0+(i:Int),0+(i:Int)+1+(j:Int))
noncomputable def CH(k:Kd):List (Int×Int):=(jr (CW k).1.toNat).flatMap fun i=>IQ k (CW k).1 i
noncomputable def fL(p q:Int×Int):Bool:=decide (p.1=q.1)&&decide (p.2=q.2)
theorem Tz(h:fL p q=true):p=q:=by
 unfold fL at h
 rw[ki] at h
 exact mz (of_decide_eq_true h.1) (of_decide_eq_true h.2)
noncomputable def dQ:List (Int×Int)→Bool
 |a::b::l=>decide (a.1*100+a.2<b.1*100+b.2)&&decide (0≤a.2)&&decide (a.2<100)&&dQ (b::l)
 | [a]=>decide (0≤a.2)&&decide (a.2<100)
 | []=>true
theorem UA:∀{l:List (Int×Int)},dQ l=true→l.Pairwise KU∧∀a∈l,0≤a.2∧a.2<100∧∀b∈l.tail,(l.head?=some a→KU a b)
 | [],_=> ⟨.nil,fun a h=>by cases h⟩
 | [a],h=>by
  unfold dQ at h
  simp at h
  refine⟨mZ _ _,fun b hb=>?_⟩
  rcases ju.mp hb with rfl|hb
  ·exact⟨h.1,h.2,fun c hc=>by cases hc⟩
  ·cases hb
 |a::b::l,h=>by
  unfold dQ at h
  rw[ki,ki,ki] at h
  obtain⟨⟨⟨h1,h2⟩,h3⟩,h4⟩:=h
  have h1:=of_decide_eq_true h1
  have h2:=of_decide_eq_true h2
  have h3:=of_decide_eq_true h3
  obtain⟨p,q⟩:=UA h4
  have ab:KU a b:=by
   have:=q b (j4 ..)
   unfold KU
   omega
  have all:∀c∈b::l,KU a c:=fun c hc=>by
   rcases ju.mp hc with rfl|hc
   ·exact ab
   ·have:=(oG.mp p).1 c hc
    unfold KU at*
    omega
  refine⟨oG.mpr ⟨all,p⟩,fun c hc=>?_⟩
  rcases ju.mp hc with rfl|hc
  ·exact⟨h2,h3,fun d hd _=>all d hd⟩
  ·have:=q c hc
   refine⟨this.1,this.2.1,fun d hd e=>?_⟩
   cases e
   exact all d hd
noncomputable def dR(ts ps:List (Int×Int)):Bool:=dQ ts&&ts.all (fun t=>ps.any fun p=>fL (mm p) t)&&ps.all (fun p=>ts.any fun t=>fL t (mm p))&&decide (ts.length≤200)
theorem Wv:(CO.all fun k=>dR (CH k) (CW k).2&&decide ((CW k).1≤16)&&decide (0≤(CW k).1))=true:=by decide+kernel
theorem Nb(h:KIs k):(CH k).Pairwise KU∧(∀q,q∈CH k↔q∈(CW k).2.map mm)∧(CH k).length≤200∧(CW k).1≤16∧0≤(CW k).1:=by
 have:=kA.mp Wv k h.mem
 unfold dR at this
 simp only[ki] at this
 obtain⟨⟨⟨⟨⟨h1,h2⟩,h3⟩,h4⟩,h5⟩,h6⟩:=this
 refine⟨(UA h1).1,fun q=> ⟨fun hq=>?_,fun hq=>?_⟩,of_decide_eq_true h4,of_decide_eq_true h5,of_decide_eq_true h6⟩
 ·obtain⟨p,hp,e⟩:=List.any_eq_true.mp (kA.mp h2 q hq)
  exact jw.mpr ⟨p,hp,Tz e⟩
 ·obtain⟨p,hp,rfl⟩:=jw.mp hq
  obtain⟨t,ht,e⟩:=List.any_eq_true.mp (kA.mp h3 p hp)
  rw[←Tz e]
  exact ht
theorem Nc(h:KIs k)(h1:rs.Pairwise KU)(h2:∀q,q∈rs↔q∈(CW k).2.map mm):rs=CH k:=Vo h1 (Nb h).1 fun z=> (h2 z).trans ((Nb h).2.1 z).symm
noncomputable def IR(n:Int):List (Str×T):=[("cube",.int (1*2^n.toNat)),("full",.int n),("ladder",.int (2*n)),("lines",.int 14),("ring",.int n),("spokes",.int (2*n)),("twisted",.int (2*n))]
theorem Ww:IE (IR n) "cube" =some (.int (1*2^n.toNat)):=rfl
theorem Wx:IE (IR n) "full" =some (.int n):=rfl
theorem Qb:IE (IR n) "ladder" =some (.int (2*n)):=rfl
theorem UB:IE (IR n) "lines" =some (.int 14):=rfl
theorem Wy:IE (IR n) "ring" =some (.int n):=rfl
theorem Qc:IE (IR n) "spokes" =some (.int (2*n)):=rfl
theorem Nd:IE (IR n) "twisted" =some (.int (2*n)):=rfl
theorem dS:(Ah ["_law_b"] [(("_law_kind" :Str),0),(("_law_a" :Str),6)]).Nodup:=by decide+kernel
noncomputable def hZ:List Str:=["_law_kind","_law_word","_law_n","_law_most","_law_many","_law_ties","_law_a"]
section
variable {P:Program} {w:World} {K:a8} {mg:Str→Option Value} {base:Heap} {f:Addr} {cdv:Value} {A:j6} {outer:List Env} {s:Shared} {H H1:Hp} {E:XK} {O:AO} {Ξ:Value→AO→Prop}
noncomputable abbrev iX(P:Program)(w:World)(K:a8)(mg:Str→Option Value)(base:Heap)(f:Addr)(cdv:Value)(A:j6)(outer:List Env)(s:Shared)(H:Hp)(E:XK)(O:AO)(H1:Hp)(Ξ:Value→AO→Prop):Zx:=
 ⟨CM (CXe P w) P w K mg base hZ "_law_kind_web" (AA GM) f cdv A outer s H E,O,H1,Ξ⟩
theorem GB:FnScope hZ ["_law_kind"] (AA GM):=⟨rfl,rfl,rfl,by decide+kernel,rfl,by decide+kernel,by decide+kernel⟩
noncomputable def iA(i:Nat):Stmt:=(Ae GM).getD i (.Pass ⟨0,0,0,0⟩)
theorem UC:T.int (2*n)=T.int (n*2):=by rw[Int.mul_comm]
theorem Wz(D:DcAt P w K d (IR n) O H1)(hk:KIs k)(hn:k.2.getD 0 0=n):
  HET (iX P w K mg base f cdv A outer s H E O H1 Ξ) [some (kT k),some (.str k.1),some (.int n),some (.raw (.ref d)),none,none,none] O (gm (iA 2)) (.int (CW k).1):=by
 refine⟨?_⟩
 subst hn
 cases hk with
 | @cube n h0 h1=>exact ET.cast (BP (x:=true) (tb:=.non) (EB.cast (DY D (ev 1) (ev 3)) rfl) (fun _=>DW D Ww (ev 3) (ev 1)) (fun h=>by cases h)) rfl
 | @full n h0 h1=>exact ET.cast (BP (x:=true) (tb:=.non) (EB.cast (DY D (ev 1) (ev 3)) rfl) (fun _=>DW D Wx (ev 3) (ev 1)) (fun h=>by cases h)) rfl
 | @ladder n h0 h1=>exact ET.cast (BP (x:=true) (tb:=.non) (EB.cast (DY D (ev 1) (ev 3)) rfl) (fun _=>DW D Qb (ev 3) (ev 1)) (fun h=>by cases h)) UC
 |lines=>exact ET.cast (BP (x:=true) (tb:=.non) (EB.cast (DY D (ev 1) (ev 3)) rfl) (fun _=>DW D UB (ev 3) (ev 1)) (fun h=>by cases h)) rfl
 | @ring n h0 h1=>exact ET.cast (BP (x:=true) (tb:=.non) (EB.cast (DY D (ev 1) (ev 3)) rfl) (fun _=>DW D Wy (ev 3) (ev 1)) (fun h=>by cases h)) rfl
 | @spokes n m h0 h1 h2 h3=>exact ET.cast (BP (x:=true) (tb:=.non) (EB.cast (DY D (ev 1) (ev 3)) rfl) (fun _=>DW D Qc (ev 3) (ev 1)) (fun h=>by cases h)) UC
 | @twisted n h0 h1=>exact ET.cast (BP (x:=true) (tb:=.non) (EB.cast (DY D (ev 1) (ev 3)) rfl) (fun _=>DW D Nd (ev 3) (ev 1)) (fun h=>by cases h)) UC
 | @two n m h0 h1 h2=>exact ET.cast (BP (x:=false) (ta:=.non) (EB.cast (DY D (ev 1) (ev 3)) rfl) (fun h=>by cases h) (fun _=>As (ev 2) (AI (t:=.int m) (ts:=[.str "two",.int n,.int m]) (ev 0) AB))) rfl
theorem Ly(h:m≤16):(IQ k m i).length≤16:=by
 unfold IQ
 rw[b9]
 exact kO (lO ..) (by rw[kr];omega)
theorem XA(hr:Room 1 (A.deeper (nI "_law_kind_web" (AA GM) s.heap.objs.size f cdv)))(Tx:Txt mg)(Gt:FnT P w K mg base "_law_kind_tie" 1 ["_law_kind","_law_a","_law_b"] Na)(D:DcAt P w K d (IR n) O H1)(hk:KIs k)(hn:k.2.getD 0 0=n)(q:Ψ.rt (Cv (CW k).1 (CH k)) O):
  HS (iX P w K mg base f cdv A outer s H E O H1 Ξ) [some (kT k),some (.str k.1),some (.int n),some (.raw (.ref d)),none,none,none] O ((Ae GM).drop 2) Ψ:=by
 have sb:=AN
 obtain⟨_,_,_,m1,m0⟩:=Nb hk
 have hm:=Wz (P:=P) (w:=w) (mg:=mg) (base:=base) (f:=f) (cdv:=cdv) (A:=A) (outer:=outer) (s:=s) (H:=H) (E:=E) (Ξ:=Ξ) D hk hn
 have q:Ψ.rt (Cv (CW k).1 ((jr (CW k).1.toNat).flatMap fun i=>IQ k (CW k).1 i)) O:=q
 generalize (CW k).1=M at m1 m0 hm q
 refine Aa (AM 4 (ET.we hm.out ?_) GB.nd)
 refine Aa (AM 5 (Bo (BC ⟨kZ _,fun l hlO=>?_⟩)) GB.nd)
 refine Aa (BQ Af.own rfl (EI.wi (Ad Tx.nRange (ev 4) ⟨by omega,by omega⟩) ⟨fun i ρ' O'=>i≤16∧∃v6:Option T,ρ'=[some (kT k),some (.str k.1),some (.int n),some (.raw (.ref d)),some (.int M),some (.raw (.ref l)),v6]∧O'=Am O l (((jr i).flatMap fun i=>IQ k M i).map AU),⟨by omega,none,rfl,by rw[qD];rfl⟩,?_,?_⟩))
 ·rintro i t _ _ e ⟨_,v6,rfl,rfl⟩
  obtain⟨hi,rfl⟩:=Br e
  have hlen:=BR (f:=fun i=>IQ k M i) (m:=16) (l:=jr i) fun x hx=>Ly m1
  rw[kr] at hlen
  refine⟨[some (kT k),some (.str k.1),some (.int n),some (.raw (.ref d)),some (.int M),some (.raw (.ref l)),some (.int (0+(i:Int)))],AK 6 GB.nd (by show 6<7;decide),?_⟩
  refine AF (BI (BE (ET.we (ev 5) ⟨l,rfl,⟨_,AE⟩,ET.we (t:=.lst ((IQ k M i).map AU)) (ET.cast (Du ["_law_b"] [("_law_kind",0),("_law_a",6)] (jr (M- (0+(i:Int)+1)).toNat) (fun j=> .int (0+(i:Int)+1+(j:Int))) (fun j=>AU (0+(i:Int),0+(i:Int)+1+(j:Int))) (fun(j:Nat)=>aT k (0+(i:Int)) (0+(i:Int)+1+(j:Int))) rfl (Ba (AA GM) hZ (by decide+kernel)) (Bf Tx.nRange (As (ev 6) AB) (ev 4) ⟨by omega,by omega,by omega,by omega⟩) (by rw[kr];omega) fun x hx=> ⟨[some (.int (0+(i:Int)+1+(x:Int))),some (kT k),some (.int (0+(i:Int)))],fun X' Oe He is O'=>?_⟩) ?_) ⟨_,_,rfl,AE,?_,?_⟩⟩)))
  ·obtain⟨cl,s',H',fp,rfl⟩:=is
   exact⟨AK 0 dS (by decide),Dq (Aj Gt hr BV (AG (ev 1) (AG (ev 2) (AG (ev 0) AD))) ⟨k,_,_,rfl,hk,rfl⟩),fun _=>Ck (ev 2) (ev 0)⟩
  ·unfold IQ
   rw[kI]
   rfl
  ·have:=Ly (k:=k) (i:=i) m1
   rw[b9,b9]
   omega
  ·refine⟨by omega,_,rfl,?_⟩
   rw[Aq,Bx (f:=fun i=>IQ k M i),kl]
 ·rintro _ _ ⟨_,v6,rfl,rfl⟩
  rw[Ar]
  refine HS.mk ?_
  refine BD (p:=l) (n:=5) AE hlO rfl ?_
  rw[Al hlO]
  exact AF (AH (ET.we (AV (ts:=[.int M,.tup (((jr M.toNat).flatMap fun i=>IQ k M i).map AU)]) (AG (ev 4) (AG (LU Tx.nTuple (ev 5)) AD)) (by show 2≤sizeLine;decide)) q))
noncomputable def Nf:CV:=FX fun ts r=>∃k,ts=[kT k]∧KIs k∧r=Cv (CW k).1 (CH k)
theorem XB(F:Fun K "_law_kind_web" "_law_kind_web" GM f fd)(Tx:Txt mg)(Gt:FnT P w K mg base "_law_kind_tie" 1 ["_law_kind","_law_a","_law_b"] Na):FnOk P w K mg base (CXe P w) 2 f fd ["_law_kind"] (Cf K Nf):=by
 refine Gc F GB ?_ ?_
 ·rintro ts O Φ Ξ ⟨r,⟨k,rfl,_⟩,_⟩
  rfl
 ·rintro cdv A outer s H E O Ξ hr xf _ Φ ⟨_,⟨k,rfl,hk,rfl⟩,q⟩
  obtain⟨y,n,ns,rfl,n0,n1⟩:∃(y:Str) (n:Int) (ns:List Int),k=(y,n::ns)∧0≤n∧n≤16:=by
   cases hk<;>exact⟨_,_,_,rfl,by omega,by omega⟩
  refine Aa (DZ 1 2 rfl GB.nd (EA.wa (ts:=[.str y,.int n]) (AG (AI (ts:=.str y::.int n::ns.map T.int) (ev 0) AB (An (j:=0) rfl)) (AG (AI (ts:=.str y::.int n::ns.map T.int) (ev 0) AB (An (j:=1) rfl)) AD)) ⟨_,_,rfl,?_⟩))
  refine Lv (i:=3) (qs:=IR n) (.cons ⟨Jt AB (ev 2) ⟨n0,by omega,by decide⟩⟩ (.cons (.var 2) (.cons ⟨Bv AB (ev 2) (.inl ⟨by decide,by decide⟩)⟩ (.cons .int (.cons (.var 2) (.cons ⟨Bv AB (ev 2) (.inl ⟨by decide,by decide⟩)⟩ (.cons ⟨Bv AB (ev 2) (.inl ⟨by decide,by decide⟩)⟩ .nil))))))) (show((["cube","full","ladder","lines","ring","spokes","twisted"]:List Str)).Nodup by decide+kernel) GB.nd xf ?_
  intro d H1 D xf1
  exact XA (P:=P) (w:=w) (base:=base) (f:=f) (cdv:=cdv) (A:=A) (outer:=outer) (s:=s) (H:=H) (E:=E) (Ξ:=Ξ) (k:=(y,n::ns)) hr Tx Gt D hk rfl q
end
noncomputable abbrev KI:Stmt:=top 16
noncomputable abbrev JB:Stmt:=top 17
open Gr
section
variable {K:a8}
noncomputable def BF(qs:List (Int×Int))(i:Nat):List Int:=qs.filterMap fun p=>if p.1=(i:Int) then some p.2 else if p.2=(i:Int) then some p.1 else none
theorem Lz:BF (qs++[p]) i=BF qs i++(if p.1=(i:Int) then[p.2] else if p.2=(i:Int) then[p.1] else[]):=by
 unfold BF
 rw[List.filterMap_append]
 congr 1
 by_cases h:p.1=(i:Int)
 ·simp[h]
 ·by_cases h2:p.2=(i:Int)
  ·simp[h,h2]
  ·simp[h,h2]
theorem El:(BF qs i).length≤qs.length:=List.length_filterMap_le ..
noncomputable def Hs(n:Int)(ps:List (Int×Int)):T:=.lst ((jr n.toNat).map fun i=> .lst ((BF ps i).map T.int))
structure Nst(n:Int)(O:AO)(l:Addr)(qs:List (Int×Int))(rs:List (Addr×List T)):Prop where
 len:(rs.length:Int)=n
 nd:(rs.map ni).Nodup
 ne:∀r∈rs,r.1≠l
 fr:∀r∈rs,O r.1=none
 val:∀(i:Nat) r,rs[i]?=some r→r.2=(BF qs i).map T.int
theorem FS{rs:List (Addr×List T)}(h:rs[i]?=some r):(rs.set i (r.1,vs)).map ni=rs.map ni:=Vr (us:=r.2) h
theorem dU(e:rs[i]?=some r)(hn:(rs.map ni).Nodup)(hl:∀r∈rs,r.1≠l):
  Am (Am (KW O rs) l (rs.map IM)) r.1 us=Am (KW O (rs.set i (r.1,us))) l ((rs.set i (r.1,us)).map IM):=by
 rw[FF (hl r (i7 e)),Vq (us:=r.2) hn e]
 congr 1
 have:=FS (vs:=us) e
 have e1:∀rs:List (Addr×List T),rs.map IM=(rs.map ni).map fun a=>T.raw (.ref a):=fun rs=>by rw[kI];rfl
 rw[e1,e1,this]
theorem Nst.set2(h:Nst n O l qs rs){b:Nat}(hab:a≠b)(ea:rs[a]?=some ra)(eb:rs[b]?=some rb):
  Nst n O l (qs++[((a:Int),(b:Int))]) ((rs.set a (ra.1,ra.2++[T.int b])).set b (rb.1,rb.2++[T.int a])):=by
 have eb':(rs.set a (ra.1,ra.2++[T.int b]))[b]?=some rb:=by rw[j7 hab];exact eb
 have m1:=FS (vs:=ra.2++[T.int b]) ea
 have m2:=FS (vs:=rb.2++[T.int a]) eb'
 have hm:∀r∈((rs.set a (ra.1,ra.2++[T.int b])).set b (rb.1,rb.2++[T.int a])),∃r'∈rs,r'.1=r.1:=fun r hr=>by
  have:r.1∈(((rs.set a (ra.1,ra.2++[T.int b])).set b (rb.1,rb.2++[T.int a])).map ni):=qH hr
  rw[m2,m1] at this
  obtain⟨r',h1,h2⟩:=jw.mp this
  exact⟨r',h1,h2⟩
 refine⟨by rw[nJ,nJ];exact h.len,by rw[m2,m1];exact h.nd,fun r hr=>?_,fun r hr=>?_,fun i r e=>?_⟩
 ·obtain⟨r',h1,h2⟩:=hm r hr
  rw[←h2];exact h.ne r' h1
 ·obtain⟨r',h1,h2⟩:=hm r hr
  rw[←h2];exact h.fr r' h1
 ·have la:=(jn.mp ea).1
  have lb:=(jn.mp eb).1
  rw[Lz,kl]
  by_cases h1:i=b
  ·subst h1
   rw[kB (by rw[nJ];exact lb)] at e
   cases e
   have:¬((a:Int)=(i:Int)):=by omega
   show rb.2++[T.int a]=_
   rw[h.val i rb eb]
   simp[this]
  ·rw[j7 (fun z=>h1 z.symm)] at e
   by_cases h2:i=a
   ·subst h2
    rw[kB la] at e
    cases e
    show ra.2++[T.int b]=_
    rw[h.val i ra ea]
    simp
   ·rw[j7 (fun z=>h2 z.symm)] at e
    have n1:¬((a:Int)=(i:Int)):=by omega
    have n2:¬((b:Int)=(i:Int)):=by omega
    rw[h.val i r e]
    simp[n1,n2]
theorem Nst.tree(h:Nst n O l ps rs):T.lst (rs.map fun r=>T.lst r.2)=Hs n ps:=by
 have hl:=h.len
 unfold Hs
 congr 1
 apply lN
 intro i
 rw[i6,i6]
 by_cases hi:i<rs.length
 ·rw[jv hi,pq (by omega)]
  show some (T.lst rs[i].2)=_
  rw[h.val i rs[i] (jv hi)]
  rfl
 ·rw[mn (by omega),mn (by rw[kr];omega)]
  rfl
noncomputable def KJ:CV:=FX fun ts r=>∃n ps,ts=[Cv n ps]∧0≤n∧n≤200∧Sd n ps∧ps.length≤200∧r=Hs n ps
theorem KL:FnScope ["web","nears","a","b"] ["web"] (AA KI):=⟨rfl,rfl,rfl,by decide+kernel,rfl,by decide+kernel,by decide+kernel⟩
theorem dW:(Ah ["place"] []).Nodup:=by decide+kernel
theorem UD(F:Fun K "nears_of" "nears_of" KI f fd)(Tx:Txt mg):FnOk P w K mg base (CXe P w) 1 f fd ["web"] (Cf K KJ):=by
 refine AY F KL ?_ ?_
 ·rintro ts O Φ Ξ ⟨r,⟨n,ps,rfl,_⟩,_⟩
  rfl
 ·rintro cdv A outer s H E O Ξ hr xf _ Φ ⟨_,⟨n,ps,rfl,n0,n1,hw,hl,rfl⟩,q⟩
  have sb:=AN
  refine AC (Iv (i:=1) (nc:=["place"]) (cap:=[]) (by rfl) KL.nd rfl (Ba (AA KI) ["web","nears","a","b"] (by decide+kernel)) (EI.wi (Ad Tx.nRange (AI (ev 0) AB) ⟨by omega,by omega⟩) ?_))
  refine⟨fun i acc O'=>i≤200∧∃as:List Addr,acc=(as.map fun a=> (a,([]:List T))).map IM∧as.length=i∧as.Nodup∧(∀a∈as,O a=none)∧O'=KW O (as.map fun a=> (a,[])),⟨by omega,[],rfl,rfl,by simp,(fun _ h=>by cases h),rfl⟩,?_,?_⟩
  ·rintro i t acc O' c e ⟨_,as,rfl,hal,hnd,hfr,rfl⟩ hc
   obtain⟨hi,rfl⟩:=Br e
   refine⟨[some (.int (0+(i:Int)))],fun X' Oe He is=> ⟨?_,Ji (JP fun X' Oe He is=>?_)⟩⟩
   ·obtain⟨cl,s',H',fp,rfl⟩:=is
    exact AK 0 dW (by decide)
   ·obtain⟨cl,s',H',fp,rfl⟩:=is
    refine Bo (BC ⟨kZ _,fun p hp=>?_⟩)
    have hpc:p≠c:=fun z=>by rw[z,AE] at hp;cases hp
    rw[Ai hpc] at hp
    have hpa:p∉as:=fun z=>by
     rw[Eg (rs:=as.map fun a=> (a,[])) (r:=(p,[])) (by rw[kI];simpa[Function.comp_def] using hnd) (qH z)] at hp
     cases hp
    have hpO:O p=none:=by
     rw[EN fun r hr=>by
      obtain⟨a,ha,rfl⟩:=jw.mp hr
      exact fun z=>hpa (z▸ha)] at hp
     exact hp
    refine⟨Am (KW O (as.map fun a=> (a,[]))) p [],FF hpc,by rw[Ai hpc.symm];exact hc,by rw[b9,b9];omega,by omega,as++[p],by rw[kl,kl];rfl,by simp;omega,?_,fun a ha=>?_,?_⟩
    ·rw[n6]
     refine⟨hnd,by simp,fun a ha b hb z=>?_⟩
     rw[jz.mp hb] at z
     exact hpa (z▸ha)
    ·rcases kj.mp ha with ha|ha
     ·exact hfr a ha
     ·rw[jz.mp ha];exact hpO
    ·rw[kl];exact(SZ (r:=(p,[]))).symm
  ·rintro acc O' ⟨_,as,rfl,hal,hnd,hfr,rfl⟩ l hlO
   rw[Ar] at hal
   have hkeys:((as.map fun a=> (a,([]:List T))).map ni)=as:=by rw[kI];simp[Function.comp_def]
   have nst0:Nst n O l [] (as.map fun a=> (a,([]:List T))):=by
    refine⟨by rw[b9];omega,by rw[hkeys];exact hnd,fun r hr z=>?_,fun r hr=>?_,fun i r e=>?_⟩
    ·rw[←z,Eg (by rw[hkeys];exact hnd) hr] at hlO
     cases hlO
    ·obtain⟨a,ha,rfl⟩:=jw.mp hr
     exact hfr a ha
    ·have:=i7 e
     obtain⟨a,ha,rfl⟩:=jw.mp this
     rfl
   have hlO':O l=none:=by
    rw[EN nst0.ne] at hlO
    exact hlO
   refine AC (BQ Af.own rfl (EI.wi (DU (AI (ev 0) AB)) ⟨fun j ρ' O'=>∃rs v2 v3,ρ'=[some (Cv n ps),some (.raw (.ref l)),v2,v3]∧O'=Am (KW O rs) l (rs.map IM)∧Nst n O l (ps.take j) rs,⟨_,none,none,rfl,rfl,by rw[rf];exact nst0⟩,?_,?_⟩))
   ·rintro j t _ _ e ⟨rs,v2,v3,rfl,rfl,nst⟩
    rw[i6] at e
    cases ec:ps[j]? with
    |none=>rw[ec] at e;cases e
    |some z=>
     rw[ec] at e
     cases e
     have hb:=hw z (i7 ec)
     have hlen:=nst.len
     have htl:(ps.take j).length≤200:=by rw[kH];omega
     obtain⟨a,ea⟩:=kM hb.1
     obtain⟨b,eb⟩:=kM (show 0≤z.2 by omega)
     have ha:a<rs.length:=by omega
     have hb':b<rs.length:=by omega
     have hab:a≠b:=by omega
     have ga:=jv ha
     have gb:(rs.set a (rs[a].1,rs[a].2++[T.int b]))[b]?=some rs[b]:=by rw[j7 hab];exact jv hb'
     have m1:=FS (vs:=rs[a].2++[T.int b]) ga
     have nd1:((rs.set a (rs[a].1,rs[a].2++[T.int b])).map ni).Nodup:=by rw[m1];exact nst.nd
     have ne1:∀r∈rs.set a (rs[a].1,rs[a].2++[T.int b]),r.1≠l:=fun r hr=>by
      have:r.1∈(rs.set a (rs[a].1,rs[a].2++[T.int b])).map ni:=qH hr
      rw[m1] at this
      obtain⟨r',h1,h2⟩:=jw.mp this
      rw[←h2];exact nst.ne r' h1
     have la:rs[a].2.length≤200:=by rw[nst.val a rs[a] ga,b9];exact kO El htl
     have lb:rs[b].2.length≤200:=by rw[nst.val b rs[b] (jv hb'),b9];exact kO El htl
     have ez:z=((a:Int),(b:Int)):=by rw[←ea,←eb]
     subst ez
     refine⟨[some (Cv n ps),some (.raw (.ref l)),some (.int a),some (.int b)],GZ 2 3 rfl KL.nd (by show 2<4;decide) (by show 3<4;decide),?_⟩
     refine AC (BI (Fp (ET.we (DT (ts:=rs.map IM) AE (ev 1) (ev 2) (An (by rw[i6,ga];rfl))) ⟨rs[a].1,rfl,⟨rs[a].2,?_⟩,ET.we (ev 3) ⟨rs[a].2,?_,by omega,?_⟩⟩)))
     ·rw[Ai (nst.ne _ (mJ ha))];exact Eg nst.nd (mJ ha)
     ·rw[Ai (nst.ne _ (mJ ha))];exact Eg nst.nd (mJ ha)
     ·rw[dU ga nst.nd nst.ne]
      refine AF (BI (Fp (ET.we (DT (ts:=(rs.set a (rs[a].1,rs[a].2++[T.int b])).map IM) AE (ev 1) (ev 3) (An (by rw[i6,gb];rfl))) ⟨rs[b].1,rfl,⟨rs[b].2,?_⟩,ET.we (ev 2) ⟨rs[b].2,?_,by omega,?_⟩⟩)))
      ·rw[Ai (ne1 _ (i7 gb))];exact Eg nd1 (i7 gb)
      ·rw[Ai (ne1 _ (i7 gb))];exact Eg nd1 (i7 gb)
      ·rw[dU gb nd1 ne1]
       refine⟨_,_,_,rfl,rfl,?_⟩
       have:ps.take (j+1)=ps.take j++[((a:Int),(b:Int))]:=by
        rw[lM,ec];rfl
       rw[this]
       exact nst.set2 hab ga (jv hb')
   ·rintro _ _ ⟨rs,v2,v3,rfl,rfl,nst⟩
    rw[b9,lQ] at nst
    refine Sb nst.nd nst.ne nst.fr nst.fr ?_
    refine BD (p:=l) (n:=1) (ts:=rs.map fun r=>T.lst r.2) AE hlO' rfl ?_
    rw[Al hlO']
    refine AF (AH (ET.we (ev 1) ?_))
    show Φ (T.lst (rs.map fun r=>T.lst r.2)) O
    rw[nst.tree]
    exact q
end
section
variable {P:Program} {w:World} {K:a8} {mg:Str→Option Value} {base:Heap}
theorem JC(hw:Sd n ps):v∈BF ps i↔Adj ps (i:Int) v:=by
 unfold BF Adj
 rw[nA]
 constructor
 ·rintro⟨p,hp,e⟩
  by_cases h:p.1=(i:Int)
  ·rw[if_pos h] at e
   cases e
   exact .inl (by rw[←h];exact hp)
  ·rw[if_neg h] at e
   by_cases h2:p.2=(i:Int)
   ·rw[if_pos h2] at e
    cases e
    exact .inr (by rw[←h2];exact hp)
   ·rw[if_neg h2] at e;cases e
 ·rintro(h|h)
  ·exact⟨_,h,by simp⟩
  ·have:=hw _ h
   simp only at this
   exact⟨_,h,by rw[if_neg (by omega)];simp⟩
theorem Gg(h:i<m):RM m (i:Int)=some i:=by
 unfold RM
 rw[if_pos (by omega),if_pos (by omega)]
 rfl
structure WebN(n:Int)(ps:List (Int×Int)):Prop where
 n0:0≤n
 n1:n≤200
 hw:Sd n ps
 hl:ps.length≤200
noncomputable def Ap:Option Nat→T
 |none=> .non
 |some d=> .int d
theorem FT:DF (Ap x)=false:=by cases x<;>rfl
theorem MA:De (Ap x)=x.isNone:=by cases x<;>rfl
noncomputable def UE:List Str:=["nears","starts","fars","start","border","steps","beyond","place","near"]
theorem Cw:FnScope UE ["nears","starts"] (AA JB):=⟨rfl,rfl,rfl,by decide+kernel,rfl,by decide+kernel,by decide+kernel⟩
theorem dX:(Ah ["near"] []).Nodup:=by decide+kernel
noncomputable def iY(i:Nat):Stmt:=(Ae JB).getD i (.Pass ⟨0,0,0,0⟩)
noncomputable def JD:Stmt→List Stmt
 | .While _ b _ _=>b
 | .For _ _ b _ _=>b
 |_=> []
noncomputable def dY(i:Nat):Stmt:=(JD (iY 4)).getD i (.Pass ⟨0,0,0,0⟩)
variable {f:Addr} {cdv:Value} {A:j6} {outer:List Env} {s:Shared} {H:Hp} {E:XK} {O:AO} {Ξ:Value→AO→Prop} {l lb:Addr}
noncomputable abbrev zF(P:Program)(w:World)(K:a8)(mg:Str→Option Value)(base:Heap)(f:Addr)(cdv:Value)(A:j6)(outer:List Env)(s:Shared)(H:Hp)(E:XK)(O:AO)(Ξ:Value→AO→Prop):Zx:=zB P w K mg base UE "fars_from" (AA JB) f cdv A outer s H E O Ξ
noncomputable abbrev GT(O:AO)(l lb:Addr)(fs:List (Option Nat))(BY:List Int):AO:=Am (Am O l (fs.map Ap)) lb (BY.map T.int)
end
theorem UF:IsD ps S v 0↔v∈S:=by
 constructor
 ·rintro⟨w,_⟩
  cases w with
  |«at» h=>exact h
 ·intro h
  exact⟨.at h,fun j hj=>by omega⟩
end K40
namespace GrR
open L2.TL
variable {R:Int→Int→Prop} {n:Int} {S:List Int} {v u:Int} {d e s k:Nat} {fs:List (Option Nat)} {BY ds:List Int}
inductive W(R:Int→Int→Prop)(S:List Int):Nat→Int→Prop
 |at{v:Int}:v∈S→W R S 0 v
 |go {k:Nat} {u v:Int}:W R S k u→R u v→W R S (k+1) v
noncomputable def IsD(R:Int→Int→Prop)(S:List Int)(v:Int)(d:Nat):Prop:=W R S d v∧∀j,j<d→¬W R S j v
theorem IsD.uniq(a:IsD R S v d)(b:IsD R S v e):d=e:=by
 rcases nj d e with h|h|h
 ·exact absurd a.1 (b.2 d h)
 ·exact h
 ·exact absurd b.1 (a.2 e h)
theorem W.least(h:W R S k v):∃d,d≤k∧IsD R S v d:=by
 induction k using sH with
 |_ k ih=>
  by_cases hx:∃j,j<k∧W R S j v
  ·obtain⟨j,hj,w⟩:=hx
   obtain⟨d,hd,i⟩:=ih j hj w
   exact⟨d,by omega,i⟩
  ·exact⟨k,jm _,h,fun j hj w=>hx ⟨j,hj,w⟩⟩
theorem IsD.prev(h:IsD R S v (s+1)):∃u,IsD R S u s∧R u v:=by
 obtain⟨w,m⟩:=h
 cases w with
 |go w a=>exact⟨_,⟨w,fun j hj w'=>m (j+1) (by omega) (.go w' a)⟩,a⟩
theorem IsD.down(h:IsD R S v (s+k)):∃u,IsD R S u s:=by
 induction k generalizing v with
 |zero=>exact⟨v,h⟩
 |succ k ih=>
  obtain⟨u,hu,_⟩:=IsD.prev (s:=s+k) h
  exact ih hu
noncomputable def dZ(n:Int)(R:Int→Int→Prop):Prop:=∀u v,R u v→0≤v∧v<n
theorem W.inb(hw:dZ n R)(hS:∀z∈S,0≤z∧z<n)(h:W R S k v):0≤v∧v<n:=by
 cases h with
 |«at» h=>exact hS _ h
 |go _ a=>exact hw _ _ a
theorem IsD.lt(hw:dZ n R)(hS:∀z∈S,0≤z∧z<n)(h:IsD R S v s):(s:Int)<n:=by
 have key:∃L:List Nat,L.length=s+1∧L.Nodup∧∀u∈L,∃i,i≤s∧IsD R S (u:Int) i:=by
  induction s generalizing v with
  |zero=>
   have:=h.1.inb hw hS
   refine⟨[v.toNat],rfl,by simp,fun u hu=> ⟨0,jm _,?_⟩⟩
   rw[jz.mp hu,nK this.1]
   exact h
  |succ s ih=>
   obtain⟨u,hu,_⟩:=h.prev
   obtain⟨L,l1,l2,l3⟩:=ih hu
   have hb:=h.1.inb hw hS
   refine⟨v.toNat::L,by simp[l1],mE.mpr ⟨fun hm=>?_,l2⟩,fun z hz=>?_⟩
   ·obtain⟨i,hi,q⟩:=l3 _ hm
    rw[nK hb.1] at q
    have:=q.uniq h
    omega
   ·rcases ju.mp hz with rfl|hz
    ·exact⟨s+1,jm _,by rw[nK hb.1];exact h⟩
    ·obtain⟨i,hi,q⟩:=l3 z hz
     exact⟨i,by omega,q⟩
 obtain⟨L,l1,l2,l3⟩:=key
 have:=StT.Be n.toNat L l2 (fun x hx=>by
  obtain⟨i,_,q⟩:=l3 x hx
  have:=q.1.inb hw hS
  omega)
 omega
structure Fr(n:Int)(R:Int→Int→Prop)(S:List Int)(s:Nat)(fs:List (Option Nat)):Prop where
 len:(fs.length:Int)=n
 eq:∀v:Int,0≤v→v<n→∀d,fs[v.toNat]?=some (some d)↔(d≤s∧IsD R S v d)
structure All(n:Int)(R:Int→Int→Prop)(S:List Int)(fs:List (Option Nat)):Prop where
 len:(fs.length:Int)=n
 eq:∀v:Int,0≤v→v<n→∀d,fs[v.toNat]?=some (some d)↔IsD R S v d
theorem Fr.all_end(h:Fr n R S s fs)(e:∀v,¬IsD R S v s):All n R S fs:=⟨h.len,fun v v0 v1 d=>by
 rw[h.eq v v0 v1 d]
 refine⟨fun z=>z.2,fun z=> ⟨?_,z⟩⟩
 by_cases hd:d≤s
 ·exact hd
 ·obtain⟨k,rfl⟩:∃k,d=s+k:=⟨d-s,by omega⟩
  obtain⟨u,hu⟩:=z.down
  exact absurd hu (e u)⟩
theorem XC(hl:(fs.length:Int)=n)(h:∀v:Int,0≤v→v<n→∀d,fs[v.toNat]?=some (some d)↔(d=0∧v∈S)):Fr n R S 0 fs:=⟨hl,fun v v0 v1 d=>by
 rw[h v v0 v1 d]
 constructor
 ·rintro⟨rfl,hv⟩
  exact⟨jm _,.at hv,fun j hj=>by omega⟩
 ·rintro⟨hd,w,_⟩
  have:d=0:=by omega
  subst this
  cases w with
  |«at» h=>exact⟨rfl,h⟩⟩
structure Mid(n:Int)(R:Int→Int→Prop)(S:List Int)(s:Nat)(fs:List (Option Nat))(BY ds:List Int):Prop where
 len:(fs.length:Int)=n
 eq:∀v:Int,0≤v→v<n→∀d,fs[v.toNat]?=some (some d)↔((d≤s∧IsD R S v d)∨(d=s+1∧v∈BY))
 sub:∀v∈BY,IsD R S v (s+1)
 dn:∀v∈ds,0≤v∧v<n∧∃d,fs[v.toNat]?=some (some d)
theorem Fr.mid(h:Fr n R S s fs):Mid n R S s fs [] []:=⟨h.len,fun v v0 v1 d=>by
 rw[h.eq v v0 v1 d]
 simp,(fun _ h=>by cases h),(fun _ h=>by cases h)⟩
theorem Mid.miss(m:Mid n R S s fs BY ds)(v0:0≤v)(v1:v<n)(h:fs[v.toNat]?=some (some d)):Mid n R S s fs BY (ds++[v]):=⟨m.len,m.eq,m.sub,fun z hz=>by
 rcases kj.mp hz with hz|hz
 ·exact m.dn z hz
 ·rw[jz.mp hz];exact⟨v0,v1,d,h⟩⟩
theorem Mid.hit(m:Mid n R S s fs BY ds)(v0:0≤v)(v1:v<n)(hn:fs[v.toNat]?=some none)(hu:IsD R S u s)(a:R u v):Mid n R S s (fs.set v.toNat (some (s+1))) (BY++[v]) (ds++[v]):=by
 have hl:=m.len
 have hlt:v.toNat<fs.length:=by omega
 have iv:IsD R S v (s+1):=by
  refine⟨.go hu.1 a,fun j hj w=>?_⟩
  obtain⟨d,hd,i⟩:=w.least
  have:=(m.eq v v0 v1 d).mpr (.inl ⟨by omega,i⟩)
  rw[hn] at this
  cases this
 have key:∀w:Int,0≤w→w<n→w≠v→(fs.set v.toNat (some (s+1)))[w.toNat]?=fs[w.toNat]?:=fun w w0 w1 h=>j7 (by omega)
 refine⟨by rw[nJ];exact hl,fun w w0 w1 d=>?_,fun w hw=>?_,fun w hw=>?_⟩
 ·by_cases h:w=v
  ·subst h
   rw[kB hlt]
   constructor
   ·intro z
    have:d=s+1:=by cases z;rfl
    exact .inr ⟨this,by simp⟩
   ·rintro(z|z)
    ·have:=z.2.uniq iv
     omega
    ·rw[z.1]
  ·rw[key w w0 w1 h,m.eq w w0 w1 d]
   have:w∈BY++[v]↔w∈BY:=by simp[h]
   rw[this]
 ·rcases kj.mp hw with hw|hw
  ·exact m.sub w hw
  ·rw[jz.mp hw];exact iv
 ·rcases kj.mp hw with hw|hw
  ·obtain⟨w0,w1,d,hd⟩:=m.dn w hw
   refine⟨w0,w1,?_⟩
   by_cases h:w=v
   ·subst h;exact⟨_,kB hlt⟩
   ·exact⟨d,by rw[key w w0 w1 h];exact hd⟩
  ·rw[jz.mp hw];exact⟨v0,v1,_,kB hlt⟩
theorem Mid.done(m:Mid n R S s fs BY ds)(h:∀u v,IsD R S u s→R u v→v∈ds):Fr n R S (s+1) fs∧∀v,v∈BY↔IsD R S v (s+1):=by
 have key:∀v,IsD R S v (s+1)→v∈BY:=fun v i=>by
  obtain⟨u,hu,a⟩:=i.prev
  obtain⟨v0,v1,d,hd⟩:=m.dn v (h u v hu a)
  rcases(m.eq v v0 v1 d).mp hd with z|z
  ·have:=z.2.uniq i
   omega
  ·exact z.2
 refine⟨⟨m.len,fun v v0 v1 d=>?_⟩,fun v=> ⟨m.sub v,key v⟩⟩
 rw[m.eq v v0 v1 d]
 constructor
 ·rintro(z|z)
  ·exact⟨by omega,z.2⟩
  ·rw[z.1];exact⟨jm _,m.sub v z.2⟩
 ·rintro⟨h1,h2⟩
  by_cases hd:d≤s
  ·exact .inl ⟨hd,h2⟩
  ·have:d=s+1:=by omega
   subst this
   exact .inr ⟨rfl,key v h2⟩
theorem Mid.fresh(m:Mid n R S s fs BY ds)(v0:0≤v)(v1:v<n)(hn:fs[v.toNat]?=some none):v∉BY:=fun h=>by
 have:=(m.eq v v0 v1 (s+1)).mpr (.inr ⟨rfl,h⟩)
 rw[hn] at this
 cases this
end GrR
namespace K40
open PySem L2 L2.TL PySem.Spec PyProof.Rows GrR
noncomputable abbrev Ht(rows:List (List Int)):T:=.lst (rows.map fun r=> .lst (r.map T.int))
noncomputable def Rw(rows:List (List Int))(u v:Int):Prop:=0≤u∧v∈rows.getD u.toNat []
structure RowsN(n:Int)(rows:List (List Int)):Prop where
 len:(rows.length:Int)=n
 n1:n≤200
 hw:dZ n (Rw rows)
theorem MB{i:Nat}:v∈rows.getD i []↔Rw rows (i:Int) v:=by
 unfold Rw
 rw[lC]
 exact⟨fun h=> ⟨by omega,h⟩,fun h=>h.2⟩
theorem PF{rows:List (List Int)}(h:i<rows.length):atI (rows.map fun r=>T.lst (r.map T.int)) (i:Int)=some (.lst ((rows.getD i []).map T.int)):=
 An (by rw[i6,jv h];simp[qP,h])
theorem UG:IsD R S v 0↔v∈S:=by
 constructor
 ·rintro⟨w,_⟩
  cases w with
  |«at» h=>exact h
 ·intro h
  exact⟨.at h,fun j hj=>by omega⟩
section
variable {P:Program} {w:World} {K:a8} {mg:Str→Option Value} {base:Heap} {f:Addr} {cdv:Value} {A:j6} {outer:List Env} {s:Shared} {H:Hp} {E:XK} {O:AO} {Ξ:Value→AO→Prop} {n:Int} {rows:List (List Int)} {S bs:List Int} {l:Addr}
noncomputable def PH:CV:=fun ts O Φ _=>∃n rows S,ts=[Ht rows,.lst (S.map T.int)]∧RowsN n rows∧(∀z∈S,0≤z∧z<n)∧∀fs,All n (Rw rows) S fs→Φ (.lst (fs.map Ap)) O
noncomputable abbrev GU(n:Int)(rows:List (List Int))(S:List Int)(l:Addr)(v3:Option T)(bs:List Int)(k:Nat)(v6 v7 v8:Option T):List (Option T):=[some (Ht rows),some (.lst (S.map T.int)),some (.raw (.ref l)),v3,some (.lst (bs.map T.int)),some (.int (k:Int)),v6,v7,v8]
theorem Qd{v:Nat}(hll:lb≠l)(n1:n≤200)(hv:(v:Int)<n)(m:Mid n (Rw rows) S k fs BY ds)(nd:BY.Nodup)(hw:dZ n (Rw rows))(hS:∀z∈S,0≤z∧z<n)(hu:IsD (Rw rows) S u k)(a:Rw rows u v)
  (q:∀fs BY,Mid n (Rw rows) S k fs BY (ds++[(v:Int)])→BY.Nodup→N (GU n rows S l v3 bs (k+1) (some (.raw (.ref lb))) v7 (some (.int v))) (GT O l lb fs BY)):
  FY (zF P w K mg base f cdv A outer s H E O Ξ) (GU n rows S l v3 bs (k+1) (some (.raw (.ref lb))) v7 (some (.int v))) (GT O l lb fs BY) (JD ((JD (dY 2)).getD 0 (.Pass ⟨0,0,0,0⟩))) {nx:=N,rt:=Φ,bk:=Bk,ct:=Ct}:=by
 have sb:=AN
 have hl:=m.len
 have hlt:v<fs.length:=by omega
 have gl:GT O l lb fs BY l=some (fs.map Ap):=by
  show Am (Am O l _) lb _ l=_
  rw[Ai hll.symm,AE]
 have gv:atI (fs.map Ap) (v:Int)=some (Ap fs[v]):=An (by rw[i6,jv hlt];rfl)
 refine AF (AS (Dv FT (DT gl (ev 2) (ev 8) gv)) (fun h=>?_) (fun h=>Ac ?_))
 ·rw[MA] at h
  have hn:fs[(v:Int).toNat]?=some none:=by
   rw[lC,jv hlt]
   cases z:fs[v] with
   |none=>rfl
   |some d=>rw[z] at h;cases h
  have hb:BY.length≤n.toNat:=Gr.Se nd fun z hz=> (m.sub z hz).1.inb hw hS
  refine AC (Fq (ET.we (ev 5) (ET.we (ev 2) ⟨l,rfl,ET.we (ev 8) ⟨_,_,v,rfl,gl,by rw[b9];exact Gg hlt,?_⟩⟩)))
  have eo:Am (GT O l lb fs BY) l ((fs.map Ap).set v (.int ((k+1:Nat):Int)))=GT O l lb (fs.set v (some (k+1))) BY:=by
   show Am (Am (Am O l _) lb _) l _=_
   rw[FF hll.symm,Aq]
   show _=Am (Am O l ((fs.set v (some (k+1))).map Ap)) lb _
   rw[qL]
   rfl
  rw[eo]
  refine AF (BI (Fp (ET.we (ev 6) ⟨lb,rfl,⟨_,AE⟩,ET.we (ev 8) ⟨BY.map T.int,AE,by rw[b9];omega,?_⟩⟩)))
  have m2:=m.hit (v:=(v:Int)) (by omega) hv hn hu a
  rw[lC] at m2
  have:=q _ _ m2 (by
   rw[n6]
   refine⟨nd,by simp,fun x hx y hy z=>?_⟩
   rw[jz.mp hy] at z
   exact m.fresh (by omega) hv hn (z▸hx))
  have e2:Am (GT O l lb (fs.set v (some (k+1))) BY) lb (BY.map T.int++[T.int v])=GT O l lb (fs.set v (some (k+1))) (BY++[(v:Int)]):=by
   show Am (Am (Am O l _) lb _) lb _=Am (Am O l _) lb _
   rw[Aq,kl]
   rfl
  rw[e2]
  exact this
 ·rw[MA] at h
  cases z:fs[v] with
  |none=>rw[z] at h;cases h
  |some d=>exact q fs BY (m.miss (by omega) hv (d:=d) (by rw[lC,jv hlt,z])) nd
theorem Ng{u:Nat}(hll:lb≠l)(hrl:(rows.length:Int)=n)(n1:n≤200)(hu0:(u:Int)<n)(m:Mid n (Rw rows) S k fs BY ds)(nd:BY.Nodup)(hw:dZ n (Rw rows))(hS:∀z∈S,0≤z∧z<n)(hu:IsD (Rw rows) S u k)
  (q:∀v8 fs BY ds',Mid n (Rw rows) S k fs BY ds'→BY.Nodup→(∀v∈ds,v∈ds')→(∀v,Rw rows u v→v∈ds')→N (GU n rows S l v3 bs (k+1) (some (.raw (.ref lb))) (some (.int u)) v8) (GT O l lb fs BY)):
  FY (zF P w K mg base f cdv A outer s H E O Ξ) (GU n rows S l v3 bs (k+1) (some (.raw (.ref lb))) (some (.int u)) v8) (GT O l lb fs BY) (JD (dY 2)) {nx:=N,rt:=Φ,bk:=Bk,ct:=Ct}:=by
 refine AF (BQ Af.own rfl (EI.wi (BN (Ef (ev 0) (ev 7) (PF (by omega)))) ⟨fun j ρ' O'=>∃v8 fs BY ds',ρ'=GU n rows S l v3 bs (k+1) (some (.raw (.ref lb))) (some (.int u)) v8∧O'=GT O l lb fs BY∧Mid n (Rw rows) S k fs BY ds'∧BY.Nodup∧(∀v∈ds,v∈ds')∧∀v∈(rows.getD u []).take j,v∈ds',⟨v8,fs,BY,ds,rfl,rfl,m,nd,fun _ h=>h,fun v h=>by simp at h⟩,?_,?_⟩))
 ·rintro j t _ _ e ⟨v8,fs,BY,ds',rfl,rfl,m,nd,h1,h2⟩
  rw[i6] at e
  cases ec:(rows.getD u [])[j]? with
  |none=>rw[ec] at e;cases e
  |some z=>
   rw[ec] at e
   cases e
   have a:=MB.mp (i7 ec)
   have hb:=hw _ _ a
   obtain⟨v,rfl⟩:=kM hb.1
   refine⟨GU n rows S l v3 bs (k+1) (some (.raw (.ref lb))) (some (.int u)) (some (.int v)),AK 8 Cw.nd (by show 8<9;decide),Qd hll n1 hb.2 m nd hw hS hu a fun fs' bey' m' nd'=> ⟨_,_,_,_,rfl,rfl,m',nd',fun x hx=>lZ _ (h1 x hx),fun x hx=>?_⟩⟩
   rw[lM,ec] at hx
   rcases kj.mp hx with hx|hx
   ·exact lZ _ (h2 x hx)
   ·exact k8 _ hx
 ·rintro _ _ ⟨v8,fs,BY,ds',rfl,rfl,m,nd,h1,h2⟩
  rw[b9,lQ] at h2
  exact q v8 fs BY ds' m nd h1 fun v a=>h2 v (MB.mpr a)
theorem Nh(hlO:O l=none)(wn:RowsN n rows)(hS:∀z∈S,0≤z∧z<n)(h:Fr n (Rw rows) S k fs)(hb:∀v,v∈bs↔IsD (Rw rows) S v k)
  (q:∀v6 v7 v8 fs BY,Fr n (Rw rows) S (k+1) fs→(∀v,v∈BY↔IsD (Rw rows) S v (k+1))→N (GU n rows S l v3 BY (k+1) v6 v7 v8) (Am O l (fs.map Ap))):
  FY (zF P w K mg base f cdv A outer s H E O Ξ) (GU n rows S l v3 bs k v6 v7 v8) (Am O l (fs.map Ap)) (JD (iY 4)) {nx:=N,rt:=Φ,bk:=Bk,ct:=Ct}:=by
 have sb:=AN
 refine AC (ZW 5 Yb rfl (ET.we AB (fun H v w Q ok r1 r2 acc=> ⟨_,_,r1.int_inv,r2.int_inv,acc _ H (.int (((k+1:Nat):Int))) _ ?_ (.refl ok) (.int _)⟩)) Cw.nd)
 refine AC (AM 6 (Bo (BC ⟨kZ _,fun lb hlb=>?_⟩)) Cw.nd)
 have hll:lb≠l:=fun z=>by rw[z,AE] at hlb;cases hlb
 have hlb':O lb=none:=by rw[Ai hll] at hlb;exact hlb
 refine AC (BQ Af.own rfl (EI.wi (BN (ev 4)) ⟨fun i ρ' O'=>∃v7 v8 fs BY ds,ρ'=GU n rows S l v3 bs (k+1) (some (.raw (.ref lb))) v7 v8∧O'=GT O l lb fs BY∧Mid n (Rw rows) S k fs BY ds∧BY.Nodup∧∀u∈bs.take i,∀v,Rw rows u v→v∈ds,⟨v7,v8,fs,[],[],rfl,rfl,h.mid,by simp,fun u hu=>by simp at hu⟩,?_,?_⟩))
 ·rintro i t _ _ e ⟨v7,v8,fs,BY,ds,rfl,rfl,m,nd,h1⟩
  rw[i6] at e
  cases ec:bs[i]? with
  |none=>rw[ec] at e;cases e
  |some z=>
   rw[ec] at e
   cases e
   have hz:=(hb z).mp (i7 ec)
   have hi:=hz.1.inb wn.hw hS
   obtain⟨u,rfl⟩:=kM hi.1
   refine⟨GU n rows S l v3 bs (k+1) (some (.raw (.ref lb))) (some (.int u)) v8,AK 7 Cw.nd (by show 7<9;decide),Ng hll wn.len wn.n1 hi.2 m nd wn.hw hS hz fun v8 fs' bey' ds' m' nd' g1 g2=> ⟨_,_,_,_,ds',rfl,rfl,m',nd',fun x hx v a=>?_⟩⟩
   rw[lM,ec] at hx
   rcases kj.mp hx with hx|hx
   ·exact g1 v (h1 x hx v a)
   ·have:x=(u:Int):=by simpa using hx
    rw[this] at a
    exact g2 v a
 ·rintro _ _ ⟨v7,v8,fs,BY,ds,rfl,rfl,m,nd,h1⟩
  rw[b9,lQ] at h1
  obtain⟨h2,h3⟩:=m.done fun u v hu a=>h1 u ((hb u).mpr hu) v a
  refine BD (p:=lb) (n:=6) (ts:=BY.map T.int) AE hlb' rfl ?_
  rw[show Dn (GT O l lb fs BY) lb=Am O l (fs.map Ap) from Al (by rw[Ai hll];exact hlb')]
  exact AF (AM 4 (ET.we (ev 6) (q _ _ _ fs BY h2 h3)) Cw.nd)
theorem UH(F:Fun K "fars_from" "fars_from" JB f fd):FnOk P w K mg base (CXe P w) 1 f fd ["nears","starts"] (Cf K PH):=by
 refine AY F Cw ?_ ?_
 ·rintro ts O Φ Ξ ⟨n,rows,S,rfl,_⟩
  rfl
 ·rintro cdv A outer s H E O Ξ hr xf _ Φ ⟨n,rows,S,rfl,wn,hS,q⟩
  have sb:=AN
  have n0:=wn.len
  have n1:=wn.n1
  refine AC (Iv (i:=2) (nc:=["near"]) (cap:=[]) (by rfl) Cw.nd rfl (Ba (AA JB) UE (by decide+kernel)) (EI.wi (BN (ev 0)) ?_))
  refine⟨fun i acc O'=>i≤200∧acc=(j0 i (none:Option Nat)).map Ap∧O=O',⟨by omega,rfl,rfl⟩,?_,?_⟩
  ·rintro i t acc _ c e ⟨_,rfl,rfl⟩ hc
   have hi:i<rows.length:=by
    have:=(jn.mp e).1
    simpa using this
   refine⟨[some t],fun X' Oe He is=> ⟨?_,Ji (JP fun X' Oe He is=>?_)⟩⟩
   ·obtain⟨cl,s',H',fp,rfl⟩:=is
    exact AK 0 dX (by decide)
   ·obtain⟨cl,s',H',fp,rfl⟩:=is
    exact ET.we Cc ⟨O,rfl,hc,by rw[b9,ml];omega,by omega,by rw[List.replicate_succ',kl];rfl,rfl⟩
  ·rintro acc _ ⟨_,rfl,rfl⟩ l hlO
   rw[b9]
   refine AC (BQ Af.own rfl (EI.wi (BN (ev 1)) ⟨fun j ρ' O'=>∃(fs:List (Option Nat)) (v3:Option T),ρ'=[some (Ht rows),some (.lst (S.map T.int)),some (.raw (.ref l)),v3,none,none,none,none,none]∧O'=Am O l (fs.map Ap)∧(fs.length:Int)=n∧∀v:Int,0≤v→v<n→∀d,fs[v.toNat]?=some (some d)↔(d=0∧v∈S.take j),⟨_,none,rfl,rfl,by rw[ml];omega,fun v v0 v1 d=>?_⟩,?_,?_⟩))
   ·rw[mx]
    simp
   ·rintro j t _ _ e ⟨fs,v3,rfl,rfl,hl,hf⟩
    rw[i6] at e
    cases ec:S[j]? with
    |none=>rw[ec] at e;cases e
    |some z=>
     rw[ec] at e
     cases e
     have hz:=hS z (i7 ec)
     obtain⟨v,rfl⟩:=kM hz.1
     have hlt:v<fs.length:=by omega
     refine⟨[some (Ht rows),some (.lst (S.map T.int)),some (.raw (.ref l)),some (.int v),none,none,none,none,none],AK 3 Cw.nd (by show 3<9;decide),?_⟩
     refine AF (Fq (ET.we AB (ET.we (ev 2) ⟨l,rfl,ET.we (ev 3) ⟨_,_,v,rfl,AE,by rw[b9];exact Gg hlt,?_⟩⟩)))
     refine⟨fs.set v (some 0),_,rfl,by rw[Aq,qL];rfl,by rw[nJ];exact hl,fun y y0 y1 d=>?_⟩
     rw[lM,ec]
     by_cases hy:y=(v:Int)
     ·subst hy
      rw[lC,kB hlt]
      simp[eq_comm]
     ·rw[j7 (by omega),hf y y0 y1 d]
      simp[hy]
   ·rintro _ _ ⟨fs,v3,rfl,rfl,hl,hf⟩
    rw[b9,lQ] at hf
    have fr:Fr n (Rw rows) S 0 fs:=XC hl hf
    refine AC (AM 4 (ET.we (ev 1) ?_) Cw.nd)
    refine AC (AM 5 (ET.we AB ?_) Cw.nd)
    refine AC (LX Af.own (fun m ρ' O'=>∃(k:Nat) (bs:List Int) (fs:List (Option Nat)) (v3 v6 v7 v8:Option T),ρ'=GU n rows S l v3 bs k v6 v7 v8∧O'=Am O l (fs.map Ap)∧Fr n (Rw rows) S k fs∧(∀v,v∈bs↔IsD (Rw rows) S v k)∧m=n.toNat+1-k) ⟨_,0,S,fs,v3,none,none,none,rfl,rfl,fr,fun v=>UG.symm,rfl⟩ ?_)
    rintro m _ _ ⟨k,bs,fs,v3,v6,v7,v8,rfl,rfl,fr,hb,rfl⟩
    refine(show EB (zF P w K mg base f cdv A outer s H E O Ξ) (GU n rows S l v3 bs k v6 v7 v8) (Am O l (fs.map Ap)) _ (!(bs.map T.int).isEmpty) from LM (t:=T.lst (bs.map T.int)) (ev 4) rfl) _ ?_
    cases bs with
    |nil=>
     refine GP ?_
     have al:=fr.all_end fun v hv=>by
      have:=(hb v).mpr hv
      cases this
     refine BD (p:=l) (n:=2) (ts:=fs.map Ap) AE hlO rfl ?_
     rw[Al hlO]
     exact AF (AH (ET.we (ev 2) (q fs al)))
    |cons b bs'=>
     refine JP (Nh hlO wn hS fr hb fun v6 v7 v8 fs' BY fr' hb'=> ⟨_,?_,k+1,BY,fs',_,v6,v7,v8,rfl,rfl,fr',hb',rfl⟩)
     have:=((hb b).mp (by simp)).lt wn.hw hS
     omega
end
end K40
namespace L2.TL
open PySem PySem.Spec PyProof.Rows
section
variable {p pos:Pos}
theorem PJ(hi:HR ns i)(m:Z.X.mg "min" =none)(hc:Z.X.calm=true)(h:ET Z ρ O e (.lst (ns.map T.int)))(hg:Gl Z.X "min":=by rfl)(he:i5 [e] Z.X.env=(false,eval e Z.X.env)::i5 [] Z.X.env:=by rfl):ET Z ρ O (.Call (.Name "min" p) [e] [] pos) (.int i):=
 Bq (Iu hc) m Vh (AX h AD he) (fun Φ q H vs Q ok r k=>by
  obtain⟨v,rfl,r1⟩:=r.one_inv
  obtain⟨a,xs,rfl,h1,o1,r1⟩:=r1.lst_inv
  cases Reps.ints r1
  refine⟨a,ns,rfl,.inl (.inl (.inl h1)),p9 hi.1,fun n hn=>?_⟩
  have:n=i:=sJ (hn.2 i hi.1) (hi.2 n hn.1)
  rw[this]
  exact k _ H _ O q (.refl ok) (.int _)) hg (by decide) (by decide) he
theorem XD(hi:OO ns i)(m:Z.X.mg "max" =none)(hc:Z.X.calm=true)(h:ET Z ρ O e (.lst (ns.map T.int)))(hg:Gl Z.X "max":=by rfl)(he:i5 [e] Z.X.env=(false,eval e Z.X.env)::i5 [] Z.X.env:=by rfl):ET Z ρ O (.Call (.Name "max" p) [e] [] pos) (.int i):=
 Bq (QC hc) m cc (AX h AD he) (fun Φ q H vs Q ok r k=>by
  obtain⟨v,rfl,r1⟩:=r.one_inv
  obtain⟨a,xs,rfl,h1,o1,r1⟩:=r1.lst_inv
  cases Reps.ints r1
  refine⟨a,ns,rfl,.inl (.inl (.inl h1)),p9 hi.1,fun n hn=>?_⟩
  have:n=i:=sJ (hi.2 n hn.1) (hn.2 i hi.1)
  rw[this]
  exact k _ H _ O q (.refl ok) (.int _)) hg (by decide) (by decide) he
theorem MC:∀{ns:List Int},ns≠[]→∃i,HR ns i
 | [],h=>absurd rfl h
 | [a],_=> ⟨a,by simp,fun n hn=>by rw[jz.mp hn];exact nP _⟩
 |a::b::ns,_=>by
  obtain⟨i,h1,h2⟩:=MC (ns:=b::ns) (by simp)
  refine⟨min a i,?_,fun n hn=>?_⟩
  ·rcases qM a i with h|h
   ·rw[Int.min_eq_left h];simp
   ·rw[Int.min_eq_right h];exact jt _ h1
  ·rcases ju.mp hn with rfl|hn
   ·exact Int.min_le_left ..
   ·exact n8 (Int.min_le_right ..) (h2 n hn)
theorem PK:∀{ns:List Int},ns≠[]→∃i,OO ns i
 | [],h=>absurd rfl h
 | [a],_=> ⟨a,by simp,fun n hn=>by rw[jz.mp hn];exact nP _⟩
 |a::b::ns,_=>by
  obtain⟨i,h1,h2⟩:=PK (ns:=b::ns) (by simp)
  refine⟨max a i,?_,fun n hn=>?_⟩
  ·rcases qM a i with h|h
   ·rw[Int.max_eq_right h];exact jt _ h1
   ·rw[Int.max_eq_left h];simp
  ·rcases ju.mp hn with rfl|hn
   ·exact Int.le_max_left ..
   ·exact n8 (h2 n hn) (Int.le_max_right ..)
end
end L2.TL
namespace K40
open PySem L2 L2.TL PySem.Spec PyProof.Rows Gr
noncomputable def Bt(n:Int)(ps:List (Int×Int)):List Int:=(jr n.toNat).map fun i=> ((BF ps i).length:Int)
noncomputable def bM(cs:List Int):T:=if cs.all (fun c=>decide (c=cs.headD 0))=true then .int (cs.headD 0) else .non
noncomputable def UI:CV:=FX fun ts r=>∃n ps,ts=[Cv n ps]∧WebN n ps∧1≤n∧r=bM (Bt n ps)
theorem da:(Ah ["near"] []).Nodup:=by decide+kernel
theorem aU(ha:HR cs a)(hb:OO cs b):cs.all (fun c=>decide (c=cs.headD 0))=decide (a=b):=by
 have hne:cs≠[]:=fun z=>by rw[z] at ha;cases ha.1
 have hh:cs.headD 0∈cs:=by
  cases cs with
  |nil=>exact absurd rfl hne
  |cons x xs=>simp
 by_cases h:a=b
 ·subst h
  rw[decide_eq_true rfl,kA]
  intro c hc
  have h1:=ha.2 c hc
  have h2:=hb.2 c hc
  have h3:=ha.2 _ hh
  have h4:=hb.2 _ hh
  exact decide_eq_true (by omega)
 ·rw[decide_eq_false h]
  cases z:cs.all (fun c=>decide (c=cs.headD 0)) with
  |false=>rfl
  |true=>
   rw[kA] at z
   have h1:=of_decide_eq_true (z a ha.1)
   have h2:=of_decide_eq_true (z b hb.1)
   omega
end K40
namespace L2.TL
open PySem PySem.Spec PyProof.Rows
theorem PL(hr:DF t=false)(ha:ET Z ρ O a t):EB Z ρ O (.Compare a [.IsNot] [.Constant .none j p1] pos) (!De t):=BZ VA (Ao _) (fun Φ p H v w Q ok r1 r2 q=>by
 refine⟨r2.non_inv,?_⟩
 have e:decide (v=V.non)=De t:=by
  cases r1<;>first|rfl|cases hr
 rw[e]
 exact q _ H _ O p (.refl ok) (.bl _)) ha Cc
theorem EU:∀{ns ms:List Int},nO (dTs (ns.map T.int)) (dTs (ms.map T.int))=decide (ns=ms)
 | [],[]=>rfl
 | [],_::_=>rfl
 |_::_,[]=>rfl
 |n::ns,m::ms=>by
  show((n==m)&&nO (dTs (ns.map T.int)) (dTs (ms.map T.int)))=_
  rw[EU,nu]
  simp
theorem Co:∀{ns:List Int},rdBs (ns.map T.int)=true
 | []=>rfl
 |n::ns=>by
  show(Bg (.int n)&&rdBs (ns.map T.int))=true
  rw[Co,Bg];rfl
theorem Da:∀{ns:List Int},lL (dTs (ns.map T.int))≤1
 | []=>by simp[dTs,lL]
 |n::ns=>by
  have:=Da (ns:=ns)
  simp only[kg,dTs,lL,dT,PyData.depth]
  omega
end L2.TL
namespace K40
open PySem L2 L2.TL PySem.Spec PyProof.Rows Gr
noncomputable def GC(fs:List (Option Nat)):List Int:=(fs.filter qr).map fun x=> ((x.getD 0:Nat):Int)
theorem FU:∀{fs:List (Option Nat)},(fs.filter qr).map Ap=(GC fs).map T.int
 | []=>rfl
 |none::fs=>FU (fs:=fs)
 |some d::fs=>by
  show T.int (d:Int)::(fs.filter qr).map Ap=T.int (d:Int)::(GC fs).map T.int
  rw[FU]
theorem WebA.wn(a:WebA n ps):WebN n ps:=⟨by have:=a.n0;omega,by have:=a.n1;omega,a.hp,a.hl⟩
end K40
namespace StT
open PySem PySem.SetTable PyProof.Rows
section
variable {prog:Program} {w:World} {s:Shared}
noncomputable abbrev ih(prog:Program)(w:World)(k:Int):Int:=(intKind prog w).hash k
noncomputable def Em(xs:List (Int×Tok))(prog:Program)(w:World):List (Int×Value):=xs.map fun p=> (ih prog w p.1,Value.int p.1 p.2)
structure SetN(prog:Program)(w:World)(h:Heap)(a:Addr)(xs:List (Int×Tok))(o:Obj)(es:Array (Int×Value))(ep:Nat)(t:lr):Prop where
 get:h.get? a=some o
 ex:o.ExactSet
 dat:o.data=.set es ep t
 es:es.toList=Em xs prog w
 nd:(xs.map (·.1)).Nodup
 tb:Tb t (xs.map fun p=>ih prog w p.1)
 pl:t.plain=true
 room:xs.length*5<t.mask*3
 led:t.led=!w.params.followText "set-order"
noncomputable def SetY(prog:Program)(w:World)(h:Heap)(a:Addr)(xs:List (Int×Tok)):Prop:=∃o es ep t,SetN prog w h a xs o es ep t
variable {xs:List (Int×Tok)} {es:Array (Int×Value)}
theorem MD:(Em xs prog w).length=xs.length:=by simp[Em]
theorem UJ(h:es.toList=Em xs prog w):ElemsOf (intKind prog w) es.toList:=by
 intro e he
 rw[h] at he
 obtain⟨p,_,rfl⟩:=jw.mp he
 exact⟨⟨p.1,qT _ _ _ _,rfl⟩,rfl⟩
theorem KM(htb:Tb t (xs.map fun p=>ih prog w p.1))(hn:n=xs.length)(hr:xs.length*5<t.mask*3∨xs.length≤t.mask):t.fits n=true:=by
 have h1:=htb.size
 have h3:t.fill=t.place.size:=by unfold qq;rw[htb.dum];rfl
 rw[b9] at h1
 unfold lr.fits
 rw[h3,hn,h1]
 simp only[beq_self_eq_true,qu,decide_eq_true_eq]
 omega
theorem SetN.size(S:SetN prog w s.heap a xs o es ep t):es.size=xs.length:=by
 rw[←i8,S.es];simp[Em]
theorem SetN.fits(S:SetN prog w s.heap a xs o es ep t):t.fits es.size=true:=KM S.tb S.size (.inl S.room)
theorem SetN.wk(S:SetN prog w s.heap a xs o es ep t):Wk w o es ep t:=⟨S.ex.1,S.dat,S.fits,S.tb.ris,S.pl,S.led⟩
theorem aV(hes:es.toList=Em xs prog w)(hnd:(xs.map (·.1)).Nodup)(htb:Tb t (xs.map fun p=>ih prog w p.1))(hpl:t.plain=true)(hled:t.led=!w.params.followText "set-order")(hn:xs.length=n+1)(h1:n*5<t.mask*3)(h2:t.mask*3≤(n+1)*5)(h3:n<300):
  ∃es' t' xs',relayAll t es (grown es.size)=(es',t',false)∧es'.toList=Em xs' prog w∧(xs'.map (·.1)).Nodup∧Tb t' (xs'.map fun p=>ih prog w p.1)∧t'.plain=true∧xs'.length*5<t'.mask*3∧t'.led=(!w.params.followText "set-order")∧xs'.Perm xs∧es'.size=es.size:=by
 obtain⟨m1,m2,m3,m4⟩:=Il htb.mask h1 h2 h3
 have hsz:es.size=n+1:=by rw[←i8,hes,MD,hn]
 obtain⟨t',order,el,q1,q2,q3,q4,q5,q6,q7,q8,q9⟩:=OG m1 (es.map (·.1)) (by rw[rz,hsz];omega) t.finger (t.movedTo (rQ (grown (n+1))-1)) t.led t.plain
 rw[rz] at q5 q6 q8
 have el':t.relaid (es.map (·.1)) (grown (n+1))=some (t',order):=el
 have hmem:∀r∈order.toList,r<es.size:=fun r hr=>by
  obtain⟨i,hi⟩:=lj hr
  exact q6 i r (by simpa using hi)
 have hpo:order.toList.Perm (jr es.size):=by
  have nd:order.toList.Nodup:=by
   rw[kP]
   refine kW.mpr fun i j hi hj hij e=>?_
   have:=q7 i j order.toList[i] (by simp[show i<order.size by simpa using hi]) (by rw[e];simp[show j<order.size by simpa using hj])
   omega
  refine List.perm_iff_count.mpr fun r=>?_
  rw[nd.count,List.nodup_range.count]
  by_cases hr:r<es.size
  ·obtain⟨i,hi⟩:=q8 r hr
   rw[if_pos (i7 (i:=i) (by simpa using hi)),if_pos (ky.mpr hr)]
  ·rw[if_neg fun z=>hr (hmem r z),if_neg fun z=>hr (ky.mp z)]
 have hfm:(order.filterMap (es[·]?)).toList=order.toList.filterMap fun r=>es[r]?:=by simp
 have hes':(order.filterMap (es[·]?)).size=es.size:=by
  rw[←i8,hfm,CA es _ hmem,i8,q5]
 have hesx:∀i:Nat,es[i]?=(xs[i]?).map fun p=> (ih prog w p.1,Value.int p.1 p.2):=fun i=>by
  have:es[i]?=es.toList[i]?:=by simp
  rw[this,hes,Em,i6]
 have hmx:∀r∈order.toList,r<xs.toArray.size:=fun r hr=>by rw[jy,hn];have:=hmem r hr;omega
 have at_:∀i:Nat,(order.toList.filterMap fun r=>xs[r]?)[i]?=(order.toList[i]?).bind fun r=>xs[r]?:=fun i=>by
  have:=BU xs.toArray order.toList hmx i
  simpa only[oO] using this
 have hpx:(order.toList.filterMap fun r=>xs[r]?).Perm xs:=by
  refine(hpo.filterMap _).trans ?_
  have:(jr es.size).filterMap (fun r=>xs[r]?)=xs:=by
   rw[hsz,←hn]
   apply lN
   intro i
   have:=BU xs.toArray (jr xs.length) (fun r hr=>by rw[jy];exact ky.mp hr) i
   simp only[oO] at this
   rw[this]
   by_cases hi:i<xs.length
   ·rw[pq hi];rfl
   ·rw[mn (by simp;omega),mn (by omega)];rfl
  rw[this]
 have hlen:=hpx.length_eq
 have ee:(order.filterMap (es[·]?)).toList=Em (order.toList.filterMap fun r=>xs[r]?) prog w:=by
  apply lN
  intro i
  rw[hfm,BU es _ hmem,Em,i6,at_]
  cases order.toList[i]? with
  |none=>rfl
  |some r=>exact hesx r
 have tb':Tb t' ((order.toList.filterMap fun r=>xs[r]?).map fun p=>ih prog w p.1):=by
  have:(order.toList.filterMap fun r=>xs[r]?).map (fun p=>ih prog w p.1)=order.toList.map fun r=> (es.map (·.1)).getD r 0:=by
   apply lN
   intro i
   rw[i6,at_,i6]
   cases hr:order.toList[i]? with
   |none=>rfl
   |some r=>
    have hrl:=hmem r (i7 hr)
    have hp:xs[r]?=some (xs[r]'(by rw[hn];omega)):=by simp[show r<xs.length by rw[hn];omega]
    show(xs[r]?).map _=some ((es.map (·.1)).getD r 0)
    have e3:=hesx r
    rw[hp] at e3 ⊢
    obtain⟨l,g⟩:=lg.mp e3
    simp[ql,hrl,g]
  rw[this]
  exact q9
 have room':(order.toList.filterMap fun r=>xs[r]?).length*5<t'.mask*3:=by rw[hlen,hn,q1];exact m3
 have hf':t'.fits (order.filterMap (es[·]?)).size=true:=KM (xs:=order.toList.filterMap fun r=>xs[r]?) tb' (by rw[hes',hlen,hsz,hn]) (.inl room')
 refine⟨order.filterMap (es[·]?),t',order.toList.filterMap fun r=>xs[r]?,?_,ee,(hpx.map _).nodup_iff.mpr hnd,tb',by rw[q3];exact hpl,room',by rw[q2];exact hled,hpx,hes'⟩
 unfold relayAll
 rw[hsz,el']
 dsimp only
 rw[if_pos]
 rw[ki]
 refine⟨?_,hf'⟩
 unfold coversAll
 rw[←hsz]
 exact List.isPerm_iff.mpr hpo
theorem iB(S:SetN prog w s.heap a xs o es ep t)(hl:xs.length<300){tk:Tok}(hno:∀y,(k,y)∉xs):
  ∃es1 t1 xs1,layNew t es (ih prog w k) (.int k tk)=(es1,t1,false,false)∧es1.toList=Em xs1 prog w∧(xs1.map (·.1)).Nodup∧Tb t1 (xs1.map fun p=>ih prog w p.1)∧t1.plain=true∧t1.led=(!w.params.followText "set-order")∧t1.mask=t.mask∧xs1.Perm (xs++[(k,tk)])∧es1.size=es.size+1:=by
 have hlm:(xs.map fun p=>ih prog w p.1).length≤t.mask:=by rw[b9];have:=S.room;omega
 obtain⟨n,hn,hstop⟩:=GJ S.tb hlm (p:=start t.mask (ih prog w k)) (Pr.start _ _) (fun _=>ih prog w k+1) (ih prog w k)
 rcases hstop with⟨hf,hp⟩| ⟨_,_,h2,_⟩
 ·have hfree:t.freeSlot (ih prog w k)=some ((advN t.mask n (start t.mask (ih prog w k))).j,false):=by
   unfold lr.freeSlot
   have:t.probeStart (ih prog w k)=start t.mask (ih prog w k):=Kr t _
   rw[this,hp]
   rfl
  obtain⟨p1,p2,p3,p4,p5,p6⟩:=S.tb.put hf fun c hc=>by obtain⟨i,h1,_⟩:=hn c hc;exact⟨i,h1⟩
  generalize hJ:(advN t.mask n (start t.mask (ih prog w k))).j=J at*
  generalize hput:t.put J=tp at*
  obtain⟨t1,q⟩:=tp
  dsimp only at p1 p2 p3 p4 p5 p6
  rw[b9] at p2
  have hes1:(mP es q (ih prog w k,.int k tk)).toList=Em (xs.take q++(k,tk)::xs.drop q) prog w:=by
   rw[BJ,S.es]
   simp[Em]
  have hpm:(xs.take q++(k,tk)::xs.drop q).Perm (xs++[(k,tk)]):=by
   refine List.perm_middle.trans ?_
   rw[mU]
   exact(List.perm_append_singleton _ _).symm
  have hsz1:(mP es q (ih prog w k,.int k tk)).size=es.size+1:=Cp _ _ _ (by rw[S.size];exact p2)
  have htb1:Tb t1 ((xs.take q++(k,tk)::xs.drop q).map fun p=>ih prog w p.1):=by simpa using p1
  have hlen:(xs.take q++(k,tk)::xs.drop q).length=xs.length+1:=by rw[hpm.length_eq];simp
  have hfit:t1.fits (mP es q (ih prog w k,.int k tk)).size=true:=KM htb1 (by rw[hsz1,S.size,hlen]) (.inr (by rw[hlen,p3];have:=S.room;have:=S.tb.low;omega))
  refine⟨mP es q (ih prog w k,.int k tk),t1,xs.take q++(k,tk)::xs.drop q,?_,hes1,?_,htb1,by rw[p4];exact S.pl,by rw[p5];exact S.led,p3,hpm,hsz1⟩
  ·unfold layNew
   rw[hfree]
   dsimp only
   rw[hput]
   dsimp only
   unfold lr.orStandIn
   rw[hfit]
   rfl
  ·rw[(hpm.map (·.1)).nodup_iff,kl]
   refine n6.mpr ⟨S.nd,by simp,fun b hb c hc=>?_⟩
   have:c=k:=by simpa using hc
   subst this
   rintro rfl
   obtain⟨⟨k',y⟩,hm,hk⟩:=jw.mp hb
   exact hno y (by rw[←show k'=b from hk];exact hm)
 ·exact absurd h2 (by omega)
end
section
variable {prog:Program} {w:World} {A:j6} {E:Value→Shared→Prop} {s:Shared}
variable {a:Addr} {xs:List (Int×Tok)}
theorem aW(h:(intKind prog w).is k v=true):∃tk,v=.int k tk:=EE h
theorem add_int(S:SetY prog w s.heap a xs){tk:Tok}(hl:xs.length<300)
  (hT:∀y,(k,y)∈xs→Q false s)
  (hF:(∀y,(k,y)∉xs)→∀h' xs',nD a s.heap h'→SetY prog w h' a xs'→xs'.Perm (xs++[(k,tk)])→Q true {s with heap:=h'}):
  wpAny (model prog w) A (se a (.int k tk) (ih prog w k)) Q E s:=by
 obtain⟨o,es,ep,t,S⟩:=S
 have hel:=UJ S.es
 have hsb:es.size<scanBound:=by rw[S.size,show scanBound=4096 from rfl];omega
 unfold se setAddHashedIn
 refine ko (a9 (lV S.get S.dat S.fits ?_))
 dsimp only
 rw[byScan_of (knd:=intKind prog w) rfl hsb hel]
 simp only[↓reduceIte]
 unfold setAddByScan
 refine a9 ?_
 refine a9 (og ?_)
 refine a9 (wpAny_setScan_of (qT _ _ _ _) S.get S.dat S.fits hel ?_)
 cases hr:List.findIdx? (fun e=> (intKind prog w).is k e.2) es.toList with
 |some j=>
  dsimp only
  obtain⟨hj,hpj,_⟩:=List.findIdx?_eq_some_iff_getElem.mp hr
  refine b8 (b8 ?_)
  have hm:=mJ hj
  rw[show es.toList[j]=es.toList[j] from rfl] at hm
  have hm2:es.toList[j]∈Em xs prog w:=by rw[←S.es];exact hm
  obtain⟨p,hp,he⟩:=jw.mp hm2
  rw[←he] at hpj
  obtain⟨tk',e2⟩:=aW hpj
  injection e2 with e3 e4
  exact hT p.2 (by rw[←e3];exact hp)
 |none=>
  dsimp only
  have hno:∀y,(k,y)∉xs:=fun y hy=>by
   have:=List.findIdx?_eq_none_iff.mp hr (ih prog w k,.int k y) (by rw[S.es];exact jw.mpr ⟨_,hy,rfl⟩)
   rw[qT] at this
   exact Bool.noConfusion this
  obtain⟨es1,t1,xs1,hL,h1,h2,h3,h4,h5,h6,h7,h8⟩:=iB S hl (tk:=tk) hno
  have hL':layNew t es ((intKind prog w).hash k) (.int k tk)=(es1,t1,false,false):=hL
  rw[hL']
  dsimp only
  refine a9 (b8 ?_)
  rw[h4]
  simp only[↓reduceIte]
  refine a9 ?_
  rw[hashByValue_scannable 8 rfl]
  refine b8 ?_
  simp only[plainKind,↓reduceIte]
  have hs1:es1.size=xs.length+1:=by rw[h8,S.size]
  have hl1:xs1.length=xs.length+1:=by rw[h7.length_eq];simp
  refine a9 (pV S.get S.dat ?_ (by rw[hs1,lB];omega))
  have hg1:=EF (s:=s) S.get S.dat es1 t1
  have hsb1:=oy s.heap a (pO es1 t1)
  have hfill:t1.fill=xs.length+1:=by
   unfold qq
   rw[h3.dum]
   have:=h3.size
   rw[b9,hl1] at this
   rw[this];rfl
  have hroom:=S.room
  simp only[rj,qu]
  cases htf:t1.tooFull with
  |true=>
   simp only[if_true]
   have htf':t1.mask*3≤(xs.length+1)*5:=by
    unfold qg at htf
    rw[hfill] at htf
    simpa using htf
   obtain⟨es2,t2,xs2,g0,g1,g2,g3,g4,g5,g6,g7,g8⟩:=aV h1 h2 h3 h4 h5 hl1 (by rw[h6];exact hroom) htf' hl
   rw[g0]
   dsimp only
   refine a9 (b8 ?_)
   refine a9 (pV hg1 rfl ?_ (by rw[g8,hs1,lB];omega))
   have hg2:=EF (s:={s with heap:=s.heap.update a (pO es1 t1)}) hg1 rfl es2 t2
   exact b8 (b8 (hF hno _ xs2 (hsb1.trans (oy _ a _)) ⟨_,es2,_,t2,hg2,S.ex,rfl,g1,g2,g3,g4,g5,g6⟩ (g7.trans h7)))
  |false=>
   simp only[j9,if_false]
   refine b8 (b8 (hF hno _ xs1 hsb1 ⟨_,es1,_,t1,hg1,S.ex,rfl,h1,h2,h3,h4,?_,h5⟩ h7))
   unfold qg at htf
   rw[hfill] at htf
   rw[hl1]
   simpa using htf
noncomputable def KN(ks:List Int)(xs:List (Int×Tok)):Prop:=(∀k,k∈xs.map (·.1)↔k∈ks)∧(xs.map (·.1)).Nodup∧xs.length≤ks.length
theorem SetY.keep(S:SetY prog w h a xs)(hk:∀u,h.get? a=some u→h'.get? a=some u):SetY prog w h' a xs:=by
 obtain⟨o,es,ep,t,S⟩:=S
 exact⟨o,es,ep,t,hk _ S.get,S.ex,S.dat,S.es,S.nd,S.tb,S.pl,S.room,S.led⟩
theorem SetY.nd(S:SetY prog w h a xs):(xs.map (·.1)).Nodup:=by
 obtain⟨o,es,ep,t,S⟩:=S
 exact S.nd
theorem UK(nd:(xs.map (·.1)).Nodup)(hb:∀k∈xs.map (·.1),0≤k∧k<60):xs.length<300:=by
 have:=Be 60 ((xs.map (·.1)).map ub) (by
  rw[kP,lY]
  refine lS (fun{a b} ha hb' hne z=>hne ?_) (kP.mp nd)
  have p1:=hb a ha
  have p2:=hb b hb'
  omega) (fun x hx=>by
  obtain⟨a,ha,rfl⟩:=jw.mp hx
  have p1:=hb a ha
  omega)
 rw[b9,b9] at this
 omega
theorem UL{ps:List (Int×Tok)}(hh:A.in1.handled=none)(hne:l≠I)(hI:a≠I)(hla:a≠l)(hps:items.toList=ps.map fun p=>Value.int p.1 p.2)(hb:∀k∈ps.map (·.1),0≤k∧k<60)
 :∀(n i:Nat) (s:Shared) (xs:List (Int×Tok)),n=ps.length-i→i≤ps.length→s.heap.IsListIter I l i→s.heap.IsList l items→SetY prog w s.heap a xs→KN ((ps.take i).map (·.1)) xs→
   (∀h' tk' xs',(∀b u,b≠a→b≠I→s.heap.get? b=some u→h'.get? b=some u)→SetY prog w h' a xs'→KN (ps.map (·.1)) xs'→R (.ok (.ret .none)) {s with heap:=h',toks:=tk'})→
   oF (model prog w) A (.builtin "set.update.loop" ⟨[.ref a,.ref I],[]⟩) R s:=by
 have hsz:items.size=ps.length:=by rw[←i8,hps,b9]
 intro n
 induction n with
 |zero=>
  intro i s xs hn hi hit hl hX hS hR
  have:i=ps.length:=by omega
  subst this
  rw[lQ] at hS
  refine mW mT ?_
  rw[mD kN _]
  show wpAny _ A.in1 (pk (.ref I)>>=_) _ _ s
  refine a9 (oN hh hit hl (by simp[hsz]) fun h' hk=>?_)
  show wpAny _ A.in1 (ret nU) _ _ _
  exact b8 (hR h' s.toks xs (fun b u _ hb e=>hk b u hb e) (hX.keep fun u e=>hk a u hI e) hS)
 |succ n ih=>
  intro i s xs hn hi hit hl hX hS hR
  have hlt:i<ps.length:=by omega
  obtain⟨⟨k,x⟩,hkx⟩:∃p,ps[i]?=some p:=⟨_,by simp[hlt];rfl⟩
  have hitem:items[i]?=some (.int k x):=by
   have:items[i]?=items.toList[i]?:=by simp
   rw[this,hps,i6,hkx];rfl
  refine mW mT ?_
  rw[mD kN _]
  show wpAny _ A.in1 (pk (.ref I)>>=_) _ _ s
  refine a9 (ng hit hl hitem fun h1 hit1 sb1=>?_)
  have hk1:∀b u,b≠I→s.heap.get? b=some u→h1.get? b=some u:=fun b u hb e=> (sb1.2 b hb).trans e
  have hX1:SetY prog w h1 a xs:=hX.keep fun u e=>hk1 a u hI e
  have hl1:h1.IsList l items:=hl.at fun o e=>hk1 l o hne e
  show wpAny _ A.in1 (holding [Value.int k x] (setAdd a (.int k x))>>=_) _ _ _
  refine a9 (ko ?_)
  unfold setAdd
  refine ko ?_
  refine a9 ((intKind prog w).pyHash (s:={s with heap:=h1}) (k:=k) (qT _ _ _ _) ?_)
  have htake:(ps.take (i+1)).map (·.1)=(ps.take i).map (·.1)++[k]:=by rw[lM,hkx,kl];rfl
  have hlen:xs.length<300:=UK hS.2.1 fun k hk=>hb k (by
   have:=(hS.1 k).mp hk
   rw[List.map_take] at this
   exact oY this)
  refine add_int (s:={s with heap:=h1,toks:=s.toks+1}) hX1 hlen (fun y hy=>?_) (fun hno h2 xs' sb sx pm=>?_)
  ·refine b8 ⟨nN kN _,ih (i+1) _ xs (by omega) (by omega) hit1 hl1 hX1 ⟨fun k'=>?_,hS.2.1,by rw[htake,j8];have:=hS.2.2;omega⟩ fun h' tk' xs' kp sx so=>hR h' tk' xs' (fun b u h1' h2' e=>kp b u h1' h2' (hk1 b u h2' e)) sx so⟩
   rw[htake,kj,jz,hS.1 k']
   constructor
   ·exact .inl
   ·rintro(h|rfl)
    ·exact h
    ·exact(hS.1 k').mp (jw.mpr ⟨_,hy,rfl⟩)
  ·have keep2:∀b u,b≠a→h1.get? b=some u→h2.get? b=some u:=fun b u hb e=> (sb.2 b hb).trans e
   refine b8 ⟨nN kN _,ih (i+1) {s with heap:=h2,toks:=s.toks+1} xs' (by omega) (by omega) (hit1.at fun o e=>keep2 I o (Ne.symm hI) e) (hl1.at fun o e=>keep2 l o (Ne.symm hla) e)
    sx ⟨fun k'=>?_,sx.nd,by rw[htake,j8,pm.length_eq,j8];have:=hS.2.2;simpa using this⟩ fun h' tk' xs2 kp sx so=>hR h' tk' xs2 (fun b u h1' h2' e=>kp b u h1' h2' (keep2 b u h1' (hk1 b u h2' e))) sx so⟩
   rw[htake,kj,jz,←hS.1 k',(pm.map (·.1)).mem_iff,kl,kj]
   simp
end
section
variable {prog:Program} {w:World} {A:j6} {E:Value→Shared→Prop} {s:Shared}
theorem IS{ps:List (Int×Tok)}
  (hh:A.handled=none) (hl:s.heap.IsList l items) (hps:items.toList=ps.map fun p=>Value.int p.1 p.2) (hb:∀k∈ps.map (·.1),0≤k∧k<60)
  (h:∀(h':Heap) (tk:Nat) (xs:List (Int×Tok)),SetY prog w h' s.heap.objs.size xs→KN (ps.map (·.1)) xs→
   (∀b o,b<s.heap.objs.size→s.heap.get? b=some o→h'.get? b=some o)→Q (.ref s.heap.objs.size) {s with heap:=h',toks:=tk}):
  wpAny (model prog w) A (call (.type "set") [.ref l]) Q E s:=by
 refine HN (Q₁:=fun obj s₁=>obj=.ref s.heap.objs.size∧s₁={s with heap:=s.heap.push (BH w)}) pN (PySem.F.typeCall_set_1 _) (LF _ ⟨rfl,rfl⟩) ?_
 rintro obj s₁ ⟨rfl,rfl⟩
 have hS:(s.heap.push (BH w)).get? s.heap.objs.size=some (BH w):=kb _ rfl
 have hT:Shared.TypeIs {s with heap:=s.heap.push (BH w)} (.ref s.heap.objs.size) "set":=⟨_,hS,rfl⟩
 refine⟨hT,nY pN.init.plain PySem.F.entry_set_init (check_set_init_1 hT ?_)⟩
 obtain⟨ol,hol,hcl,nl,hdl⟩:=hl
 obtain⟨ocls,odict,odata,oslots⟩:=ol
 simp only at hcl hdl
 subst hcl;subst hdl
 have hol':(s.heap.push (BH w)).get? l=some {cls:=.type "list",dict:=odict,data:=.seq items nl,slots:=oslots}:=c9 _ hol
 have hsls:=PySem.F.sub_list_set
 have hslf:=PySem.F.sub_list_frozenset
 have hne:(oh "list" ==oh "dict")=false:=by decide
 have hl1:(s.heap.push (BH w)).IsList l items:=⟨_,hol',rfl,nl,rfl⟩
 unfold Builtin.«set.__init__» noKeywords Builtin.Frozenset.updateFrom
 generalize hPI:sQ=PI
 wp_walk
 subst hPI
 refine oQ hl1 ?_
 refine a9 (wpAny_runValue ?_)
 have hlS:l<s.heap.objs.size:=jo hol
 have hneI:l≠(s.heap.push (BH w)).objs.size:=by
  rw[lU];exact ke (mq hlS)
 have kp:∀b o,s.heap.get? b=some o→((s.heap.push (BH w)).push {cls:=.type "list_iterator",data:=.fields #[.ref l,.int 0 0]}).get? b=some o:=fun b o e=>c9 _ (c9 _ e)
 refine UL (a:=s.heap.objs.size) (l:=l) (ps:=ps) (by simpa using hh) hneI (by rw[lU];exact ke (nQ _)) (p7 hlS) hps hb (ps.length-0) 0 _ [] rfl (kZ _)
  ⟨_,kb _ rfl,rfl,rfl⟩ (hl1.push _) ⟨BH w,#[],0,_,c9 _ hS,⟨rfl,rfl,rfl⟩,rfl,rfl,sZ,Tb.fresh _ _ _,rfl,(by show 0*5<7*3;decide),rfl⟩ ⟨fun p=>by simp,sZ,by simp⟩ ?_
 intro h' tk' xs' kk sx so
 refine b8 ?_
 show wpAny _ _ (ret nU) _ _ _
 refine b8 ⟨rfl,h h' tk' xs' sx so fun b o hb e=>kk b o (ke hb) ?_ (kp b o e)⟩
 rw[lU];exact ke (mq hb)
end
open PySem.Calls PySem.W
theorem ME:∀(xs:List (Int×Tok)),oU (xs.map fun p=>Value.int p.1 p.2) (xs.map (·.1))
 | []=> .nil
 |p::xs=> .cons p.1 p.2 (ME xs)
theorem MF(hh:A.handled=none)(S:SetY prog w s.heap a xs)(hz:xs.length<64)
  (h:∀(h':Heap) (tk:Nat) (D:Addr) (out:List Value) (ms:List Int) (c:Nat),s.heap.get? D=none→h'.get? D=some (lp "list" out.toArray c)→(∀b o,s.heap.get? b=some o→h'.get? b=some o)→oU out ms→ms.Perm (xs.map (·.1))→ms.Pairwise (·≤·)→Q (.ref D) {s with heap:=h',toks:=tk}):
  wpAny (model prog w) A (call (.builtin "sorted") [.ref a]) Q E s:=by
 obtain⟨o,es,ep,t,S⟩:=S
 refine call_function_entry ud tR tU (t4 _) ?_
 unfold Builtin.«sorted»
 refine a9 (m:=checkCount "sorted" 1 1 _) (b8 ?_)
 refine a9 (kdu_collect (A:=A.in1) (OK S.wk) hh S.get (by rw[S.size,lB];omega) fun h1 tk1 acc hk1 hacc=>?_)
 have hsz:acc.toList.length=xs.length:=by rw[i8,hacc.1,S.size]
 have hacc2:acc.toList=(Df w a ep es).toList.map (·.2):=by
  apply lN
  intro i
  rw[i6]
  by_cases hi:i<acc.size
  ·have e1:acc[i]?=some acc[i]:=by simp[hi]
   obtain⟨hh',e2⟩:=hacc.2 i _ e1
   have e2':(Df w a ep es).toList[i]?=some (hh',acc[i]):=by simpa using e2
   rw[e2']
   simpa using e1
  ·have h1':acc.toList[i]?=none:=by simp;omega
   have h2':(Df w a ep es).toList[i]?=none:=by
    apply mn
    rw[i8,EG,←hacc.1];omega
   rw[h1',h2'];rfl
 have hperm:acc.toList.Perm (xs.map fun p=>Value.int p.1 p.2):=by
  rw[hacc2]
  refine((Fk w a ep es).map (·.2)).trans ?_
  rw[S.es,Em,kI]
  exact nB.refl _
 obtain⟨ws,hw1,hw2⟩:=Bm hperm rfl
 have hI:oU acc.toList (ws.map (·.1)):=by rw[←hw2];exact ME ws
 refine a9 (qm ?_ (by rw[hsz,lB];omega))
 have hoL:(h1.push (lp "list" acc.toList.toArray 0)).get? h1.objs.size=some (lp "list" acc.toList.toArray 0):=kb _ rfl
 have hDn:s.heap.get? h1.objs.size=none:=by
  cases e:s.heap.get? h1.objs.size with
  |none=>rfl
  |some o'=>exact absurd (jo (hk1 _ _ e)) (lH _)
 refine a9 (ko (mG sN ⟨_,hoL,rfl⟩ sC (list_sort_tree (s:={s with heap:=h1.push (lp "list" acc.toList.toArray 0),toks:=tk1}) hoL hI (by omega) fun out ms a1 a2 a3=> ⟨_,rfl,?_⟩) (sT _)))
 refine b8 ⟨_,rfl,?_⟩
 obtain⟨c,hcat⟩:=sortedHeap_at (out:=out) hoL
 refine h _ tk1 h1.objs.size out.toList ms c hDn hcat (fun b o e=>?_) a1 (a2.trans (hw1.map _)) a3
 have hlt:=jo (hk1 b o e)
 rw[sortedHeap_old (ke hlt) (by rw[size_push'];exact mq hlt)]
 exact c9 _ (hk1 b o e)
end StT
namespace L2
open PySem PySem.Spec PySem.Calls PyProof.Rows
section
variable {X:Cx}
noncomputable def dc(P:Program)(w:World)(a:Addr)(xs:List (Int×Tok))(h:Heap):Prop:=StT.SetY P w h a xs
noncomputable def MG(P:Program)(w:World)(a:Addr)(xs:List (Int×Tok)):HO:=.ext (dc P w a xs)
theorem UM(S:StT.SetY P w h a xs):ObjOk P w H h a (MG P w a xs):=by
 obtain⟨o,es,ep,t,T⟩:=S
 exact⟨⟨o,es,ep,t,T⟩,⟨o,T.get⟩,fun h1 h2 S hk=>S.keep (hk)⟩
theorem Hu:∀{ns:List Int} {us:List Value},Vals (ns.map V.int) us→∃ps:List (Int×Tok),us=ps.map (fun p=>Value.int p.1 p.2)∧ps.map (·.1)=ns
 | [],us,r=>by rw[pj] at r;cases r;exact⟨[],rfl,rfl⟩
 |n::ns,us,r=>by
  rw[kg] at r
  cases r with
  |cons r1 r2=>
   obtain⟨t,rfl⟩:=r1
   obtain⟨ps,rfl,e⟩:=Hu r2
   exact⟨(n,t)::ps,rfl,by rw[kg,e]⟩
noncomputable def de(X:Cx):List V→Hp→VK→Prop:=fun vs H Q=>∃a ns,vs=[.ref a]∧SqL X.K H a (ns.map V.int)∧(∀k∈ns,0≤k∧k<60)∧
 ∀p xs,H p=none→StT.KN ns xs→Q (.ref p) (upd H p (MG X.prog X.w p xs))
theorem Ni(hc:X.calm=true):Bb X (.type "set") (de X):=by
 intro pins s σ H vs us Q I r h
 obtain⟨a,ns,rfl,hl,hz,q⟩:=h
 obtain⟨u,rfl,ru⟩:=Vals.one r
 cases ru
 obtain⟨its,rv,p,_⟩:=I.list hl
 obtain⟨ps,e1,rfl⟩:=Hu rv
 refine StT.IS (ps:=ps) (I.ok.hd hc) p.isList (by simpa using e1) hz fun h' tk xs sx so kp=>?_
 have hf:H s.heap.objs.size=none:=I.hok.fresh (jm _)
 exact⟨.ref s.heap.objs.size,upd H s.heap.objs.size (MG X.prog X.w s.heap.objs.size xs),I.laid (t':=tk) (fun b u e=>kp b u (jo e) e) (jm _) (UM sx),rfl,q _ _ hf so⟩
noncomputable def XF(X:Cx):List V→Hp→VK→Prop:=fun vs H Q=>∃p xs,vs=[.ref p]∧H p=some (MG X.prog X.w p xs)∧xs.length<64∧
 ∀(q:Addr) (ms:List Int),H q=none→ms.Perm (xs.map (·.1))→ms.Pairwise (·≤·)→Q (.ref q) (upd H q (.lst (ms.map V.int)))
theorem IT(hc:X.calm=true):Bb X (.builtin "sorted") (XF X):=by
 intro pins s σ H vs us Q I r h
 obtain⟨p,xs,rfl,hp,hz,q⟩:=h
 obtain⟨u,rfl,ru⟩:=Vals.one r
 cases ru
 obtain⟨S,_,_⟩:=I.hok p _ hp
 refine StT.MF (xs:=xs) (I.ok.hd hc) S hz fun h' tk D out ms c hD hg kp hI pm pw=>?_
 have hf:H D=none:=I.hok.none_of hD
 refine⟨.ref D,upd H D (.lst (ms.map V.int)),I.laidF (t':=tk) kp hD ⟨?_,out,c,Fg hI,hg⟩,rfl,q D ms hf pm pw⟩
 rw[b9,pm.length_eq,b9,lB]
 omega
end
end L2
namespace L2.TL
open PySem PySem.Spec PySem.Calls PyProof.Rows
section
variable {Z:Zx} {ρ:List (Option T)} {O:AO} {e:Expr} {Φ:CJ} {pos p p1 pos1:Pos}
theorem IU{ns:List Int}(m:Z.X.mg "sorted" =none)(m2:Z.X.mg "set" =none)(hc:Z.X.calm=true)(h:ET Z ρ O e (.raw (.ref l0)))(hO:O l0=some (ns.map T.int))(hb:∀q∈ns,0≤q∧q<60)
  (k:∀ms:List Int,ms.Pairwise (· < ·)→(∀q,q∈ms↔q∈ns)→Φ (.lst (ms.map T.int)) O) (hg:Gl Z.X "sorted":=by rfl) (hg2:Gl Z.X "set":=by rfl) (he:i5 [e] Z.X.env=(false,eval e Z.X.env)::i5 [] Z.X.env:=by rfl)
  (he2:i5 [Expr.Call (.Name "set" p1) [e] [] pos1] Z.X.env=(false,eval (.Call (.Name "set" p1) [e] [] pos1) Z.X.env)::i5 [] Z.X.env:=by rfl):WE Z ρ O (.Call (.Name "sorted" p) [.Call (.Name "set" p1) [e] [] pos1] [] pos) Φ:=by
 refine PE.weak (BA (IT hc) hg m Jk (AJ (Fe (Ni hc) hg2 m2 cb (IJ (ρ:=ρ)) (by decide) (by decide) he) Au he2) (by decide) (by decide) he2) fun σ H Q q=>?_
 refine⟨O,_,AX h AD he (fun ts O'=>ts=[.raw (.ref l0)]∧O'=O) ⟨rfl,rfl⟩,q.1,?_⟩
 rintro vs H1 _ _ ⟨rfl,rfl⟩ f r
 obtain⟨v,rfl,r1⟩:=r.one_inv
 cases r1.raw_inv
 obtain⟨xs0,h1,r1⟩:=f.ok l0 _ hO
 cases r1.ints
 refine⟨l0,ns,rfl,  .inl (.inl h1),hb,fun l xs hl1 so=>?_⟩
 obtain⟨s1,s2,s3⟩:=so
 have f1:=Frm.new (o:=MG Z.X.prog Z.X.w l xs) f.ok hl1
 have hlen:xs.length<64:=by
  have:=StT.Be 60 ((xs.map (·.1)).map ub) (by
   rw[kP,lY]
   refine lS (fun{a b} ha hb' hne z=>hne ?_) (kP.mp s2)
   have p1:=hb a ((s1 a).mp ha)
   have p2:=hb b ((s1 b).mp hb')
   omega) (fun x hx=>by
   obtain⟨a,ha,rfl⟩:=jw.mp hx
   have p1:=hb a ((s1 a).mp ha)
   omega)
  rw[b9,b9] at this
  omega
 refine⟨l,xs,rfl,AL,hlen,fun d ms hd pm pw=>?_⟩
 have f2:=Frm.new (o:=.lst (ms.map V.int)) f1.ok hd
 have nd:ms.Nodup:=pm.nodup_iff.mpr s2
 refine q.2 _ _ _ _ (k ms ?_ fun z=>by rw[pm.mem_iff,s1 z]) (f.trans (f1.trans f2)) (.lst AL (f1.ok.none_of hd) (EM ms))
 refine(pw.and (kP.mp nd)).imp fun{a b} h=>?_
 have:=h.1
 have:=h.2
 omega
end
end L2.TL
namespace K40
open PySem L2 L2.TL PySem.Spec PyProof.Rows Gr
noncomputable def DH(ps:List (Int×Int))(x:Int):List Int:=(ps.filter fun p=>decide (x∈[p.1,p.2])).map fun p=>p.1+p.2-x
theorem JE:v∈DH ps x↔Adj ps x v:=by
 unfold DH
 rw[jw]
 constructor
 ·rintro⟨p,hp,rfl⟩
  obtain⟨h1,h2⟩:=lR.mp hp
  have h2:x=p.1∨x=p.2:=by simpa using h2
  rcases h2 with h|h
  ·refine .inl ?_
   have e:(x,p.1+p.2-x)=p:=mz h (by show p.1+p.2-x=p.2;omega)
   rw[e];exact h1
  ·refine .inr ?_
   have e:(p.1+p.2-x,x)=p:=mz (by show p.1+p.2-x=p.1;omega) h
   rw[e];exact h1
 ·rintro(h|h)
  ·exact⟨_,lR.mpr ⟨h,by simp⟩,by show x+v-x=v;omega⟩
  ·exact⟨_,lR.mpr ⟨h,by simp⟩,by show v+x-x=v;omega⟩
theorem Qe:(DH ps x).length≤ps.length:=by
 unfold DH
 rw[b9]
 exact lO ..
structure Lt(n:Int)(ps:List (Int×Int))(S:List Int)(k:Nat)(fs:List (Option Nat)):Prop where
 len:(fs.length:Int)=n
 eq:∀v:Int,0≤v→v<n→∀d,fs[v.toNat]?=some (some d)↔(d<k∧IsD ps S v d)
section
variable {P:Program} {w:World} {K:a8} {mg:Str→Option Value} {base:Heap}
noncomputable def Gh:CV:=FX fun ts r=>∃n ps x,ts=[Cv n ps,.int x]∧ps.length≤200∧r=.lst ((DH ps x).map T.int)
theorem XG:FnScope ["_law_web","_law_place"] ["_law_web","_law_place"] (AA Hm):=⟨rfl,rfl,rfl,by decide+kernel,rfl,by decide+kernel,by decide+kernel⟩
theorem df:(Ah ["_law_a","_law_b"] [(("_law_place" :Str),1)]).Nodup:=by decide+kernel
theorem UN(F:Fun K "_law_near" "_law_near" Hm f fd):FnOk P w K mg base (CXe P w) 1 f fd ["_law_web","_law_place"] (Cf K Gh):=by
 refine AY F XG ?_ ?_
 ·rintro ts O Φ Ξ ⟨r,⟨n,ps,x,rfl,_⟩,_⟩
  rfl
 ·rintro cdv A outer s H E O Ξ hr xf _ Φ ⟨_,⟨n,ps,x,rfl,hl,rfl⟩,q⟩
  have sb:=AN
  have hu:(A.deeper (nI "_law_near" (AA Hm) s.heap.objs.size f cdv)).units+102<cLine:=by have:=hr.un;omega
  refine AF (AH (ET.we (t:=.lst ((DH ps x).map T.int)) (ET.cast (Du ["_law_a","_law_b"] [("_law_place",1)] ps AU (fun p=> .int (p.1+p.2-x)) (fun p=>decide (x∈[p.1,p.2])) rfl (Ba (AA Hm) ["_law_web","_law_place"] (by decide+kernel)) (DU (AI (ev 0) AB)) (by omega) fun p hp=> ⟨[some (.int p.1),some (.int p.2),some (.int x)],fun X' Oe He is O'=>?_⟩) ?_) q))
  ·obtain⟨cl,s',H',fp,rfl⟩:=is
   refine⟨GZ 0 1 rfl df (by decide) (by decide),EB.cast (BZ (SX hu) rfl (Jr (t:=.int x) (us:=[p.1,p.2].map T.int) (by rw[Bg]) Co (by show 0≤100;decide)) (ev 2) (AV (AG (ev 0) (AG (ev 1) AD)) (by show 2≤sizeLine;decide))) DG,fun _=>BK (As (ev 0) (ev 1)) (ev 2)⟩
  ·unfold DH
   rw[kI]
   rfl
noncomputable def PM:CV:=fun ts O Φ _=>∃n ps S,ts=[Cv n ps,.lst (S.map T.int)]∧WebA n ps∧S.length≤16∧(∀z∈S,0≤z∧z<n)∧∀fs,All n ps S fs→Φ (.lst (fs.map Ap)) O
noncomputable def iC:List Str:=["_law_web","_law_starts","_law_found","_law_here","_law_far","_law_place","_law_later"]
theorem KO:FnScope iC ["_law_web","_law_starts"] (AA Eh):=⟨rfl,rfl,rfl,by decide+kernel,rfl,by decide+kernel,by decide+kernel⟩
theorem dg:(Ah ["_law_other"] [(("_law_found" :Str),2)]).Nodup:=by decide+kernel
noncomputable def iD(i:Nat):Stmt:=(Ae Eh).getD i (.Pass ⟨0,0,0,0⟩)
variable {f:Addr} {cdv:Value} {A:j6} {outer:List Env} {s:Shared} {H:Hp} {E:XK} {O:AO} {Ξ:Value→AO→Prop} {n:Int} {ps:List (Int×Int)} {S bs:List Int} {l:Addr}
noncomputable abbrev dh(P:Program)(w:World)(K:a8)(mg:Str→Option Value)(base:Heap)(f:Addr)(cdv:Value)(A:j6)(outer:List Env)(s:Shared)(H:Hp)(E:XK)(O:AO)(Ξ:Value→AO→Prop):Zx:=zB P w K mg base iC "_law_fars" (AA Eh) f cdv A outer s H E O Ξ
noncomputable abbrev GN(n:Int)(ps:List (Int×Int))(S:List Int)(l:Addr)(bs:List Int)(k:Nat)(v5 v6:Option T):List (Option T):=[some (Cv n ps),some (.lst (S.map T.int)),some (.raw (.ref l)),some (.lst (bs.map T.int)),some (.int (k:Int)),v5,v6]
theorem UO(Tx:Txt mg)(hr:Room 1 (dh P w K mg base f cdv A outer s H E O Ξ).X.A)(xf:XFly (dh P w K mg base f cdv A outer s H E O Ξ).X (dh P w K mg base f cdv A outer s H E O Ξ).W)(G:FnT P w K mg base "_law_near" 1 ["_law_web","_law_place"] Gh)(hlO:O l=none)(wa:WebA n ps)(hS:∀z∈S,0≤z∧z<n)(h:Lt n ps S k fs)(hbl:bs.length≤60)(hb:∀v,v∈bs↔IsD ps S v k)
  (q:∀v5 v6 fs ms,Lt n ps S (k+1) fs→ms.length≤60→(∀v,v∈ms↔IsD ps S v (k+1))→N (GN n ps S l ms (k+1) v5 v6) (Am O l (fs.map Ap))):
  FY (dh P w K mg base f cdv A outer s H E O Ξ) (GN n ps S l bs k v5 v6) (Am O l (fs.map Ap)) (JD (iD 3)) {nx:=N,rt:=Φ,bk:=Bk,ct:=Ct}:=by
 have sb:=AN
 have sz:sizeLine=16777216:=lB
 have n1:=wa.n1
 have hw:Sd n ps:=wa.hp
 refine AC (BQ Af.own rfl (EI.wi (BN (ev 3)) ⟨fun j ρ' O'=>∃(fs:List (Option Nat)) (v5:Option T),ρ'=GN n ps S l bs k v5 v6∧O'=Am O l (fs.map Ap)∧(fs.length:Int)=n∧∀v:Int,0≤v→v<n→∀d,fs[v.toNat]?=some (some d)↔((d<k∧IsD ps S v d)∨(d=k∧v∈bs.take j)),⟨fs,v5,rfl,rfl,h.len,fun v v0 v1 d=>by rw[h.eq v v0 v1 d];simp⟩,?_,?_⟩))
 ·rintro j t _ _ e ⟨fs,v5,rfl,rfl,hl,hf⟩
  rw[i6] at e
  cases ec:bs[j]? with
  |none=>rw[ec] at e;cases e
  |some z=>
   rw[ec] at e
   cases e
   have hz:=(hb z).mp (i7 ec)
   have hi:=hz.1.inb hw hS
   obtain⟨v,rfl⟩:=kM hi.1
   have hlt:v<fs.length:=by omega
   refine⟨GN n ps S l bs k (some (.int v)) v6,AK 5 KO.nd (by show 5<7;decide),?_⟩
   refine AF (Fq (ET.we (ev 4) (ET.we (ev 2) ⟨l,rfl,ET.we (ev 5) ⟨_,_,v,rfl,AE,by rw[b9];exact Gg hlt,?_⟩⟩)))
   refine⟨fs.set v (some k),_,rfl,by rw[Aq,qL];rfl,by rw[nJ];exact hl,fun y y0 y1 d=>?_⟩
   rw[lM,ec]
   by_cases hy:y=(v:Int)
   ·subst hy
    rw[lC,kB hlt]
    constructor
    ·intro e
     have e:k=d:=by simpa using e
     subst e
     exact .inr ⟨rfl,by simp⟩
    ·rintro(⟨h1,h2⟩| ⟨rfl,_⟩)
     ·have:=h2.uniq hz
      omega
     ·rfl
   ·rw[j7 (by omega),hf y y0 y1 d]
    simp[hy]
 ·rintro _ _ ⟨fs,v5,rfl,rfl,hl,hf⟩
  rw[b9,lQ] at hf
  have h1:Lt n ps S (k+1) fs:=⟨hl,fun v v0 v1 d=>by
   rw[hf v v0 v1 d]
   constructor
   ·rintro(⟨h1,h2⟩| ⟨rfl,h2⟩)
    ·exact⟨by omega,h2⟩
    ·exact⟨by omega,(hb v).mp h2⟩
   ·rintro⟨h1,h2⟩
    by_cases hd:d=k
    ·subst hd;exact .inr ⟨rfl,(hb v).mpr h2⟩
    ·exact .inl ⟨by omega,h2⟩⟩
  clear hf h
  refine AC (AM 6 (Bo (BC ⟨kZ _,fun lb hlb=>?_⟩)) KO.nd)
  have hll:lb≠l:=fun z=>by rw[z,AE] at hlb;cases hlb
  have hlb':O lb=none:=by rw[Ai hll] at hlb;exact hlb
  refine AC (BQ Af.own rfl (EI.wi (BN (ev 3)) ⟨fun j ρ' O'=>∃(ls:List Int) (v5:Option T),ρ'=GN n ps S l bs k v5 (some (.raw (.ref lb)))∧O'=Am (Am O l (fs.map Ap)) lb (ls.map T.int)∧ls.length≤200*j∧j≤bs.length∧∀v:Int,v∈ls↔∃u∈bs.take j,Adj ps u v∧fs.getD v.toNat none=none,⟨[],v5,rfl,rfl,by simp,by omega,fun v=>by simp⟩,?_,?_⟩))
  ·rintro j t _ _ e ⟨ls,v5,rfl,rfl,hls,hj,hv⟩
   rw[i6] at e
   cases ec:bs[j]? with
   |none=>rw[ec] at e;cases e
   |some u=>
    rw[ec] at e
    cases e
    have hj':=(jn.mp ec).1
    have hnl:=Qe (ps:=ps) (x:=u)
    have hpl:=wa.hl
    have gl:Am (Am O l (fs.map Ap)) lb (ls.map T.int) l=some (fs.map Ap):=by rw[Ai hll.symm,AE]
    refine⟨GN n ps S l bs k (some (.int u)) (some (.raw (.ref lb))),AK 5 KO.nd (by show 5<7;decide),?_⟩
    refine AF (BI (BE (ET.we (ev 6) ⟨lb,rfl,⟨_,AE⟩,ET.we (WX ["_law_other"] [("_law_found",2)] (DH ps u) T.int T.int (fun v=>De (Ap (fs.getD v.toNat none))) rfl (Ba (AA Eh) iC (by decide+kernel)) (BN (Aj G hr xf (AG (ev 0) (AG (ev 5) AD)) ⟨n,ps,u,rfl,wa.hl,rfl⟩)) (by omega) fun v hvn=> ⟨[some (.int v),some (.raw (.ref l))],fun X' Oe He is O' hk=>?_⟩) ⟨_,_,rfl,AE,?_,?_⟩⟩)))
    ·obtain⟨cl,s',H',fp,rfl⟩:=is
     have a:=(JE.mp hvn).inb hw
     obtain⟨m,rfl⟩:=kM a.1
     have hlt:m<fs.length:=by omega
     refine⟨AK 0 dg (by decide),Dv FT (DT (hk _ _ gl) (ev 1) (ev 0) (An ?_)),fun _=>ev 0⟩
     rw[i6,jv hlt,lC]
     simp[qP,hlt]
    ·have:=lO (fun v:Int=>De (Ap (fs.getD v.toNat none))) (DH ps u)
     rw[b9,b9]
     have:(200:Nat)*j≤200*60:=Nat.mul_le_mul_left _ (by omega)
     omega
    ·refine⟨ls++(DH ps u).filter (fun v=>De (Ap (fs.getD v.toNat none))),_,rfl,by rw[Aq,kl],?_,by omega,fun v=>?_⟩
     ·have:=lO (fun v:Int=>De (Ap (fs.getD v.toNat none))) (DH ps u)
      rw[j8,Nat.mul_add]
      omega
     ·rw[kj,hv v,lR,JE,lM,ec]
      have e3:De (Ap (fs.getD v.toNat none))=true↔fs.getD v.toNat none=none:=by
       cases fs.getD v.toNat none with
       |none=>exact⟨fun _=>rfl,fun _=>rfl⟩
       |some d=>exact⟨(fun h=>by cases h),(fun h=>by cases h)⟩
      rw[e3]
      constructor
      ·rintro(⟨u',h1,h2⟩|h)
       ·exact⟨u',lZ _ h1,h2⟩
       ·exact⟨u,k8 _ (by simp),h⟩
      ·rintro⟨u',h1,h2⟩
       rcases kj.mp h1 with h1|h1
       ·exact .inl ⟨u',h1,h2⟩
       ·have:u'=u:=by simpa using h1
        subst this
        exact .inr h2
  ·rintro _ _ ⟨ls,v5,rfl,rfl,hls,hj,hv⟩
   rw[b9,lQ] at hv
   have hv2:∀v,v∈ls↔IsD ps S v (k+1):=fun v=>by
    rw[hv v]
    constructor
    ·rintro⟨u,hu,a,hn⟩
     have ab:=a.inb hw
     have hlt:v.toNat<fs.length:=by omega
     obtain⟨d,hd,i⟩:=(W.go ((hb u).mp hu).1 a).least
     by_cases hdk:d<k+1
     ·have:=(h1.eq v ab.1 ab.2.1 d).mpr ⟨hdk,i⟩
      rw[k9,this] at hn
      cases hn
     ·have:d=k+1:=by omega
      rw[←this];exact i
    ·intro i
     obtain⟨u,hu,a⟩:=i.prev
     have ab:=a.inb hw
     refine⟨u,(hb u).mpr hu,a,?_⟩
     have hlt:v.toNat<fs.length:=by omega
     rw[k9,jv hlt]
     cases z:fs[v.toNat] with
     |none=>rfl
     |some d=>
      have:=(h1.eq v ab.1 ab.2.1 d).mp (by rw[jv hlt,z])
      have:=this.2.uniq i
      omega
   refine AC (AM 3 (IU (ns:=ls) (l0:=lb) Tx.nSorted Tx.nSet rfl (ev 6) AE (fun z hz=>?_) fun ms hm1 hm2=>?_) KO.nd)
   ·have:=((hv2 z).mp hz).1.inb hw hS
    omega
   ·refine BD (p:=lb) (n:=6) (ts:=ls.map T.int) AE hlb' rfl ?_
    rw[show Dn (Am (Am O l (fs.map Ap)) lb (ls.map T.int)) lb=Am O l (fs.map Ap) from Al (by rw[Ai hll];exact hlb')]
    refine AF (AM 4 (ET.we (As (ev 4) AB) (q _ _ fs ms h1 ?_ fun v=> (hm2 v).trans (hv2 v))) KO.nd)
    have nd:ms.Nodup:=kP.mpr (hm1.imp fun{a b} h=>by omega)
    have hlm:ms.length≤n.toNat:=Se nd fun z hz=> ((hv2 z).mp ((hm2 z).mp hz)).1.inb hw hS
    omega
theorem UP(F:Fun K "_law_fars" "_law_fars" Eh f fd)(Tx:Txt mg)(G:FnT P w K mg base "_law_near" 1 ["_law_web","_law_place"] Gh):FnOk P w K mg base (CXe P w) 2 f fd ["_law_web","_law_starts"] (Cf K PM):=by
 refine AY F KO ?_ ?_
 ·rintro ts O Φ Ξ ⟨n,ps,S,rfl,_⟩
  rfl
 ·rintro cdv A outer s H E O Ξ hr xf _ Φ ⟨n,ps,S,rfl,wa,hSl,hS,q⟩
  have sb:=AN
  have n0:=wa.n0
  have n1:=wa.n1
  have hu:(A.deeper (nI "_law_fars" (AA Eh) s.heap.objs.size f cdv)).units+101<cLine:=by have:=hr.un;omega
  refine AC (AM 2 (Vs (t:=.non) (Bn (AG Cc AD) (by show 1≤sizeLine;decide)) (AI (ev 0) AB) ⟨by omega,by omega⟩ fun l hlO=>?_) KO.nd)
  refine AC (AM 3 (ET.we (TX Tx.nList (ev 1)) ?_) KO.nd)
  refine AC (AM 4 (ET.we AB ?_) KO.nd)
  have h0:Lt n ps S 0 (j0 n.toNat none):=⟨by rw[ml];omega,fun v v0 v1 d=>by
   rw[mx]
   simp⟩
  refine AC (LX Af.own (fun m ρ' O'=>∃(k:Nat) (bs:List Int) (fs:List (Option Nat)) (v5 v6:Option T),ρ'=GN n ps S l bs k v5 v6∧O'=Am O l (fs.map Ap)∧Lt n ps S k fs∧bs.length≤60∧(∀v,v∈bs↔IsD ps S v k)∧m=n.toNat+1-k) ⟨_,0,S,j0 n.toNat none,none,none,rfl,by rw[List.map_replicate];rfl,h0,by omega,fun v=>UF.symm,rfl⟩ ?_)
  rintro m _ _ ⟨k,bs,fs,v5,v6,rfl,rfl,lt,hbl,hb,rfl⟩
  refine(show EB (dh P w K mg base f cdv A outer s H E O Ξ) (GN n ps S l bs k v5 v6) (Am O l (fs.map Ap)) _ (!decide (bs=[])) from EB.cast (BZ (Hc hu) (Ao _) (QK (t:=.lst (bs.map T.int)) (u:=.lst (([]:List Int).map T.int)) (by rw[Bg];exact Co) (by rw[Bg];exact Co) (by show lL _+1≤100;have:=Da (ns:=bs);omega)) (ev 3) (Bn AD (kZ _))) (show _=!decide (bs=[]) from congrArg (!·) EU)) _ ?_
  by_cases hbs:bs=[]
  ·subst hbs
   refine GP ?_
   have al:All n ps S fs:=⟨lt.len,fun v v0 v1 d=>by
    rw[lt.eq v v0 v1 d]
    refine⟨fun z=>z.2,fun z=> ⟨?_,z⟩⟩
    by_cases hd:d<k
    ·exact hd
    ·obtain⟨j,rfl⟩:∃j,d=k+j:=⟨d-k,by omega⟩
     obtain⟨u,hu⟩:=z.down
     have:=(hb u).mpr hu
     cases this⟩
   refine BD (p:=l) (n:=2) (ts:=fs.map Ap) AE hlO rfl ?_
   rw[Al hlO]
   exact AF (AH (ET.we (ev 2) (q fs al)))
  ·rw[show(!decide (bs=[]))=true by simp[hbs]]
   refine JP (UO Tx (hr.mono (by decide)) xf G hlO wa hS lt hbl hb fun v5 v6 fs' ms lt' hml hm=> ⟨_,?_,k+1,ms,fs',v5,v6,rfl,rfl,lt',hml,hm,rfl⟩)
   cases bs with
   |nil=>exact absurd rfl hbs
   |cons b bs'=>
    have:=((hb b).mp (by simp)).lt (show Sd n ps from wa.hp) hS
    omega
end
end K40
namespace GrR
variable {R D L:Int→Int→Prop} {S:List Int} {v a b:Int} {k:Nat}
open Classical in
noncomputable def KY (R:Int→Int→Prop) (S:List Int) (v:Int):Option Nat:=if h:∃d,IsD R S v d then some (choose h) else none
theorem FV(h:IsD R S v d):KY R S v=some d:=by
 unfold KY
 have hx:∃d,IsD R S v d:=⟨d,h⟩
 rw[dif_pos hx]
 exact congrArg some ((Classical.choose_spec hx).uniq h)
theorem KP:KY R S v=some d↔IsD R S v d:=by
 refine⟨fun e=>?_,FV⟩
 unfold KY at e
 split at e
 ·rename_i h
  cases e
  exact Classical.choose_spec h
 ·cases e
theorem JF(h:∀d,IsD R S v d↔IsD R' S' v' d):KY R S v=KY R' S' v':=by
 cases e:KY R S v with
 |some d=>exact(FV ((h d).mp (KP.mp e))).symm
 |none=>
  cases e':KY R' S' v' with
  |none=>rfl
  |some d=>rw[FV ((h d).mpr (KP.mp e'))] at e;cases e
theorem All.get(al:All n R S fs)(v0:0≤v)(v1:v<n):fs[v.toNat]?=some (KY R S v):=by
 have hl:=al.len
 have hlt:v.toNat<fs.length:=by omega
 cases e:KY R S v with
 |some d=>exact(al.eq v v0 v1 d).mpr (KP.mp e)
 |none=>
  rw[jv hlt]
  cases z:fs[v.toNat] with
  |none=>rfl
  |some d=>
   have:=(al.eq v v0 v1 d).mp (by rw[jv hlt,z])
   rw[FV this] at e
   cases e
theorem W.mono(h:∀u v,L u v→D u v)(w:W L S k v):W D S k v:=by
 induction w with
 |«at» h=>exact .at h
 |go _ a ih=>exact .go ih (h _ _ a)
theorem W.cut(h:∀u v,D u v→L u v∨u=b)(w:W D S k v):W L S k v∨∃j,j<k∧W L S j b:=by
 induction w with
 |«at» h=>exact .inl (.at h)
 | @go k u v w a ih=>
  rcases ih with w'| ⟨j,hj,w'⟩
  ·rcases h _ _ a with l|rfl
   ·exact .inl (.go w' l)
   ·exact .inr ⟨k,by omega,w'⟩
  ·exact .inr ⟨j,by omega,w'⟩
theorem XH(h1:∀u v,L u v→D u v)(h2:∀u v,D u v→L u v∨u=b):IsD D S b d↔IsD L S b d:=by
 constructor
 ·rintro⟨w,m⟩
  refine⟨?_,fun j hj w'=>m j hj (w'.mono h1)⟩
  rcases w.cut h2 with w'| ⟨j,hj,w'⟩
  ·exact w'
  ·exact absurd (w'.mono h1) (m j hj)
 ·rintro⟨w,m⟩
  refine⟨w.mono h1,fun j hj w'=>?_⟩
  rcases w'.cut h2 with w'| ⟨i,hi,w'⟩
  ·exact m j hj w'
  ·exact m i (by omega) w'
theorem W.consR(a:R p q)(h:W R [q] k v):W R [p] (k+1) v:=by
 induction h with
 |«at» h=>rw[jz.mp h];exact .go (.at (by simp)) a
 |go _ b ih=>exact .go ih b
theorem W.rev(sy:∀u v,R u v→R v u)(h:W R [a] k v):W R [v] k a:=by
 induction h with
 |«at» h=>rw[jz.mp h];exact .at (by simp)
 |go _ b ih=>exact .consR (sy _ _ b) ih
theorem XI(sy:∀u v,R u v→R v u):IsD R [a] b d↔IsD R [b] a d:=
 ⟨fun h=> ⟨h.1.rev sy,fun j hj w=>h.2 j hj (w.rev sy)⟩,fun h=> ⟨h.1.rev sy,fun j hj w=>h.2 j hj (w.rev sy)⟩⟩
theorem XJ:Gr.W ps S k v↔W (Gr.Adj ps) S k v:=by
 constructor
 ·intro h
  induction h with
  |«at» h=>exact .at h
  |go _ a ih=>exact .go ih a
 ·intro h
  induction h with
  |«at» h=>exact .at h
  |go _ a ih=>exact .go ih a
theorem aX:Gr.IsD ps S v d↔IsD (Gr.Adj ps) S v d:=
 ⟨fun h=> ⟨XJ.mp h.1,fun j hj w=>h.2 j hj (XJ.mpr w)⟩,fun h=> ⟨XJ.mpr h.1,fun j hj w=>h.2 j hj (XJ.mp w)⟩⟩
theorem aY(h:Gr.All n ps S fs):All n (Gr.Adj ps) S fs:=⟨h.len,fun v v0 v1 d=> (h.eq v v0 v1 d).trans aX⟩
end GrR
namespace L2.TL
open PySem PySem.Spec PyProof.Rows
section
variable {pos p:Pos}
theorem Qf(m:Z.X.mg "list" =none)(h:ET Z ρ O e (.lst ts))(q:∀a,O a=none→Φ (.raw (.ref a)) (Am O a ts))(hg:Gl Z.X "list":=by rfl)(he:i5 [e] Z.X.env=(false,eval e Z.X.env)::i5 [] Z.X.env:=by rfl):WE Z ρ O (.Call (.Name "list" p) [e] [] pos) Φ:=
 Fn Ed m SQ (AX h AD he _ (fun H vs Q ok r k=>by
  obtain⟨v,rfl,r1⟩:=r.one_inv
  obtain⟨a,xs,rfl,h1,_,r1⟩:=r1.lst_inv
  exact⟨a,xs,rfl,.inl (.inl (.inl h1)),fun p hp=>k _ _ _ _ (q p (ok.none_of hp)) (.newO ok hp r1) (.raw _)⟩)) hg (by decide) (by decide) he
end
end L2.TL
namespace K40
open PySem L2 L2.TL PySem.Spec PyProof.Rows GrR
noncomputable def MH:List Int→Option Int
 | []=>none
 |x::xs=>some (match MH xs with|none=>x|some m=>min x m)
theorem KQ:∀(ns:List Int),Fy ns (MH ns)
 | []=>rfl
 |x::xs=>by
  have h:=KQ xs
  show Fy (x::xs) (some (match MH xs with|none=>x|some m=>min x m))
  cases e:MH xs with
  |none=>
   rw[e] at h
   rw[show xs=[] from h]
   exact⟨by simp,fun n hn=>by rw[jz.mp hn];exact nP _⟩
  |some m=>
   rw[e] at h
   refine⟨?_,fun n hn=>?_⟩
   ·rcases qM x m with hx|hx
    ·show min x m∈_
     rw[Int.min_eq_left hx];simp
    ·show min x m∈_
     rw[Int.min_eq_right hx];exact jt _ h.1
   ·rcases ju.mp hn with rfl|hn
    ·exact Int.min_le_left ..
    ·exact n8 (Int.min_le_right ..) (h.2 n hn)
noncomputable def Hv(rows:List (List Int))(a b:Int):List (List Int):=rows.set a.toNat ((rows.getD a.toNat []).filter fun v=>decide (v≠b))
noncomputable def Hw(rows:List (List Int))(a b:Int):Option Nat:=(KY (Rw (Hv rows a b)) [a] b).map (· +1)
theorem Nj(a0:0≤a)(a1:a<rows.length):Rw (Hv rows a b) u v↔Rw rows u v∧¬(u=a∧v=b):=by
 unfold Rw Hv
 have hlt:a.toNat<rows.length:=by omega
 by_cases hu:u=a
 ·subst hu
  rw[k9,kB hlt]
  simp only[Option.getD_some,lR,decide_eq_true_eq]
  constructor
  ·rintro⟨h0,h1,h2⟩
   exact⟨⟨h0,h1⟩,fun z=>h2 z.2⟩
  ·rintro⟨⟨h0,h1⟩,h2⟩
   exact⟨h0,h1,fun z=>h2 ⟨trivial,z⟩⟩
 ·constructor
  ·rintro⟨h0,h1⟩
   rw[k9,j7 (by omega),←k9] at h1
   exact⟨⟨h0,h1⟩,fun z=>hu z.1⟩
  ·rintro⟨⟨h0,h1⟩,_⟩
   refine⟨h0,?_⟩
   rw[k9,j7 (by omega),←k9]
   exact h1
theorem aZ(rn:RowsN n rows)(a0:0≤a)(a1:a<n):RowsN n (Hv rows a b):=
 ⟨by unfold Hv;rw[nJ];exact rn.len,rn.n1,fun u v h=>rn.hw u v ((Nj a0 (by have:=rn.len;omega)).mp h).1⟩
noncomputable def CI(n:Int)(ps:List (Int×Int)):List (List Int):=(jr n.toNat).map fun i=>BF ps i
theorem Qg:Hs n ps=Ht (CI n ps):=by
 unfold Hs CI
 show _=T.lst (((jr n.toNat).map fun i=>BF ps i).map fun r=>T.lst (r.map T.int))
 rw[kI]
 rfl
theorem MI{i:Nat}(h:(i:Int)<n):(CI n ps).getD i []=BF ps i:=by
 unfold CI
 rw[k9,i6,pq (by omega)]
 rfl
theorem KR(hw:Gr.Sd n ps):Rw (CI n ps) u v↔Gr.Adj ps u v:=by
 constructor
 ·rintro⟨h0,h⟩
  obtain⟨i,rfl⟩:=kM h0
  rw[lC] at h
  by_cases hi:(i:Int)<n
  ·rw[MI hi] at h
   exact(JC hw).mp h
  ·unfold CI at h
   rw[k9,i6,mn (by rw[kr];omega)] at h
   cases h
 ·intro a
  have hb:=a.symm.inb hw
  obtain⟨i,rfl⟩:=kM hb.1
  refine⟨by omega,?_⟩
  rw[lC,MI hb.2.1]
  exact(JC hw).mpr a
theorem PN(wn:WebN n ps):RowsN n (CI n ps):=
 ⟨by have:=wn.n0;unfold CI;simp;omega,wn.n1,fun u v h=>by have:=((KR wn.hw).mp h).inb wn.hw;exact⟨this.1,this.2.1⟩⟩
section
variable {K:a8}
noncomputable def YF:CV:=FX fun ts r=>∃xs:List (Option Nat),ts=[.lst (xs.map Ap)]∧xs.length≤300∧r=KE (MH (GC xs))
theorem di:FnScope ["numbers"] ["numbers"] (AA Jv):=⟨rfl,rfl,rfl,by decide+kernel,rfl,by decide+kernel,by decide+kernel⟩
theorem dj:(Ah ["number"] []).Nodup:=by decide+kernel
theorem UQ(F:Fun K "least_told" "least_told" Jv f fd)(Tx:Txt mg):FnOk P w K mg base (CXe P w) 1 f fd ["numbers"] (Cf K YF):=by
 refine AY F di ?_ ?_
 ·rintro ts O Φ Ξ ⟨r,⟨xs,rfl,_⟩,_⟩
  rfl
 ·rintro cdv A outer s H E O Ξ hr xf _ Φ ⟨_,⟨xs,rfl,hl,rfl⟩,q⟩
  have sb:=AN
  refine AF (AH (ET.we (WZ (KQ _) Tx.nMin rfl (ET.cast (Du ["number"] [] xs Ap Ap qr rfl (Ba (AA Jv) ["numbers"] (by decide+kernel)) (BN (ev 0)) (by omega) fun x hx=> ⟨[some (Ap x)],fun X' Oe He is O'=>?_⟩) (by rw[FU]))) q))
  obtain⟨cl,s',H',fp,rfl⟩:=is
  refine⟨AK 0 dj (by decide),EB.cast (PL FT (ev 0)) ?_,fun _=>ev 0⟩
  cases x<;>rfl
noncomputable def YG:CV:=FX fun ts r=>∃(n:Int) (rows:List (List Int)) (a b:Int),ts=[Ht rows,.int a,.int b]∧RowsN n rows∧(∀r∈rows,r.length≤300)∧(0≤a∧a<n)∧(0≤b∧b<n)∧r=Ap (Hw rows a b)
noncomputable def dm:List Str:=["nears","a","b","cut","far"]
theorem UR:FnScope dm ["nears","a","b"] (AA WC):=⟨rfl,rfl,rfl,by decide+kernel,rfl,by decide+kernel,by decide+kernel⟩
theorem dr:(Ah ["near"] [(("b" :Str),2)]).Nodup:=by decide+kernel
theorem aa(F:Fun K "ring_by_tie" "ring_by_tie" WC f fd)(Tx:Txt mg)(G:FnT P w K mg base "fars_from" 1 ["nears","starts"] PH):FnOk P w K mg base (CXe P w) 2 f fd ["nears","a","b"] (Cf K YG):=by
 refine AY F UR ?_ ?_
 ·rintro ts O Φ Ξ ⟨r,⟨n,rows,a,b,rfl,_⟩,_⟩
  rfl
 ·rintro cdv A outer s H E O Ξ hr xf _ Φ ⟨_,⟨n,rows,a,b,rfl,rn,hlr,ha,hb,rfl⟩,q⟩
  have sb:=AN
  have hl:=rn.len
  have n1:=rn.n1
  obtain⟨i,rfl⟩:=kM ha.1
  obtain⟨j,rfl⟩:=kM hb.1
  have hi:i<rows.length:=by omega
  have hri:(rows.getD i []).length≤300:=hlr _ (by rw[k9,jv hi];exact mJ hi)
  refine AC (AM 3 (Qf Tx.nList (ev 0) fun l hlO=>?_) UR.nd)
  refine AC (Fq (ET.we (t:=.lst (((rows.getD i []).filter fun v=>decide (v≠(j:Int))).map T.int)) (Du ["near"] [("b",2)] (rows.getD i []) T.int T.int (fun v=>decide (v≠(j:Int))) rfl (Ba (AA WC) dm (by decide+kernel)) (BN (Ef (ev 0) (ev 1) (PF hi))) (by omega) fun x hx=> ⟨[some (.int x),some (.int (j:Int))],fun X' Oe He is O'=>?_⟩) (ET.we (ev 3) ⟨l,rfl,ET.we (ev 1) ⟨_,_,i,rfl,AE,by rw[b9];exact Gg hi,?_⟩⟩)))
  ·obtain⟨cl,s',H',fp,rfl⟩:=is
   refine⟨AK 0 dr (by decide),EB.cast (Mw (ev 0) (ev 1)) ?_,fun _=>ev 0⟩
   by_cases h:x=(j:Int)<;>simp[h]
  ·rw[Aq]
   have eset:(rows.map fun r=>T.lst (r.map T.int)).set i (.lst (((rows.getD i []).filter fun v=>decide (v≠(j:Int))).map T.int))=(Hv rows (i:Int) (j:Int)).map fun r=>T.lst (r.map T.int):=by
    unfold Hv
    rw[qL,lC]
   rw[eset]
   refine BD (p:=l) (n:=3) AE hlO rfl ?_
   rw[Al hlO]
   refine AC (AM 4 (HV Bz (fun _ _=>rfl) (Ax G hr xf (EA.wa (AG (ev 3) (AG (Bn (ts:=[(i:Int)].map T.int) (AG (ev 1) AD) (by show 1≤sizeLine;decide)) AD)) ⟨n,Hv rows i j,[(i:Int)],rfl,aZ rn ha.1 ha.2,fun z hz=>?_,fun fs al=>?_⟩))) UR.nd)
   ·rw[jz.mp hz];exact ha
   ·have hlf:=al.len
    have hg:=al.get hb.1 hb.2
    rw[lC] at hg
    refine ET.we (ev 2) (Ee (t:=Ap (KY (Rw (Hv rows i j)) [(i:Int)] j)) (An (by rw[i6,hg];rfl)) _ ?_)
    unfold Hw at q
    generalize KY (Rw (Hv rows i j)) [(i:Int)] j=x at q
    cases x with
    |none=>exact AF (AH (ET.we (BP (x:=true) (ta:=.non) (tb:=.non) (Dv (t:=.non) rfl (ev 4)) (fun _=>Cc) (fun h=>by cases h)) q))
    |some d=>exact AF (AH (ET.we (BP (x:=false) (ta:=.non) (tb:=.int ((d:Int)+1)) (Dv (t:=.int (d:Int)) rfl (ev 4)) (fun h=>by cases h) (fun _=>As (ev 4) AB)) q))
theorem US(wn:WebN n ps):∀r∈CI n ps,r.length≤300:=fun r hr=>by
 unfold CI at hr
 obtain⟨i,_,rfl⟩:=jw.mp hr
 have:=El (qs:=ps) (i:=i)
 have:=wn.hl
 omega
end
end K40
namespace L2.TL
open PySem PySem.Spec PyProof.Rows
theorem ae(hr:DF t=false)(ha:ET Z ρ O a t):ET Z ρ O (.Compare a [.Is] [.Constant .none j p1] pos) (.bl (De t)):=Cu RG (Ao _) (fun Φ p H v w Q ok r1 r2 q=>by
 refine⟨r2.non_inv,?_⟩
 have e:decide (v=V.non)=De t:=by
  cases r1<;>first|rfl|cases hr
 rw[e]
 exact q _ H _ O p (.refl ok) (.bl _)) ha Cc
end L2.TL
namespace K40
open PySem L2 L2.TL PySem.Spec PyProof.Rows GrR
noncomputable def EZ(ps:List (Int×Int))(t:Int×Int):List (Int×Int):=ps.filter fun q=>decide (q≠t)
noncomputable def IV(ps:List (Int×Int))(t:Int×Int):Option Nat:=(KY (Gr.Adj (EZ ps t)) [t.1] t.2).map (· +1)
theorem Hx(hw:Gr.Sd n ps):Gr.Adj (EZ ps (mm (a,b))) u v↔Gr.Adj ps u v∧¬(u=a∧v=b)∧¬(u=b∧v=a):=by
 have key:∀x y:Int,(x,y)∈EZ ps (mm (a,b))↔(x,y)∈ps∧¬(x=a∧y=b)∧¬(x=b∧y=a):=fun x y=>by
  unfold EZ
  rw[lR,decide_eq_true_eq]
  constructor
  ·rintro⟨h,hne⟩
   have hxy:=(hw _ h).2.1
   simp only at hxy
   refine⟨h,fun⟨e1,e2⟩=>hne ?_,fun⟨e1,e2⟩=>hne ?_⟩
   ·subst e1 e2;exact mz (by show x=min x y;omega) (by show y=max x y;omega)
   ·subst e1 e2;exact mz (by show x=min y x;omega) (by show y=max y x;omega)
  ·rintro⟨h,h1,h2⟩
   refine⟨h,fun e=>?_⟩
   have e1:x=min a b:=congrArg ni e
   have e2:y=max a b:=congrArg Prod.snd e
   rcases qM a b with hab|hab
   ·exact h1 ⟨by omega,by omega⟩
   ·exact h2 ⟨by omega,by omega⟩
 unfold Gr.Adj
 rw[key,key]
 constructor
 ·rintro(⟨h,h1,h2⟩| ⟨h,h1,h2⟩)
  ·exact⟨.inl h,h1,h2⟩
  ·exact⟨.inr h,fun z=>h2 ⟨z.2,z.1⟩,fun z=>h1 ⟨z.2,z.1⟩⟩
 ·rintro⟨h|h,h1,h2⟩
  ·exact .inl ⟨h,h1,h2⟩
  ·exact .inr ⟨h,fun z=>h2 ⟨z.2,z.1⟩,fun z=>h1 ⟨z.2,z.1⟩⟩
theorem UT(wn:WebN n ps)(ad:Gr.Adj ps a b):Hw (CI n ps) a b=IV ps (mm (a,b)):=by
 have ha:=ad.symm.inb wn.hw
 have hl:=(PN wn).len
 have e1:KY (Rw (Hv (CI n ps) a b)) [a] b=KY (Gr.Adj (EZ ps (mm (a,b)))) [a] b:=JF fun d=>XH
  (fun u v h=> (Nj ha.1 (by omega)).mpr ⟨(KR wn.hw).mpr ((Hx wn.hw).mp h).1,((Hx wn.hw).mp h).2.1⟩)
  (fun u v h=>by
   obtain⟨h1,h2⟩:=(Nj ha.1 (by omega)).mp h
   by_cases hu:u=b∧v=a
   ·exact .inr hu.1
   ·exact .inl ((Hx wn.hw).mpr ⟨(KR wn.hw).mp h1,h2,hu⟩))
 unfold Hw IV
 rw[e1]
 congr 1
 rcases qM a b with hab|hab
 ·have:mm (a,b)=(a,b):=mz (by show min a b=a;omega) (by show max a b=b;omega)
  rw[this]
 ·have:mm (a,b)=(b,a):=mz (by show min a b=b;omega) (by show max a b=a;omega)
  rw[this]
  exact JF fun d=>XI fun u v h=>Gr.Adj.symm h
theorem dt(hw:Gr.Sd n ps)(h:p∈ps):mm p=p∧mm (p.2,p.1)=p:=by
 have:=(hw _ h).2.1
 exact⟨mz (by show min p.1 p.2=p.1;omega) (by show max p.1 p.2=p.2;omega),mz (by show min p.2 p.1=p.1;omega) (by show max p.2 p.1=p.2;omega)⟩
section
variable {K:a8}
theorem XM(wa:WebA n ps)(t:Int×Int):WebA n (EZ ps t):=
 ⟨wa.n0,wa.n1,fun p hp=>wa.hp p (lR.mp hp).1,kO (lO ..) wa.hl⟩
noncomputable def YH:CV:=FX fun ts r=>∃n ps p,ts=[Cv n ps,AU p]∧WebA n ps∧(0≤p.1∧p.1<n)∧(0≤p.2∧p.2<n)∧r=Ap (IV ps p)
noncomputable def du:List Str:=["_law_web","_law_tie","_law_less","_law_far"]
theorem UU:FnScope du ["_law_web","_law_tie"] (AA Sr):=⟨rfl,rfl,rfl,by decide+kernel,rfl,by decide+kernel,by decide+kernel⟩
theorem dv:(Ah ["_law_other"] [(("_law_tie" :Str),1)]).Nodup:=by decide+kernel
theorem af(F:Fun K "_law_through" "_law_through" Sr f fd)(Tx:Txt mg)(G:FnT P w K mg base "_law_fars" 2 ["_law_web","_law_starts"] PM):FnOk P w K mg base (CXe P w) 3 f fd ["_law_web","_law_tie"] (Cf K YH):=by
 refine AY F UU ?_ ?_
 ·rintro ts O Φ Ξ ⟨r,⟨n,ps,p,rfl,_⟩,_⟩
  rfl
 ·rintro cdv A outer s H E O Ξ hr xf _ Φ ⟨_,⟨n,ps,p,rfl,wa,h1,h2,rfl⟩,q⟩
  have sb:=AN
  have hpl:=wa.hl
  have hu:(A.deeper (nI "_law_through" (AA Sr) s.heap.objs.size f cdv)).units+101<cLine:=by have:=hr.un;omega
  refine AC (AM 2 (ET.we (t:=Cv n (EZ ps p)) (AV (AG (AI (ev 0) AB) (AG (LU Tx.nTuple (Du ["_law_other"] [("_law_tie",1)] ps AU AU (fun q=>decide (q≠p)) rfl (Ba (AA Sr) du (by decide+kernel)) (DU (AI (ev 0) AB)) (by omega) fun x hx=> ⟨[some (AU x),some (AU p)],fun X' Oe He is O'=>?_⟩)) AD)) (by show 2≤sizeLine;decide)) ?_) UU.nd)
  ·obtain⟨cl,s',H',fp,rfl⟩:=is
   refine⟨AK 0 dv (by decide),EB.cast (BZ (Hc hu) (Ao _) (QK (Od x) (Od p) (NF x)) (ev 0) (ev 1)) ?_,fun _=>ev 0⟩
   rw[LW]
   by_cases h:x=p<;>simp[h]
  ·refine AC (AM 3 (HV Bz (fun _ _=>rfl) (Ax G hr xf (EA.wa (AG (ev 2) (AG (Bn (ts:=[p.1].map T.int) (AG (AI (ev 1) AB) AD) (by show 1≤sizeLine;decide)) AD)) ⟨n,EZ ps p,[p.1],rfl,XM wa p,by simp,fun z hz=>by rw[jz.mp hz];exact h1,fun fs al=>?_⟩))) UU.nd)
   have hg:=(aY al).get h2.1 h2.2
   obtain⟨j,hj⟩:=kM h2.1
   rw[hj,lC] at hg
   refine ET.we (AI (ev 1) AB) (Ee (t:=Ap (KY (Gr.Adj (EZ ps p)) [p.1] p.2)) ?_ _ ?_)
   ·rw[hj]
    exact An (by rw[i6,hg];rfl)
   ·unfold IV at q
    generalize KY (Gr.Adj (EZ ps p)) [p.1] p.2=x at q
    cases x with
    |none=>exact AF (AH (ET.we (BP (x:=true) (ta:=.non) (tb:=.non) (Dv (t:=.non) rfl (ev 3)) (fun _=>Cc) (fun h=>by cases h)) q))
    |some d=>exact AF (AH (ET.we (BP (x:=false) (ta:=.non) (tb:=.int ((d:Int)+1)) (Dv (t:=.int (d:Int)) rfl (ev 3)) (fun h=>by cases h) (fun _=>As (ev 3) AB)) q))
noncomputable def UV:CV:=FX fun ts r=>∃x:Option Int,ts=[KE x,KE x]∧r=.bl true
theorem ag:FnScope ["_law_found","_law_due"] ["_law_found","_law_due"] (AA Ss):=⟨rfl,rfl,rfl,by decide+kernel,rfl,by decide+kernel,by decide+kernel⟩
theorem UW(F:Fun K "_law_is_of" "_law_is_of" Ss f fd)(G:FnT P w K mg base "_law_whole" 1 ["_law_found"] Dx):FnOk P w K mg base (CXe P w) 2 f fd ["_law_found","_law_due"] (Cf K UV):=by
 refine AY F ag ?_ ?_
 ·rintro ts O Φ Ξ ⟨r,⟨x,rfl,_⟩,_⟩
  rfl
 ·rintro cdv A outer s H E O Ξ hr xf _ Φ ⟨_,⟨x,rfl,rfl⟩,q⟩
  cases x with
  |none=>exact AF (AH (ET.we (BP (x:=true) (ta:=.bl true) (tb:=.bl true) (Dv (t:=.non) rfl (ev 1)) (fun _=>ae (t:=.non) rfl (ev 0)) (fun h=>by cases h)) q))
  |some m=>
   refine AF (AH (ET.we (BP (x:=false) (ta:=.bl true) (tb:=.bl true) (Dv (t:=.int m) rfl (ev 1)) (fun h=>by cases h) (fun _=>ET.cast (Bw (x:=true) (y:=true) (Aj G hr xf (AG (ev 0) AD) ⟨.int m,rfl,rfl,rfl⟩) fun _=>DS (ET.cast (Cu Gm (Ao _) Mv (ev 0) (ev 1)) ?_)) rfl)) q))
   simp
end
end K40
namespace L2.TL
open PySem PySem.Spec PyProof.Rows
end L2.TL
namespace K40
open PySem L2 L2.TL PySem.Spec PyProof.Rows Gr
section
variable {K:a8}
theorem UX:FnScope ["web","counts"] ["web"] (AA Oo):=⟨rfl,rfl,rfl,by decide+kernel,rfl,by decide+kernel,by decide+kernel⟩
theorem XN(F:Fun K "even_by" "even_by" Oo f fd)(Tx:Txt mg)(G:FnT P w K mg base "nears_of" 1 ["web"] KJ):FnOk P w K mg base (CXe P w) 2 f fd ["web"] (Cf K UI):=by
 refine AY F UX ?_ ?_
 ·rintro ts O Φ Ξ ⟨r,⟨n,ps,rfl,_⟩,_⟩
  rfl
 ·rintro cdv A outer s H E O Ξ hr xf _ Φ ⟨_,⟨n,ps,rfl,wn,n0,rfl⟩,q⟩
  have sb:=AN
  have n1:=wn.n1
  have hlen:(Bt n ps).length=n.toNat:=by simp[Bt]
  have hne:Bt n ps≠[]:=fun z=>by rw[z] at hlen;simp at hlen;omega
  obtain⟨a,ha⟩:=MC hne
  obtain⟨b,hb⟩:=PK hne
  have e0:atI ((Bt n ps).map T.int) 0=some (.int ((Bt n ps).headD 0)):=by
   cases z:Bt n ps with
   |nil=>exact absurd z hne
   |cons x xs=>
    show atI _ ((0:Nat):Int)=_
    exact An rfl
  refine AC (FG (i:=1) (nc:=["near"]) (cap:=[]) (by rfl) UX.nd rfl (Ba (AA Oo) ["web","counts"] (by decide+kernel)) (EI.wi (BN (Aj G hr xf (AG (ev 0) AD) ⟨n,ps,rfl,wn.n0,wn.n1,wn.hw,wn.hl,rfl⟩)) (Ha (jr n.toNat) (fun i=>T.lst ((BF ps i).map T.int)) (fun i=>T.int (((BF ps i).map T.int).length:Int)) (by simp;omega) (fun x hx=> ⟨[some (.lst ((BF ps x).map T.int))],fun X' Oe He is O'=>?_⟩) ?_)))
  ·obtain⟨cl,s',H',fp,rfl⟩:=is
   exact⟨AK 0 da (by decide),Gb Tx.nLen (ev 0)⟩
  ·have e1:(jr n.toNat).map (fun i=>T.int (((BF ps i).map T.int).length:Int))=(Bt n ps).map T.int:=by simp[Bt]
   rw[e1]
   refine AF (AH (ET.we (BP (SF (PJ ha Tx.nMin rfl (ev 1)) (XD hb Tx.nMax rfl (ev 1))) (fun _=>Ef (ev 1) AB e0) (fun _=>Cc)) ?_))
   have:(if decide (a=b)=true then T.int ((Bt n ps).headD 0) else T.non)=bM (Bt n ps):=by
    unfold bM
    rw[aU ha hb]
   rw[this]
   exact q
end
open SrtG
theorem ah:(CO.all fun k=>decide (1≤(CW k).1)&&decide ((CW k).1≤16)&&(CH k).all (fun p=>decide (0≤p.1)&&decide (p.1<p.2)&&decide (p.2< (CW k).1))&&decide ((CH k).length≤200))=true:=by decide+kernel
theorem UY(h:KIs k):WebA (CW k).1 (CH k):=by
 have:=kA.mp ah k h.mem
 simp only[ki] at this
 obtain⟨⟨⟨h1,h2⟩,h3⟩,h4⟩:=this
 refine⟨of_decide_eq_true h1,of_decide_eq_true h2,fun p hp=>?_,of_decide_eq_true h4⟩
 have:=kA.mp h3 p hp
 simp only[ki] at this
 exact⟨of_decide_eq_true this.1.1,of_decide_eq_true this.1.2,of_decide_eq_true this.2⟩
theorem Qh{i:Nat}:(DH ps (i:Int)).length=(BF ps i).length:=by
 unfold DH BF
 rw[b9]
 induction ps with
 |nil=>rfl
 |cons p ps ih=>
  by_cases h1:p.1=(i:Int)
  ·rw[rY,if_pos (by simp[h1]),lT,if_pos h1,km,km,ih]
  ·by_cases h2:p.2=(i:Int)
   ·rw[rY,if_pos (by simp[h2]),lT,if_neg h1,if_pos h2,km,km,ih]
   ·have h3:¬(decide ((i:Int)∈[p.1,p.2])=true):=by
     simp only[ju,mi,or_false,decide_eq_true_eq]
     rintro(z|z)
     ·exact h1 z.symm
     ·exact h2 z.symm
    rw[rY,if_neg h3,lT,if_neg h1,if_neg h2,ih]
noncomputable def ai(ps:List (Int×Int)):Option Int:=MH (GC (ps.map fun p=>IV ps p))
theorem dw(wn:WebN n ps):MH (GC (ps.map fun p=>Hw (CI n ps) p.1 p.2))=ai ps:=by
 unfold ai
 congr 2
 refine List.map_congr_left fun p hp=>?_
 rw[UT wn (show Gr.Adj ps p.1 p.2 from .inl hp)]
 exact congrArg (IV ps) (dt wn.hw hp).1
theorem dy:(Ah ["a","b"] [(("nears" :Str),1)]).Nodup:=by decide+kernel
section
variable {P:Program} {w:World} {K:a8} {mg:Str→Option Value} {base:Heap} {CL:Addr}
noncomputable def PP:CV:=FX fun ts r=>∃n ps,ts=[Cv n ps]∧WebN n ps∧r=KE (ai ps)
theorem PQ:FnScope ["web","nears"] ["web"] (AA Jw):=⟨rfl,rfl,rfl,by decide+kernel,rfl,by decide+kernel,by decide+kernel⟩
theorem UZ(F:Fun K "shortest" "shortest" Jw f fd)(G:FnT P w K mg base "nears_of" 1 ["web"] KJ)(Gr:FnT P w K mg base "ring_by_tie" 2 ["nears","a","b"] YG)(Gl:FnT P w K mg base "least_told" 1 ["numbers"] YF):FnOk P w K mg base (CXe P w) 3 f fd ["web"] (Cf K PP):=by
 refine AY F PQ ?_ ?_
 ·rintro ts O Φ Ξ ⟨r,⟨n,ps,rfl,_⟩,_⟩
  rfl
 ·rintro cdv A outer s H E O Ξ hr xf _ Φ ⟨_,⟨n,ps,rfl,wn,rfl⟩,q⟩
  have sb:=AN
  have hl:=wn.hl
  refine AC (AM 1 (ET.we (Aj G (hr.mono (by decide)) xf (AG (ev 0) AD) ⟨n,ps,rfl,wn.n0,wn.n1,wn.hw,wn.hl,rfl⟩) ?_) PQ.nd)
  rw[Qg,←dw wn] at*
  refine AF (AH (ET.we (Aj Gl (hr.mono (by decide)) xf (AG (BL ["a","b"] [("nears",1)] ps AU (fun p=>Ap (Hw (CI n ps) p.1 p.2)) rfl (Ba (AA Jw) ["web","nears"] (by decide+kernel)) (DU (AI (ev 0) AB)) (by omega) fun p hp=> ⟨[some (.int p.1),some (.int p.2),some (Ht (CI n ps))],fun X' Oe He is O'=>?_⟩) AD) ⟨ps.map fun p=>Hw (CI n ps) p.1 p.2,by rw[kI];rfl,by rw[b9];omega,rfl⟩) q))
  obtain⟨cl,s',H',fp,rfl⟩:=is
  have hb:=wn.hw p hp
  exact⟨GZ 0 1 rfl dy (by decide) (by decide),Aj Gr hr BV (AG (ev 2) (AG (ev 0) (AG (ev 1) AD))) ⟨n,CI n ps,p.1,p.2,rfl,PN wn,US wn,by omega,by omega,rfl⟩⟩
noncomputable def MM(k:Kd):T:=.tup [.int (CW k).1,.int ((CH k).length:Int)]
noncomputable def Qi(k:Kd):T:=bM (Bt (CW k).1 (CH k))
noncomputable def MJ(k:Kd):T:=KE (ai (CH k))
noncomputable def Qj(CL:Addr)(g:Kd→T):CV:=fun ts O Φ Ξ=>∃t,ts=[t]∧Thing t∧(Ay t=false→Ξ (.ref CL) O)∧∀k,t=kT k→KIs k→Ay t=true→Φ (g k) O
theorem dz:FnScope ["kind","web"] ["kind"] (AA gc):=⟨rfl,rfl,rfl,by decide+kernel,rfl,by decide+kernel,by decide+kernel⟩
theorem eB(F:Fun K "kind_counts" "kind_counts" gc f fd)(Tx:Txt mg)(G:FnT P w K mg base "web_by" 5 ["kind"] (Gf CL)):FnOk P w K mg base (CXe P w) 6 f fd ["kind"] (Cf K (Qj CL MM)):=by
 refine AY F dz ?_ ?_
 ·rintro ts O Φ Ξ ⟨t,rfl,_⟩
  rfl
 ·rintro cdv A outer s H E O Ξ hr xf _ Φ ⟨t,rfl,ht,q1,q2⟩
  refine AC (AM 1 (Ax G hr xf (EA.wa (AG (ev 0) AD) ⟨t,rfl,ht,q1,fun k e hk hg rs h1 h2 h3=>?_⟩)) dz.nd)
  rw[Nc hk h1 h2]
  have q:=q2 k e hk hg
  have el:(((CH k).map AU).length:Int)=((CH k).length:Int):=by rw[b9]
  exact AF (AH (ET.we (AV (ts:=[.int (CW k).1,.int ((CH k).length:Int)]) (AG (AI (t:=.int (CW k).1) (ev 1) AB) (AG (ET.cast (CC (ts:=(CH k).map AU) Tx.nLen (AI (ev 1) AB)) (by rw[el])) AD)) (by show 2≤sizeLine;decide)) q))
theorem iE:FnScope ["kind"] ["kind"] (AA gf):=⟨rfl,rfl,rfl,by decide+kernel,rfl,by decide+kernel,by decide+kernel⟩
theorem eC(F:Fun K "kind_even" "kind_even" gf f fd)(G:FnT P w K mg base "web_by" 5 ["kind"] (Gf CL))(Ge:FnT P w K mg base "even_by" 2 ["web"] UI):FnOk P w K mg base (CXe P w) 6 f fd ["kind"] (Cf K (Qj CL Qi)):=by
 refine AY F iE ?_ ?_
 ·rintro ts O Φ Ξ ⟨t,rfl,_⟩
  rfl
 ·rintro cdv A outer s H E O Ξ hr xf _ Φ ⟨t,rfl,ht,q1,q2⟩
  refine AF (AH (Ax Ge (hr.mono (by decide)) xf (QI (Ax G hr xf (EA.wa (AG (ev 0) AD) ⟨t,rfl,ht,q1,fun k e hk hg rs h1 h2 h3=>BC ?_⟩)))))
  rw[Nc hk h1 h2]
  have wa:=UY hk
  exact⟨_,⟨_,_,rfl,wa.wn,wa.n0,rfl⟩,q2 k e hk hg⟩
theorem iF:FnScope ["kind"] ["kind"] (AA gh):=⟨rfl,rfl,rfl,by decide+kernel,rfl,by decide+kernel,by decide+kernel⟩
theorem eD(F:Fun K "kind_ring" "kind_ring" gh f fd)(G:FnT P w K mg base "web_by" 5 ["kind"] (Gf CL))(Gs:FnT P w K mg base "shortest" 3 ["web"] PP):FnOk P w K mg base (CXe P w) 6 f fd ["kind"] (Cf K (Qj CL MJ)):=by
 refine AY F iF ?_ ?_
 ·rintro ts O Φ Ξ ⟨t,rfl,_⟩
  rfl
 ·rintro cdv A outer s H E O Ξ hr xf _ Φ ⟨t,rfl,ht,q1,q2⟩
  refine AF (AH (Ax Gs (hr.mono (by decide)) xf (QI (Ax G hr xf (EA.wa (AG (ev 0) AD) ⟨t,rfl,ht,q1,fun k e hk hg rs h1 h2 h3=>BC ?_⟩)))))
  rw[Nc hk h1 h2]
  exact⟨_,⟨_,_,rfl,(UY hk).wn,rfl⟩,q2 k e hk hg⟩
end
end K40
namespace L2
open PySem PySem.Spec PyProof.Rows
section
variable {X:Cx} {pos:Pos}
theorem XO(hh:A.handled=none)(hl:s.heap.IsList l #[u1,u2,u3])
  (hQ:∀h',ug s.heap.objs.size s.heap h'→Q [u1,u2,u3] {s with heap:=h'}):wpAny (model prog w) A (unpackItems (.ref l) 3 none) Q E s:=by
 have hlt:l≠s.heap.objs.size:=by obtain⟨o,ho,_⟩:=hl;exact ke (jo ho)
 have stay:∀{h1 h2:Heap},ug s.heap.objs.size h1 h2→h1.IsList l #[u1,u2,u3]→h2.IsList l #[u1,u2,u3]:=fun e ⟨o,ho,r⟩=> ⟨o,e l o hlt ho,r⟩
 unfold unpackItems
 refine a9 ?_
 unfold notIterableAtAll
 refine a9 (sv hl.typeIs PySem.slot_list_iter.lookup ?_)
 refine b8 ?_
 simp only[j9,if_false]
 refine a9 (ko (oQ hl ?_))
 have hl1:(s.heap.push {cls:=.type "list_iterator",data:=.fields #[.ref l,.int 0 0]}).IsList l #[u1,u2,u3]:=by
  obtain⟨o,ho,r⟩:=hl
  exact⟨o,c9 _ ho,r⟩
 refine a9 (ko ?_)
 show wpAny _ _ (draw (.ref s.heap.objs.size) 3) _ _ _
 show wpAny _ _ (pk (.ref s.heap.objs.size)>>=_) _ _ _
 refine a9 (ng (i:=0) ⟨_,kb _ rfl,rfl,rfl⟩ hl1 (x:=u1) rfl fun h1 i1 k1=>?_)
 refine a9 (ko ?_)
 have hl2:=stay k1.extBut hl1
 show wpAny _ _ (pk (.ref s.heap.objs.size)>>=_) _ _ _
 refine a9 (ng (i:=1) i1 hl2 (x:=u2) rfl fun h2 i2 k2=>?_)
 refine a9 (ko ?_)
 have hl3:=stay k2.extBut hl2
 show wpAny _ _ (pk (.ref s.heap.objs.size)>>=_) _ _ _
 refine a9 (ng (i:=2) i2 hl3 (x:=u3) rfl fun h3 i3 k3=>?_)
 refine a9 (ko ?_)
 have hl4:=stay k3.extBut hl3
 refine b8 (b8 (b8 (b8 ?_)))
 rw[if_neg (by simp)]
 refine a9 (ko (oN hh i3 hl4 rfl fun h4 k4=>?_))
 simp only[Option.isSome_none,j9,if_false]
 refine b8 (hQ h4 fun b o hb e=>k4 b o hb (k3.extBut b o hb (k2.extBut b o hb (k1.extBut b o hb (c9 _ e)))))
theorem aj(r:Vals [v,w,u] us):∃u1 u2 u3,us=[u1,u2,u3]∧RelV v u1∧RelV w u2∧RelV u u3:=by
 cases r with
 |cons a r=>
  obtain⟨u2,u3,rfl,b,c⟩:=Nr r
  exact⟨_,u2,u3,rfl,a,b,c⟩
noncomputable def eE(K:a8)(t:Uw):TG:=fun v σ H Q=>∃a x y z,v=.ref a∧SqL K H a [x,y,z]∧t [x,y,z] σ H Q
theorem XQ{k:Nat}(hc:X.calm=true)(h:bU X es t)
  (hn:(kU es X.env).length=3:=by rfl) (hst:(kU es X.env).findIdx? (·.1)=none:=by rfl):PG X (.Tuple es k pos) (eE X.K t):=by
 intro pins s σ H v u Q I r hw
 obtain⟨a,x,y,z,e1,hq,hw⟩:=hw
 subst e1
 cases r
 obtain⟨its,rv,ht,hz⟩:=I.list hq
 obtain⟨u1,u2,u3,rfl,g1,g2,g3⟩:=aj rv
 rw[assign_Tuple]
 refine a9 (oI ?_)
 unfold unpack
 rw[hn,hst]
 refine a9 (ko (XO (I.ok.hd hc) ht.isList fun h' hx=>?_))
 have I1:Inv X pins σ H {s with heap:=h'}:=I.kept (t':=s.toks) fun b o e=>hx b o (ke (jo e)) e
 exact h pins _ σ H [x,y,z] _ Q I1 rv hw
end
end L2
namespace L2.TL
open PySem PySem.Spec PyProof.Rows
theorem eF{K:a8}(r:Reps K O H vs [t,u,v]):∃a b c,vs=[a,b,c]∧Rep K O H a t∧Rep K O H b u∧Rep K O H c v:=by
 cases r with
 |cons a r=>
  obtain⟨b,c,rfl,h1,h2⟩:=r.two_inv
  exact⟨_,b,c,rfl,a,h1,h2⟩
section
variable {Z:Zx} {ρ:List (Option T)} {O:AO} {x y z:Str} {p1 p2 p3 pos:Pos} {k:Nat} {ta tb tc:T}
theorem XR(i j m:Nat)(hc:Z.X.calm=true)(hN:Z.X.N.Nodup)(hni:i<n)(hnj:j<n)(hnm:m<n)(hi:Z.X.N[i]?=some x:=by rfl)(hj:Z.X.N[j]?=some y:=by rfl)(hm:Z.X.N[m]?=some z:=by rfl)
  (hx:IF Z.X.env.scope x:=by first|exact nv rfl|exact nW rfl) (hy:IF Z.X.env.scope y:=by first|exact nv rfl|exact nW rfl) (hz:IF Z.X.env.scope z:=by first|exact nv rfl|exact nW rfl)
  (hf:Z.X.fn x=true∨Z.X.env.scope.names.lookup x=some .local:=by first|exact .inl rfl|exact .inr rfl) (hf2:Z.X.fn y=true∨Z.X.env.scope.names.lookup y=some .local:=by first|exact .inl rfl|exact .inr rfl) (hf3:Z.X.fn z=true∨Z.X.env.scope.names.lookup z=some .local:=by first|exact .inl rfl|exact .inr rfl)
  (hs:(kU [.Name x p1,.Name y p2,.Name z p3] Z.X.env).map (·.2)=assign (.Name x p1) Z.X.env::(kU [.Name y p2,.Name z p3] Z.X.env).map (·.2):=by rfl) (hs2:(kU [.Name y p2,.Name z p3] Z.X.env).map (·.2)=assign (.Name y p2) Z.X.env::(kU [.Name z p3] Z.X.env).map (·.2):=by rfl) (hs3:(kU [.Name z p3] Z.X.env).map (·.2)=assign (.Name z p3) Z.X.env::(kU [] Z.X.env).map (·.2):=by rfl)
  (hl:(kU [.Name x p1,.Name y p2,.Name z p3] Z.X.env).length=3:=by rfl) (hst:(kU [.Name x p1,.Name y p2,.Name z p3] Z.X.env).findIdx? (·.1)=none:=by rfl):
  WG Z n ρ O (.Tuple [.Name x p1,.Name y p2,.Name z p3] k pos) (.lst [ta,tb,tc]) (((ρ.set i (some ta)).set j (some tb)).set m (some tc)):=
 PG.weak (XQ hc (CD (CU hN hi hx hf) (CD (CU hN hj hy hf2) (CD (CU hN hm hz hf3) JK hs3) hs2) hs) hl hst) fun v σ H Q q=>by
  obtain⟨q1,q2,q3⟩:=q
  obtain⟨a,xs,rfl,h1,_,r⟩:=q2.lst_inv
  obtain⟨v,w,u,rfl,r1,r2,r3⟩:=eF r
  exact⟨a,v,w,u,rfl,.inl (.inl h1),_,_,rfl,_,_,rfl,_,_,rfl,rfl,q3 _ ⟨((q1.rl.set r1).set r2).set r3,q1.fr⟩ ⟨by simp,fun m hm=>by rw[j7 (by omega),j7 (by omega),j7 (by omega)]⟩⟩
theorem GD(G:FnT Z.X.prog Z.X.w Z.X.K Z.X.mg Z.X.base f kk ps s)(hr:Room kk Z.X.A)(xf:XFly Z.X (Z.Wr ρ))(hf:∀a,Z.X.mg f=some (.ref a)→ET Z ρ O fe (.raw (.ref a)))(h:WA Z ρ O (e::es) fun ts O1=>s ts O1 Φ Z.Xi)
  (hev:eval (.Call fe (e::es) [] pos) Z.X.env=(do ur pos (←eval fe Z.X.env) [] (mS pos (i5 (e::es) Z.X.env)) (rT pos (pQ [] Z.X.env))):=by rfl)
  (he:i5 (e::es) Z.X.env=(false,eval e Z.X.env)::i5 es Z.X.env:=by rfl) (hpl:(mS pos (i5 es Z.X.env)).any (·.1)=false:=by rfl):WE Z ρ O (.Call fe (e::es) [] pos) Φ:=by
 obtain⟨a,fd,F,hm,hk,hb⟩:=G.ex
 refine PE.weak (Rb xf (hf a hm (fun t O'=>t=.raw (.ref a)∧O'=O) ⟨rfl,rfl⟩) (IJ (ρ:=ρ)) hev he hpl) fun σ H Q q=> ⟨q.1,?_⟩
 rintro v H1 _ _ ⟨rfl,rfl⟩ f1 r1
 cases r1.raw_inv
 refine⟨⟨a,rfl,hk⟩,_,_,h,q.1.step f1,fun vs H2 ts O2 p f2 r=> ⟨kk,a,fd,ps,_,rfl,F,hr,hk,hb,ts,O2,Φ,Z.Xi,r,f2.ok,p,(q.2.step f1).step f2,fun cls O' H' x f'=> ⟨rfl,O',x,((q.1.fr.trans f1).trans f2).trans f',?_⟩⟩⟩
 exact((q.1.rl.kp f1.kp q.1.ok).kp f2.kp f1.ok).kp f'.kp f2.ok
end
end L2.TL
namespace K40
open PySem L2 L2.TL PySem.Spec PyProof.Rows SrtG
theorem eG:(Ah ["_law_tie"] [(("_law_web" :Str),0)]).Nodup:=by decide+kernel
theorem eI:(Ah ["_law_one"] []).Nodup:=by decide+kernel
theorem eJ:(Ah ["_law_place"] [(("_law_web" :Str),0)]).Nodup:=by decide+kernel
section
variable {K:a8}
noncomputable def YI:CV:=FX fun ts r=>∃n ps,ts=[Cv n ps]∧WebA n ps∧r=KE (ai ps)
theorem YJ:FnScope ["_law_web","_law_some"] ["_law_web"] (AA Cm):=⟨rfl,rfl,rfl,by decide+kernel,rfl,by decide+kernel,by decide+kernel⟩
theorem ak(F:Fun K "_law_shortest" "_law_shortest" Cm f fd)(Tx:Txt mg)(G:FnT P w K mg base "_law_through" 3 ["_law_web","_law_tie"] YH):FnOk P w K mg base (CXe P w) 4 f fd ["_law_web"] (Cf K YI):=by
 refine AY F YJ ?_ ?_
 ·rintro ts O Φ Ξ ⟨r,⟨n,ps,rfl,_⟩,_⟩
  rfl
 ·rintro cdv A outer s H E O Ξ hr xf _ Φ ⟨_,⟨n,ps,rfl,wa,rfl⟩,q⟩
  have sb:=AN
  have hl:=wa.hl
  have hu:(A.deeper (nI "_law_shortest" (AA Cm) s.heap.objs.size f cdv)).units+101<cLine:=by have:=hr.un;omega
  unfold ai at q
  refine AC (FG (i:=1) (nc:=["_law_one"]) (cap:=[]) (by rfl) YJ.nd rfl (Ba (AA Cm) ["_law_web","_law_some"] (by decide+kernel)) (EI.wi (BN (ts:=(ps.map fun p=>IV ps p).map Ap) (ET.cast (BL ["_law_tie"] [("_law_web",0)] ps AU (fun p=>Ap (IV ps p)) rfl (Ba (AA Cm) ["_law_web","_law_some"] (by decide+kernel)) (DU (AI (ev 0) AB)) (by omega) fun p hp=> ⟨[some (AU p),some (Cv n ps)],fun X' Oe He is O'=>?i1⟩) (by rw[kI];rfl))) (Dt (ps.map fun p=>IV ps p) Ap Ap qr (by rw[b9];omega) (fun x hx=> ⟨[some (Ap x)],fun X' Oe He is O'=>?i2⟩) ?i3)))
  case i1=>
   obtain⟨cl,s',H',fp,rfl⟩:=is
   have hb:=wa.hp p hp
   unfold Xw at hb
   exact⟨AK 0 eG (by decide),Aj G hr BV (AG (ev 1) (AG (ev 0) AD)) ⟨n,ps,p,rfl,wa,by omega,by omega,rfl⟩⟩
  case i2=>
   obtain⟨cl,s',H',fp,rfl⟩:=is
   refine⟨AK 0 eI (by decide),EB.cast (PL FT (ev 0)) ?_,fun _=>ev 0⟩
   cases x<;>rfl
  case i3=>
   generalize (ps.map fun p=>IV ps p)=xs at q
   rw[FU]
   have cnd:∀{ρ:List (Option T)} {v:Option T},ρ=[v,some (.lst ((GC xs).map T.int))]→EB (zB P w K mg base ["_law_web","_law_some"] "_law_shortest" (AA Cm) f cdv A outer s H E O Ξ) ρ O (match (Ae Cm).getD 1 (.Pass ⟨0,0,0,0⟩) with| .Return (some (.IfExp c _ _ _)) _=>c|_=> .Constant .none 0 ⟨0,0,0,0⟩) (!decide (GC xs=[])):=by
    rintro ρ v rfl
    exact EB.cast (BZ (Hc hu) (Ao _) (QK (t:=.lst ((GC xs).map T.int)) (u:=.lst (([]:List Int).map T.int)) (by rw[Bg];exact Co) (by rw[Bg];exact Co) (by show lL _+1≤100;have:=Da (ns:=GC xs);omega)) (ev 1) (Bn AD (kZ _))) (congrArg (!·) EU)
   have hm:=KQ (GC xs)
   generalize MH (GC xs)=m at hm q
   cases m with
   |none=>
    have e:GC xs=[]:=hm
    exact AF (AH (ET.we (BP (x:=false) (ta:=.non) (tb:=.non) (EB.cast (cnd rfl) (by simp[e])) (fun h=>by cases h) (fun _=>Cc)) q))
   |some m=>
    have e:GC xs≠[]:=fun z=>by rw[z] at hm;exact absurd hm.1 (by simp)
    exact AF (AH (ET.we (BP (x:=true) (ta:=.int m) (tb:=.non) (EB.cast (cnd rfl) (by simp[e])) (fun _=>PJ hm Tx.nMin rfl (ev 1)) (fun h=>by cases h)) q))
noncomputable def eK(cs:List Int):Option Int:=if cs.all (fun c=>decide (c=cs.headD 0))=true then some (cs.headD 0) else none
theorem eM:bM cs=KE (eK cs):=by
 unfold bM eK
 by_cases h:cs.all (fun c=>decide (c=cs.headD 0))=true
 ·rw[if_pos h,if_pos h];rfl
 ·rw[if_neg h,if_neg h];rfl
theorem PR{a:Int}:(cs=j0 cs.length a)↔cs.all (fun c=>decide (c=a))=true:=by
 rw[kA,List.eq_replicate_iff]
 exact⟨fun h c hc=>decide_eq_true (h.2 c hc),fun h=> ⟨rfl,fun c hc=>of_decide_eq_true (h c hc)⟩⟩
noncomputable def YK:CV:=FX fun ts r=>∃n ps,ts=[Cv n ps]∧WebA n ps∧r=KE (eK (Bt n ps))
theorem YL:FnScope ["_law_web","_law_counts"] ["_law_web"] (AA Ei):=⟨rfl,rfl,rfl,by decide+kernel,rfl,by decide+kernel,by decide+kernel⟩
theorem ao(F:Fun K "_law_even_of" "_law_even_of" Ei f fd)(Tx:Txt mg)(G:FnT P w K mg base "_law_near" 1 ["_law_web","_law_place"] Gh):FnOk P w K mg base (CXe P w) 2 f fd ["_law_web"] (Cf K YK):=by
 refine AY F YL ?_ ?_
 ·rintro ts O Φ Ξ ⟨r,⟨n,ps,rfl,_⟩,_⟩
  rfl
 ·rintro cdv A outer s H E O Ξ hr xf _ Φ ⟨_,⟨n,ps,rfl,wa,rfl⟩,q⟩
  have sb:=AN
  have n0:=wa.n0
  have n1:=wa.n1
  have hu:(A.deeper (nI "_law_even_of" (AA Ei) s.heap.objs.size f cdv)).units+101<cLine:=by have:=hr.un;omega
  have hlen:(Bt n ps).length=n.toNat:=by simp[Bt]
  refine AC (FG (i:=1) (nc:=["_law_place"]) (cap:=[("_law_web",0)]) (by rfl) YL.nd rfl (Ba (AA Ei) ["_law_web","_law_counts"] (by decide+kernel)) (EI.wi (Ad Tx.nRange (AI (t:=.int n) (ev 0) AB) ⟨by omega,by omega⟩) (Ha (jr n.toNat) (fun i=>T.int (0+(i:Int))) (fun i=>T.int (((BF ps i).length:Nat):Int)) (by simp;omega) (fun x hx=> ⟨[some (.int (0+(x:Int))),some (Cv n ps)],fun X' Oe He is O'=>?_⟩) ?_)))
  ·obtain⟨cl,s',H',fp,rfl⟩:=is
   refine⟨AK 0 eJ (by decide),ET.cast (Gb Tx.nLen (Aj G hr BV (AG (ev 1) (AG (ev 0) AD)) ⟨n,ps,0+(x:Int),rfl,wa.hl,rfl⟩)) ?_⟩
   rw[b9,t9,Qh]
  ·have e1:(jr n.toNat).map (fun i=>T.int (((BF ps i).length:Nat):Int))=(Bt n ps).map T.int:=by simp[Bt]
   rw[e1]
   generalize Bt n ps=cs at hlen q
   obtain⟨c,ds,rfl⟩:∃c ds,cs=c::ds:=by
    cases cs with
    |nil=>simp at hlen;omega
    |cons c ds=>exact⟨c,ds,rfl⟩
   have ec:EX ((c::ds).map T.int) none (some 1)=[T.int c]:=by
    show((List.map T.int (c::ds)).drop (HT.BX _ 0 none)).take _=_
    have h1:HT.BX ((c::ds).map T.int).length 0 none=0:=rfl
    have h2:HT.BX ((c::ds).map T.int).length ((c::ds).map T.int).length (some 1)=1:=by
     unfold HT.BX
     simp
    rw[h1,h2]
    rfl
   have cnd:∀{ρ:List (Option T)},ρ=[some (Cv n ps),some (.lst ((c::ds).map T.int))]→EB (zB P w K mg base ["_law_web","_law_counts"] "_law_even_of" (AA Ei) f cdv A outer s H E O Ξ) ρ O (match (Ae Ei).getD 1 (.Pass ⟨0,0,0,0⟩) with| .Return (some (.IfExp c _ _ _)) _=>c|_=> .Constant .none 0 ⟨0,0,0,0⟩) (decide (c::ds=j0 n.toNat c)):=by
    rintro ρ rfl
    have hm:j0 n.toNat (T.int c)=(j0 n.toNat c).map T.int:=by rw[List.map_replicate]
    exact EB.cast (BZ (Zk hu) (Ao _) (QK (t:=.lst ((c::ds).map T.int)) (u:=.lst ((j0 n.toNat c).map T.int)) (by rw[Bg];exact Co) (by rw[Bg];exact Co) (by show lL _+1≤100;have:=Da (ns:=c::ds);omega)) (ev 1) (ET.cast (Ou (t:=.int c) (ET.cast (aG (ev 1) AB) (congrArg T.lst ec)) (AI (t:=.int n) (ev 0) AB) ⟨by omega,by omega⟩) (congrArg T.lst hm))) EU
   rw[←hlen] at cnd
   unfold eK at q
   by_cases h:(c::ds).all (fun x=>decide (x=(c::ds).headD 0))=true
   ·rw[if_pos h] at q
    have he:c::ds=j0 (c::ds).length c:=PR.mpr h
    exact AF (AH (ET.we (BP (x:=true) (ta:=.int c) (tb:=.non) (EB.cast (cnd rfl) (decide_eq_true he)) (fun _=>Ef (ev 1) AB (An (j:=0) rfl)) (fun h=>by cases h)) q))
   ·rw[if_neg h] at q
    have he:¬(c::ds=j0 (c::ds).length c):=fun z=>h (PR.mp z)
    exact AF (AH (ET.we (BP (x:=false) (ta:=.non) (tb:=.non) (EB.cast (cnd rfl) (decide_eq_false he)) (fun h=>by cases h) (fun _=>Cc)) q))
end
section
variable {P:Program} {w:World} {K:a8} {mg:Str→Option Value} {base:Heap} {CL CR:Addr}
noncomputable def iG(i:Nat)(k:Kd):T:=if i=0 then MM k else if i=1 then Qi k else MJ k
structure Tel(P:Program)(w:World)(K:a8)(mg:Str→Option Value)(base:Heap)(CL:Addr):Prop where
 c:FnT P w K mg base "kind_counts" 6 ["kind"] (Qj CL MM)
 e:FnT P w K mg base "kind_even" 6 ["kind"] (Qj CL Qi)
 r:FnT P w K mg base "kind_ring" 6 ["kind"] (Qj CL MJ)
noncomputable def Ua:CV:=fun ts O Φ _=>∃(i:Nat) (t:T),ts=[.int (i:Int),t]∧i<3∧Thing t∧(Ay t=false→Φ NX O)∧∀k,t=kT k→KIs k→Ay t=true→Φ (iG i k) O
theorem eO:FnScope ["_law_way","_law_kind","_law_e"] ["_law_way","_law_kind"] (AA Hn):=⟨rfl,rfl,rfl,by decide+kernel,rfl,by decide+kernel,by decide+kernel⟩
theorem eP(F:Fun K "_law_told" "_law_told" Hn f fd)(B:Cat P w K mg base CL CR)(G:Tel P w K mg base CL):FnOk P w K mg base (CXe P w) 7 f fd ["_law_way","_law_kind"] (Cf K Ua):=by
 refine AY F eO ?_ ?_
 ·rintro ts O Φ Ξ ⟨i,t,rfl,_⟩
  rfl
 ·rintro cdv A outer s H E O Ξ hr xf _ Φ ⟨i,t,rfl,hi,ht,q1,q2⟩
  obtain⟨fR,fdR,FL,mF,kF,bF⟩:=B.ex
  obtain⟨f0,_,_,m0,_,_⟩:=G.c.ex
  obtain⟨f1,_,_,m1,_,_⟩:=G.e.ex
  obtain⟨f2,_,_,m2,_,_⟩:=G.r.ex
  have z3:(3:Nat)≤sizeLine:=by decide
  refine AF (Vy (i:=2) (fun cls O'=>O'=O∧cls=.ref CL∧Φ NX O) (fun pins E' H1 fr xf1=>?_) (fun cls O' h=> ⟨CL,.inl h.2.1,B.kL⟩) (fun y cls O' C x o H1 hc h1 fr hz=>?_) rfl rfl rfl eO.nd rfl rfl B.mR B.bR rfl (by decide))
  ·match i,hi with
   |0,_=>
    refine AF (AH (GD (Z:=⟨CS (zB P w K mg base ["_law_way","_law_kind","_law_e"] "_law_told" (AA Hn) f cdv A outer s H E O Ξ).X pins E',O,H1,fun cls O'=>O'=O∧cls=.ref CL∧Φ NX O⟩) G.c hr xf1 (fun a ma=>?_) (EA.wa (AG (ev 1) AD) ⟨t,rfl,ht,fun h=> ⟨rfl,rfl,q1 h⟩,q2⟩)))
    have:a=f0:=by have z:some (Value.ref f0)=some (Value.ref a):=m0.symm.trans ma;cases z;rfl
    subst this
    exact Ef (Bn (ts:=[.raw (.ref a),.raw (.ref f1),.raw (.ref f2)]) (AG (CB m0) (AG (CB m1) (AG (CB m2) AD))) z3) (ev 0) (An (j:=0) rfl)
   |1,_=>
    refine AF (AH (GD (Z:=⟨CS (zB P w K mg base ["_law_way","_law_kind","_law_e"] "_law_told" (AA Hn) f cdv A outer s H E O Ξ).X pins E',O,H1,fun cls O'=>O'=O∧cls=.ref CL∧Φ NX O⟩) G.e hr xf1 (fun a ma=>?_) (EA.wa (AG (ev 1) AD) ⟨t,rfl,ht,fun h=> ⟨rfl,rfl,q1 h⟩,q2⟩)))
    have:a=f1:=by have z:some (Value.ref f1)=some (Value.ref a):=m1.symm.trans ma;cases z;rfl
    subst this
    exact Ef (Bn (ts:=[.raw (.ref f0),.raw (.ref a),.raw (.ref f2)]) (AG (CB m0) (AG (CB m1) (AG (CB m2) AD))) z3) (ev 0) (An (j:=1) rfl)
   |2,_=>
    refine AF (AH (GD (Z:=⟨CS (zB P w K mg base ["_law_way","_law_kind","_law_e"] "_law_told" (AA Hn) f cdv A outer s H E O Ξ).X pins E',O,H1,fun cls O'=>O'=O∧cls=.ref CL∧Φ NX O⟩) G.r hr xf1 (fun a ma=>?_) (EA.wa (AG (ev 1) AD) ⟨t,rfl,ht,fun h=> ⟨rfl,rfl,q1 h⟩,q2⟩)))
    have:a=f2:=by have z:some (Value.ref f2)=some (Value.ref a):=m2.symm.trans ma;cases z;rfl
    subst this
    exact Ef (Bn (ts:=[.raw (.ref f0),.raw (.ref f1),.raw (.ref a)]) (AG (CB m0) (AG (CB m1) (AG (CB m2) AD))) z3) (ev 0) (An (j:=2) rfl)
  ·obtain⟨rfl,rfl,q⟩:=hc
   have exc:=HK.exc (y:=y) h1 fr hz
   have rH:RoomH 2 (zH (zB P w K mg base ["_law_way","_law_kind","_law_e"] "_law_told" (AA Hn) f cdv A outer s H E O' Ξ) y O' (upd H1 x o)).X.A:=Room.toH (hr.mono (by decide))
   obtain rfl:=HK.cls_ref h1
   exact AF (AH (ET.we (So FL mF kF bF rH exc (ev 2)) q))
theorem eQ:(Ah ["_law_way"] [(("_law_kind" :Str),0)]).Nodup:=by decide+kernel
theorem eS:(Ah ["_law_one"] []).Nodup:=by decide+kernel
noncomputable def iH:List Str:=["_law_kind","_law_web","_law_counts","_law_even","_law_size"]
theorem aq:FnScope iH ["_law_kind"] (AA Fv):=⟨rfl,rfl,rfl,by decide+kernel,rfl,by decide+kernel,by decide+kernel⟩
structure Rts(P:Program)(w:World)(K:a8)(mg:Str→Option Value)(base:Heap):Prop where
 tx:Txt mg
 gk:FnT P w K mg base "_law_kind_web" 2 ["_law_kind"] Nf
 gt:FnT P w K mg base "_law_told" 7 ["_law_way","_law_kind"] Ua
 gw:FnT P w K mg base "_law_whole" 1 ["_law_found"] Dx
 gi:FnT P w K mg base "_law_is_of" 2 ["_law_found","_law_due"] UV
 ge:FnT P w K mg base "_law_even_of" 2 ["_law_web"] YK
 gs:FnT P w K mg base "_law_shortest" 4 ["_law_web"] YI
theorem ar:my (dT (.tup [.int a,.int b])) (dT (.tup [.int a,.int b]))=true:=by
 have:=LW (a,b) (a,b)
 rw[decide_eq_true rfl] at this
 exact this
noncomputable def eT:CV:=FX fun ts r=>∃k,ts=[kT k]∧KIs k∧r=.bl true
theorem eU(F:Fun K "_law_right" "_law_right" Fv f fd)(B:Rts P w K mg base):FnOk P w K mg base (CXe P w) 8 f fd ["_law_kind"] (Cf K eT):=by
 refine Gc F aq ?_ ?_
 ·rintro ts O Φ Ξ ⟨r,⟨k,rfl,_⟩,_⟩
  rfl
 ·rintro cdv A outer s H E O Ξ hr xf _ Φ ⟨_,⟨k,rfl,hk,rfl⟩,q⟩
  have sb:=AN
  have Tx:=B.tx
  have wa:=UY hk
  have hg:=PB hk
  have hu:(A.deeper (nI "_law_right" (AA Fv) s.heap.objs.size f cdv)).units+101<cLine:=by have:=hr.un;omega
  refine Aa (AM 1 (ET.we (Aj B.gk (hr.mono (by decide)) xf (AG (ev 0) AD) ⟨k,rfl,hk,rfl⟩) ?_) aq.nd)
  refine Aa (ZX (n:=5) (ET.we (t:=.lst [MM k,Qi k,MJ k]) (ET.cast (BL ["_law_way"] [("_law_kind",0)] (jr 3) (fun j=> .int (0+(j:Int))) (fun j=>iG j k) rfl (Ba (AA Fv) iH (by decide+kernel)) (Ad (k:=3) Tx.nRange AB ⟨by decide,by decide⟩) (by rw[kr];omega) fun x hx=> ⟨[some (.int (0+(x:Int))),some (kT k)],fun X' Oe He is O'=>?_⟩) rfl) ⟨[some (kT k),some (Cv (CW k).1 (CH k)),some (MM k),some (Qi k),some (MJ k)],XR 2 3 4 rfl aq.nd (by decide) (by decide) (by decide),?_⟩))
  ·obtain⟨cl,s',H',fp,rfl⟩:=is
   have h3:=ky.mp hx
   refine⟨AK 0 eQ (by decide),?_⟩
   exact Jg (t:=iG x k) B.gt hr BV (AG (ev 0) (AG (ev 1) AD)) fun Φ' h=> ⟨x,kT k,by rw[t9],h3,Tn hk,(fun z=>by rw[hg] at z;cases z),fun m e _ _=>by rw[←Tp e];exact h⟩
  ·refine Aa (AS (k:=false) ?c (fun h=>by cases h) (fun _=>Ac ?_))
   case c=>
    refine EW.eb (EW.cast (GL (Bp (Dr (t:=MM k) Tx.nIsi Tx.nTuple Fs FH (ev 2) rfl)) fun _=>GL (BZ (Hc hu) (Ao _) (QK (t:=MM k) (u:=MM k) (by unfold MM;simp[Bg,rdBs]) (by unfold MM;simp[Bg,rdBs]) (by unfold MM;simp[dT,dTs,PyData.depth,lL])) (ev 2) (AV (ts:=[.int (CW k).1,.int ((CH k).length:Int)]) (AG (AI (t:=.int (CW k).1) (ev 1) AB) (AG (ET.cast (CC (ts:=(CH k).map AU) Tx.nLen (AI (ev 1) AB)) (by rw[b9])) AD)) (by show 2≤sizeLine;decide))) fun _=>Mx (Bp (Dq (ND (bs:=[true,true]) Tx.nAll rfl ?_)))) ?_)
    ·refine BL ["_law_one"] [] [T.int (CW k).1,T.int ((CH k).length:Int)] id (fun _=> .bl true) rfl (Ba (AA Fv) iH (by decide+kernel)) (DU (ev 2)) (by show 2≤sizeLine;decide) fun y hy=> ⟨[some y],fun X'' Oe' He' is' O''=>?_⟩
     obtain⟨cl',s'',H'',fp',rfl⟩:=is'
     refine⟨AK 0 eS (by decide),Aj B.gw (hr.mono (by decide)) BV (AG (ev 0) AD) ?_⟩
     simp only[ju,mi,or_false] at hy
     rcases hy with rfl|rfl
     ·exact⟨_,rfl,rfl,rfl⟩
     ·exact⟨_,rfl,rfl,rfl⟩
    ·show(!LQ (MM k)|| (!my (dT (MM k)) (dT (MM k))||!true))=false
     have:my (dT (MM k)) (dT (MM k))=true:=ar
     rw[this]
     rfl
   ·refine Fu (AH (ET.we (t:=.bl (true&&true)) (Bw (Aj B.gi (hr.mono (by decide)) xf (AG (ev 3) (AG (Aj B.ge (hr.mono (by decide)) xf (AG (ev 1) AD) ⟨_,_,rfl,wa,rfl⟩) AD)) ⟨eK (Bt (CW k).1 (CH k)),by unfold Qi;rw[eM],rfl⟩) fun _=>DS (Aj B.gi (hr.mono (by decide)) xf (AG (ev 4) (AG (Aj B.gs (hr.mono (by decide)) xf (AG (ev 1) AD) ⟨_,_,rfl,wa,rfl⟩) AD)) ⟨ai (CH k),rfl,rfl⟩)) q))
end
end K40
namespace L2.TL
open PySem PySem.Spec PySem.Calls PyProof.Rows
mutual
noncomputable def gW:T→Bool
 | .non=>true
 | .bl _=>true
 | .int i=> (PyData.showable (.int i))&&decide ((PyData.shown (.int i)).length≤64)
 | .str x=>x.cps.toList.all fun c=>decide (c<16^8)
 | .tup ts=>gWs ts
 | .lst ts=>gWs ts
 | .frz _=>false
 | .dct=>false
 | .raw _=>false
noncomputable def gWs:List T→Bool
 | []=>true
 |t::ts=>gW t&&gWs ts
end
theorem KS:∀{ts:List T},(∀t∈ts,gW t=true)→gWs ts=true
 | [],_=>rfl
 |t::ts,h=>by
  rw[gWs,h t (j4 ..),KS fun u hu=>h u (jt _ hu)]
  rfl
noncomputable def ji(t:T):Prop:=(gu t=true∧gW t=true∧(dT t).weight≤2^15∧(dT t).depth≤100)∨t=.non∨t=.dct∨∃x,t=.str x∧(uk x).length≤sizeLine
end L2.TL
namespace K40
open PySem L2 L2.TL PySem.Spec PyProof.Rows SrtG
noncomputable def MK(t:T):Bool:=Bg t&&gW t&&decide ((dT t).depth≤2)&&decide ((dT t).weight≤100)
structure Lf(t:T):Prop where
 rd:Bg t=true
 g:gW t=true
 d:(dT t).depth≤2
 w:(dT t).weight≤100
theorem PU(h:MK t=true):Lf t:=by
 unfold MK at h
 simp only[ki] at h
 exact⟨h.1.1.1,h.1.1.2,of_decide_eq_true h.1.2,of_decide_eq_true h.2⟩
theorem Hy:∀{us:List T},(∀u∈us,Lf u)→lL (dTs us)≤2
 | [],_=>by simp[dTs,lL]
 |u::us,h=>by
  have h1:=(h u (j4 ..)).d
  have h2:=Hy fun v hv=>h v (jt _ hv)
  rw[dTs,lL]
  omega
theorem GE:∀{us:List T},(∀u∈us,Lf u)→rX (dTs us)≤101*us.length
 | [],_=>by simp[dTs,rX]
 |u::us,h=>by
  have h1:=(h u (j4 ..)).w
  have h2:=GE fun v hv=>h v (jt _ hv)
  rw[dTs,rX,km]
  omega
structure Plain(t:T):Prop where
 th:Thing t
 rp:ji t
theorem CY(h:∀u∈us,Lf u)(hl:us.length≤20):Plain (.tup us):=by
 have h1:=Hy h
 have h2:=GE h
 have h3:Bg (.tup us)=true:=FJ.mpr fun u hu=> (h u hu).rd
 have hd:(dT (.tup us)).depth≤100:=by
  show PyData.depth (.tuple (dTs us))≤100
  rw[PyData.depth]
  omega
 have hw:(dT (.tup us)).weight≤2^15:=by
  show rN (.tuple (dTs us))≤2^15
  rw[rN]
  omega
 refine⟨⟨rfl,fun vs e=>?_⟩,.inl ⟨rfl,KS fun u hu=> (h u hu).g,hw,hd⟩⟩
 cases e
 exact⟨h3,hd,by omega⟩
theorem Qk(h:∀u∈us,Lf u)(hl:us.length≤20):Plain (.lst us):=by
 have h1:=Hy h
 have h2:=GE h
 have hd:(dT (.lst us)).depth≤100:=by
  show PyData.depth (.list (dTs us))≤100
  rw[PyData.depth]
  omega
 have hw:(dT (.lst us)).weight≤2^15:=by
  show rN (.list (dTs us))≤2^15
  rw[rN]
  omega
 exact⟨⟨rfl,fun vs e=>by cases e⟩,.inl ⟨rfl,KS fun u hu=> (h u hu).g,hw,hd⟩⟩
noncomputable def Ur(k:Kd):List T:=.str k.1::k.2.map T.int
theorem Ub:(CO.all fun k=> (Ur k).all MK&&MK (kT k)&&decide ((uk k.1).length≤1000)&&decide (2≤(Ur k).length)&&decide ((Ur k).length≤3))=true:=by decide+kernel
noncomputable def Ql:List T:=[.int 0,.int 1,.int 2,.int 3,.int 8,.int 9,.int 16,.int 17,.int (-1),.bl true,.non,.str "3",.tup [.int 3],.int (10^(30:Int).toNat),.str "ring",.str "two",.str "Full",.str "cubes"]
theorem Uc:Ql.all MK=true:=by decide+kernel
theorem JG(h:KIs k):(∀u∈Ur k,Lf u)∧Lf (kT k)∧(uk k.1).length≤sizeLine∧2≤(Ur k).length∧(Ur k).length≤3:=by
 have:=kA.mp Ub k h.mem
 simp only[ki] at this
 obtain⟨⟨⟨⟨h1,h2⟩,h3⟩,h4⟩,h5⟩:=this
 have h3:(uk k.1).length≤1000:=of_decide_eq_true h3
 have sb:=AN
 exact⟨fun u hu=>PU (kA.mp h1 u hu),PU h2,by omega,of_decide_eq_true h4,of_decide_eq_true h5⟩
theorem au:Lf (.int 1):=PU (by decide+kernel)
noncomputable def Dz(us:List T)(sp:Int)(o:T):List T:=EX us none (some sp)++[o]++EX us (some (sp+1)) none
noncomputable def JH(us:List T)(sp:Int)(o:T):List T:=[.tup (Dz us sp o),.tup (Dz us sp o),.tup (Dz us sp o),.tup (Dz us sp o),.tup (EX us none (some (-1))),.tup (us++[.int 1]),.lst us,.tup [.tup us],.tup us.reverse,.non,.dct]
theorem Nk(h:KIs k)(ho:o∈Ql):∀t∈JH (Ur k) sp o++[.str k.1,.tup []],Plain t:=by
 obtain⟨h1,h2,h3,h4,h5⟩:=JG h
 have hL:Lf o:=PU (kA.mp Uc o ho)
 have h2:Lf (.tup (Ur k)):=h2
 generalize Ur k=us at*
 have l1:=FI (us:=us) (lo:=none) (hi:=some sp)
 have l2:=FI (us:=us) (lo:=some (sp+1)) (hi:=none)
 have l3:=FI (us:=us) (lo:=none) (hi:=some (-1))
 have s:Plain (.tup (Dz us sp o)):=by
  refine CY (fun u hu=>?_) (by unfold Dz;simp;omega)
  unfold Dz at hu
  rcases kj.mp hu with hu|hu
  ·rcases kj.mp hu with hu|hu
   ·exact h1 u (Jq hu)
   ·rcases ju.mp hu with rfl|hu
    ·exact hL
    ·cases hu
  ·exact h1 u (Jq hu)
 intro t ht
 simp only[JH,kj,ju,mi,or_false] at ht
 rcases ht with(rfl|rfl|rfl|rfl|rfl|rfl|rfl|rfl|rfl|rfl|rfl)|rfl|rfl
 ·exact s
 ·exact s
 ·exact s
 ·exact s
 ·exact CY (fun u hu=>h1 u (Jq hu)) (by omega)
 ·refine CY (fun u hu=>?_) (by simp;omega)
  rcases kj.mp hu with hu|hu
  ·exact h1 u hu
  ·rcases ju.mp hu with rfl|hu
   ·exact au
   ·cases hu
 ·exact Qk h1 (by omega)
 ·refine CY (fun u hu=>?_) (by simp)
  rcases ju.mp hu with rfl|hu
  ·exact h2
  ·cases hu
 ·exact CY (fun u hu=>h1 u (List.mem_reverse.mp hu)) (by simp;omega)
 ·exact⟨⟨rfl,fun us e=>by cases e⟩,.inr (.inl rfl)⟩
 ·exact⟨⟨rfl,fun us e=>by cases e⟩,.inr (.inr (.inl rfl))⟩
 ·exact⟨⟨rfl,fun us e=>by cases e⟩,.inr (.inr (.inr ⟨_,rfl,h3⟩))⟩
 ·exact CY (fun u hu=>by cases hu) (by simp)
noncomputable def jj:List Str:=["_law_pen","_law_kind","_law_spot","_law_odd","_law_spoilt","_law_some"]
section
variable {K:a8}
noncomputable def Ud:CV:=fun ts O Φ _=>∃(p:Addr) (xs:List T) (k:Kd),ts=[.raw (.ref p),kT k]∧O p=some xs∧Li xs∧KIs k∧∀(t:T) (O':AO),Plain t→PO O p O'→Φ t O'
theorem GF:FnScope jj ["_law_pen","_law_kind"] (AA Sq):=⟨rfl,rfl,rfl,by decide+kernel,rfl,by decide+kernel,by decide+kernel⟩
theorem XS(F:Fun K "_law_bent_kind" "_law_bent_kind" Sq f fd)(Tx:Txt mg)(G:FnT P w K mg base "_law_draw" 2 ["_law_pen","_law_many"] Jz):FnOk P w K mg base (CXe P w) 3 f fd ["_law_pen","_law_kind"] (Cf K Ud):=by
 refine Gc F GF ?_ ?_
 ·rintro ts O Φ Ξ ⟨p,xs,k,rfl,_⟩
  rfl
 ·rintro cdv A outer s H E O0 Ξ hr xf _ Φ ⟨p,xs,k,rfl,hp,px,hk,q⟩
  have sb:=AN
  have z1:(1:Nat)≤sizeLine:=by decide
  obtain⟨h1,h2,h3,h4,h5⟩:=JG hk
  have ap:=fun{sp:Int} {o:T} (ho:o∈Ql)=>Nk (sp:=sp) hk ho
  obtain⟨us,hus⟩:∃us,us=Ur k:=⟨_,rfl⟩
  have e0:kT k=.tup us:=by rw[hus];rfl
  have eh:us[0]?=some (.str k.1):=by rw[hus];rfl
  rw[←hus] at h4 h5
  have ap:∀{sp:Int} {o:T},o∈Ql→∀t∈JH us sp o++[.str k.1,.tup []],Plain t:=by rw[hus];exact ap
  rw[e0]
  clear e0 hus
  generalize k.1=x0 at eh ap
  clear h1 h2 h3 hk
  refine Aa (AM 2 (FO G hr xf (PO.start hp px) (ev 0) (CC (ts:=us) Tx.nLen (ev 1)) (by omega) (by omega) fun sp O1 s0 s1 po1=>?_) GF.nd)
  refine Aa (Jo (ts:=Ql) 3 ?o1 ?o2 ?o3 GF.nd ?o4 ?o5 ?o6)
  case o4=>rfl
  case o5=>exact nv rfl
  case o6=>exact .inl rfl
  case o2=>exact kO (show 18≤1000 by decide) (nq sb)
  case o1=>exact .cons .int (.cons .int (.cons .int (.cons .int (.cons .int (.cons .int (.cons .int (.cons .int (.cons ⟨SE AB⟩ (.cons .bl (.cons .non (.cons ⟨AQ⟩ (.cons (.tup (.cons .int .nil) z1) (.cons ⟨SB AB AB ⟨by decide,by decide,by decide⟩⟩ (.cons ⟨AQ⟩ (.cons ⟨AQ⟩ (.cons ⟨AQ⟩ (.cons ⟨AQ⟩ .nil)))))))))))))))))
  refine Aa (AM 3 (HV Bz (fun _ _=>rfl) (ET.we (ev 3) (FO G hr xf po1 (ev 0) AB (by decide) (by decide) fun r O3 r0 r1 po3=>?_))) GF.nd)
  obtain⟨one,e1,m1⟩:=TL.DJ (L:=Ql) r0 r1
  refine Ee e1 _ ?_
  have l1:=FI (us:=us) (lo:=none) (hi:=some sp)
  have l2:=FI (us:=us) (lo:=some (sp+1)) (hi:=none)
  refine Aa (AM 4 (ET.we (t:=.tup (Dz us sp one)) (Jm (Jm (SS (ev 1) (ev 2)) (AV (ts:=[one]) (AG (ev 3) AD) z1) (by simp;omega)) (Jl (ev 1) (As (ev 2) AB)) (by simp;omega)) ?_) GF.nd)
  refine Aa (Jo (ts:=JH us sp one) 5 ?u1 ?u2 ?u3 GF.nd ?u4 ?u5 ?u6)
  case u4=>rfl
  case u5=>exact nv rfl
  case u6=>exact .inl rfl
  case u2=>exact kO (show 11≤1000 by decide) (nq sb)
  case u1=>
   refine .cons (.var 4) (.cons (.var 4) (.cons (.var 4) (.cons (.var 4) ?_)))
   refine .cons ⟨SS (ev 1) (SE AB)⟩ ?_
   refine .cons ⟨Jm (ev 1) (AV (ts:=[.int 1]) (AG AB AD) z1) (by simp;omega)⟩ ?_
   refine .cons ⟨SR Tx.nList (ev 1)⟩ ?_
   refine .cons (.tup (.cons (.var 1) .nil) z1) ?_
   refine .cons ⟨Zf (ev 1)⟩ ?_
   exact .cons .non (.cons ⟨Zg⟩ .nil)
  refine Fu (AH (HV Bz (fun _ _=>rfl) (ET.we (t:=.lst (JH us sp one++[.str x0,.tup []])) (EL (ev 5) (Bn (ts:=[.str x0,.tup []]) (AG (AI (t:=.str x0) (ev 1) AB (An (j:=0) eh)) (AG (AV AD (by show 0≤sizeLine;decide)) AD)) (by show 2≤sizeLine;decide)) (by show 13≤sizeLine;decide)) (FO G hr xf po3 (ev 0) AB (by decide) (by decide) fun r O4 r0 r1 po4=>?_))))
  obtain⟨t,e2,m2⟩:=TL.DJ (L:=JH us sp one++[T.str x0,T.tup []]) r0 r1
  exact Ee e2 _ (q t O4 (ap m1 t m2) po4)
end
noncomputable def En:List Str:=["cube","full","ladder","lines","ring","twisted"]
noncomputable def GV:List Str:=["spokes","two"]
noncomputable def Hz(x:Str):List Kd:=((jr 17).filter fun(j:Nat)=>Ay (kT (x,[0+(j:Int)]))).map fun(j:Nat)=> (x,[0+(j:Int)])
noncomputable def IW(x:Str)(i:Nat):List Kd:=((jr 15).filter fun(j:Nat)=>Ay (kT (x,[1+(i:Int),1+(j:Int)]))).map fun(j:Nat)=> (x,[1+(i:Int),1+(j:Int)])
noncomputable def IA(x:Str):List Kd:=(jr 15).flatMap fun i=>IW x i
theorem XT:(En.flatMap Hz)++GV.flatMap IA=Ej:=by decide+kernel
theorem IB:(Hz x).length≤17:=by
 unfold Hz
 rw[b9]
 exact kO (lO ..) (by rw[kr];omega)
theorem IC:(IW x i).length≤17:=by
 unfold IW
 rw[b9]
 exact kO (lO ..) (by rw[kr];omega)
theorem Qm:(IA x).length≤255:=by
 unfold IA
 have:=BR (f:=fun i=>IW x i) (m:=17) (l:=jr 15) fun _ _=>IC
 rw[kr] at this
 omega
theorem ML(h:p0 x=true)(hl:ns.length≤10):Thing (kT (x,ns)):=by
 have hn:∀ns:List Int,lL (dTs (ns.map T.int))=0:=fun ns=>by
  induction ns with
  |nil=>rfl
  |cons n ns ih=>
   rw[kg,dTs,lL,ih]
   rfl
 refine⟨rfl,fun us e=> ⟨?_,?_,?_⟩⟩
 ·unfold kT
  rw[Bg,rdBs,Bg,h,Hr]
  rfl
 ·show PyData.depth (.tuple (dTs (.str x::ns.map T.int)))≤100
  rw[dTs,PyData.depth,lL,hn]
  show max 0 0+1≤100
  omega
 ·cases e
  simp
  omega
theorem av:(Ah ["_law_n"] [(("_law_word" :Str),1)]).Nodup:=by decide+kernel
theorem aw:(Ah ["_law_k"] [(("_law_word" :Str),1),(("_law_n" :Str),2)]).Nodup:=by decide+kernel
noncomputable def iI:List Str:=["_law_found","_law_word","_law_n"]
theorem ok1(h:x∈En):p0 x=true:=by
 have:En.all p0=true:=by decide+kernel
 exact kA.mp this x h
theorem jk(h:x∈GV):p0 x=true:=by
 have:GV.all p0=true:=by decide+kernel
 exact kA.mp this x h
section
variable {K:a8}
theorem ID:FnScope iI [] (AA Lh):=⟨rfl,rfl,rfl,by decide+kernel,rfl,by decide+kernel,by decide+kernel⟩
theorem XU(F:Fun K "_law_all_kinds" "_law_all_kinds" Lh f fd)(Tx:Txt mg)(Gl:FnT P w K mg base "_law_kind_like" 2 ["_law_thing"] NZ):FnOk P w K mg base (CXe P w) 3 f fd [] (Cf K KG):=by
 refine Gc F ID ?_ ?_
 ·rintro ts O Φ Ξ ⟨r,⟨rfl,_⟩,_⟩
  rfl
 ·rintro cdv A outer s H E O Ξ hr xf _ Φ ⟨_,⟨rfl,rfl⟩,q⟩
  have sb:=AN
  have z2:(2:Nat)≤sizeLine:=by decide
  have z3:(3:Nat)≤sizeLine:=by decide
  refine Aa (AM 0 (Bo (BC ⟨kZ _,fun l hlO=>?_⟩)) ID.nd)
  refine Aa (Ob (ts:=En.map T.str) Af.own rfl (.cons ⟨AQ⟩ (.cons ⟨AQ⟩ (.cons ⟨AQ⟩ (.cons ⟨AQ⟩ (.cons ⟨AQ⟩ (.cons ⟨AQ⟩ .nil)))))) (by show 6≤sizeLine;decide) (fun i ρ' O'=>i≤6∧∃v1:Option T,ρ'=[some (.raw (.ref l)),v1,none]∧O'=Am O l (((En.take i).flatMap Hz).map kT)) ⟨by omega,none,rfl,rfl⟩ ?_ ?_)
  ·rintro i t _ _ e ⟨_,v1,rfl,rfl⟩
   rw[i6] at e
   cases ec:En[i]? with
   |none=>rw[ec] at e;cases e
   |some x=>
    rw[ec] at e
    cases e
    have hi:i<6:=(jn.mp ec).1
    have hx:=ok1 (i7 ec)
    have hlen:=BR (f:=Hz) (m:=17) (l:=En.take i) fun _ _=>IB
    have hl3:(En.take i).length≤6:=by rw[kH];omega
    refine⟨[some (.raw (.ref l)),some (.str x),none],AK 1 ID.nd (by show 1<3;decide),?_⟩
    refine Fu (BI (BE (ET.we (ev 0) ⟨l,rfl,⟨_,AE⟩,ET.we (t:=.lst ((Hz x).map kT)) (ET.cast (Du ["_law_n"] [("_law_word",1)] (jr 17) (fun j=> .int (0+(j:Int))) (fun j=>kT (x,[0+(j:Int)])) (fun(j:Nat)=>Ay (kT (x,[0+(j:Int)]))) rfl (Ba (AA Lh) iI (by decide+kernel)) (Ad Tx.nRange AB ⟨by decide,by decide⟩) (by rw[kr];omega) fun y hy=> ⟨[some (.int (0+(y:Int))),some (.str x)],fun X' Oe He is O'=>?_⟩) ?_) ⟨_,_,rfl,AE,?_,?_⟩⟩)))
    ·obtain⟨cl,s',H',fp,rfl⟩:=is
     exact⟨AK 0 av (by decide),Dq (Aj Gl hr BV (AG (AV (ts:=[.str x,.int (0+(y:Int))]) (AG (ev 1) (AG (ev 0) AD)) z2) AD) ⟨_,rfl,ML (ns:=[0+(y:Int)]) hx (by simp),rfl⟩),fun _=>AV (ts:=[.str x,.int (0+(y:Int))]) (AG (ev 1) (AG (ev 0) AD)) z2⟩
    ·unfold Hz
     rw[kI]
     rfl
    ·have:=IB (x:=x)
     rw[b9,b9]
     omega
    ·refine⟨by omega,_,rfl,?_⟩
     rw[Aq,oX,ec,ow,kl]
     congr 2
     simp
  rintro _ _ ⟨_,v1,rfl,rfl⟩
  have e6:En.take (En.map T.str).length=En:=rfl
  rw[e6]
  have l6:(En.flatMap Hz).length≤102:=by
   have:=BR (f:=Hz) (m:=17) (l:=En) fun _ _=>IB
   exact this
  refine Aa (Ob (ts:=GV.map T.str) Af.own rfl (.cons ⟨AQ⟩ (.cons ⟨AQ⟩ .nil)) (by show 2≤sizeLine;decide) (fun i ρ' O'=>i≤2∧∃v1 v2:Option T,ρ'=[some (.raw (.ref l)),v1,v2]∧O'=Am O l (((En.flatMap Hz)++(GV.take i).flatMap IA).map kT)) ⟨by omega,_,_,rfl,by rw[rf];simp⟩ ?_ ?_)
  ·rintro i t _ _ e ⟨_,v1,v2,rfl,rfl⟩
   rw[i6] at e
   cases ec:GV[i]? with
   |none=>rw[ec] at e;cases e
   |some x=>
    rw[ec] at e
    cases e
    have hi:i<2:=(jn.mp ec).1
    have hx:=jk (i7 ec)
    have hlen:=BR (f:=IA) (m:=255) (l:=GV.take i) fun _ _=>Qm
    have hl3:(GV.take i).length≤2:=by rw[kH];omega
    refine⟨[some (.raw (.ref l)),some (.str x),v2],AK 1 ID.nd (by show 1<3;decide),?_⟩
    refine Fu (BQ Af.own rfl (EI.wi (Bf (k:=1) (l:=16) Tx.nRange AB AB ⟨by decide,by decide,by decide,by decide⟩) ⟨fun j ρ' O'=>j≤15∧∃v2:Option T,ρ'=[some (.raw (.ref l)),some (.str x),v2]∧O'=Am O l ((((En.flatMap Hz)++(GV.take i).flatMap IA)++(jr j).flatMap fun i=>IW x i).map kT),⟨by omega,_,rfl,by rw[qD];simp⟩,?_,?_⟩))
    ·rintro j t _ _ e ⟨_,v2,rfl,rfl⟩
     obtain⟨hj,rfl⟩:=Br e
     have hj:j<15:=hj
     have hlenj:=BR (f:=fun i=>IW x i) (m:=17) (l:=jr j) fun _ _=>IC
     rw[kr] at hlenj
     refine⟨[some (.raw (.ref l)),some (.str x),some (.int (1+(j:Int)))],AK 2 ID.nd (by show 2<3;decide),?_⟩
     refine AF (BI (BE (ET.we (ev 0) ⟨l,rfl,⟨_,AE⟩,ET.we (t:=.lst ((IW x j).map kT)) (ET.cast (Du ["_law_k"] [("_law_word",1),("_law_n",2)] (jr 15) (fun j=> .int (1+(j:Int))) (fun(y:Nat)=>kT (x,[1+(j:Int),1+(y:Int)])) (fun(y:Nat)=>Ay (kT (x,[1+(j:Int),1+(y:Int)]))) rfl (Ba (AA Lh) iI (by decide+kernel)) (Bf (k:=1) (l:=16) Tx.nRange AB AB ⟨by decide,by decide,by decide,by decide⟩) (by rw[kr];omega) fun y hy=> ⟨[some (.int (1+(y:Int))),some (.str x),some (.int (1+(j:Int)))],fun X' Oe He is O'=>?_⟩) ?_) ⟨_,_,rfl,AE,?_,?_⟩⟩)))
     ·obtain⟨cl,s',H',fp,rfl⟩:=is
      exact⟨AK 0 aw (by decide),Dq (Aj Gl hr BV (AG (AV (ts:=[.str x,.int (1+(j:Int)),.int (1+(y:Int))]) (AG (ev 1) (AG (ev 2) (AG (ev 0) AD))) z3) AD) ⟨_,rfl,ML (ns:=[1+(j:Int),1+(y:Int)]) hx (by simp),rfl⟩),fun _=>AV (ts:=[.str x,.int (1+(j:Int)),.int (1+(y:Int))]) (AG (ev 1) (AG (ev 2) (AG (ev 0) AD))) z3⟩
     ·unfold IW
      rw[kI]
      rfl
     ·have:=IC (x:=x) (i:=j)
      rw[b9,b9,j8,j8]
      omega
     ·refine⟨by omega,_,rfl,?_⟩
      rw[Aq,Bx (f:=fun i=>IW x i),←lz,kl (l₂:=IW x j)]
    ·rintro _ _ ⟨_,v2,rfl,rfl⟩
     refine⟨by omega,_,_,rfl,?_⟩
     rw[Ar]
     have e15:(16-1:Int).toNat=15:=rfl
     rw[e15,oX,ec,ow,←lz]
     congr 3
     simp[IA]
  rintro _ _ ⟨_,v1,v2,rfl,rfl⟩
  have e2:GV.take (GV.map T.str).length=GV:=rfl
  rw[e2,XT]
  refine⟨?_⟩
  refine BD (p:=l) (n:=0) AE hlO rfl ?_
  rw[Al hlO]
  exact AF (AH (ET.we (Hl (ks:=Ej) (ss:=CO) Tx.nSorted (ev 0) (fun k hk=>Lo k (ES.mem_iff.mpr hk)) DX.2 (by have:=DX.1;omega) ES Ln) q))
end
end K40
namespace L2.TL
open PySem PySem.Spec PyProof.Rows
section
variable{Z:Zx}{ρ:List (Option T)}{O:AO}{es:List Expr}{ts us:List T}{x:Str}{p2 p3 p4 pos:Pos}{Ψ:Es}{Φ:CJ}{i:Nat}{n m:Int}{j1 j2 j3 k:Nat}{q1 q2 q3 q4:Pos}{y:Str}
theorem XW(i:Nat)(hρ:ρ[i]?=some (some (.lst us)))(h:HEA Z ρ O es ts)(hl:ts.length≤sizeLine)(hl2:us.length+ts.length≤sizeLine)(k:Φ (.lst (us++ts)) O)(hi:Z.X.N[i]?=some x)(hv:Ut Z.X.env.scope x)(hd:(x==("__debug__" :Str))=false)(hcd:(x==("__classdict__" :Str))=false):HWE Z ρ O (.BinOp (.Name x p2) .Add (.List es p3) p4) Φ:=
 ⟨ET.we (EL (ev i hρ hi hv hd hcd) (Bn h.out hl) hl2) k⟩
theorem HEA.k2(h:HEA Z ρ O es ts):HEA Z ρ O (.Tuple [.Constant (.str y) j1 q1,.Constant (.int n) j2 q2] k q4::es) (.tup [.str y,.int n]::ts):=.cons ⟨AV (AG AQ (AG AB AD)) (by show 2≤sizeLine;decide)⟩ h
theorem HEA.k3(h:HEA Z ρ O es ts):HEA Z ρ O (.Tuple [.Constant (.str y) j1 q1,.Constant (.int n) j2 q2,.Constant (.int m) j3 q3] k q4::es) (.tup [.str y,.int n,.int m]::ts):=.cons ⟨AV (AG AQ (AG AB (AG AB AD))) (by show 3≤sizeLine;decide)⟩ h
end
end L2.TL
namespace K40
open PySem L2 L2.TL PySem.Spec PyProof.Rows SrtG
noncomputable def Ue:List Str:=["_law_script","_law_some","_law_kind","_law_every","_law_cell","_law_pen","_law_bad"]
theorem FW:FnScope Ue ["_law_script"] (AA Jx):=⟨rfl,rfl,rfl,by decide+kernel,rfl,by decide+kernel,by decide+kernel⟩
noncomputable def iZ(i:Nat):Stmt:=(Ae Jx).getD i (.Pass ⟨0,0,0,0⟩)
noncomputable def iJ:Stmt→Expr
 | .For _ e _ _ _=>e
 |_=> .Constant .none 0 ⟨0,0,0,0⟩
noncomputable def iK:Stmt→List Stmt
 | .For _ _ b _ _=>b
 |_=> []
theorem eV:(Ah ["_law_kind"] []).Nodup:=by decide+kernel
theorem eW:(Ah ["_law_way"] [(("_law_bad" :Str),6)]).Nodup:=by decide+kernel
noncomputable def Qo:List Kd:=CO.filter fun k=>decide ((CH k).length<40)
theorem ax:0<Qo.length∧Qo.length≤300:=by decide+kernel
theorem Ug:CO.length≤300:=by decide+kernel
noncomputable def Uh:List Kd:=[("cube",[0]),("cube",[1]),("cube",[3]),("full",[1]),("full",[2]),("full",[5]),("ladder",[3]),("ladder",[6])]
noncomputable def XX:List Kd:=[("lines",[7]),("ring",[3]),("ring",[16]),("spokes",[5,2]),("spokes",[8,3]),("spokes",[7,2])]
noncomputable def ay:List Kd:=[("twisted",[2]),("twisted",[3]),("twisted",[8]),("two",[1,15]),("two",[3,3]),("two",[2,5])]
theorem az:((Uh++XX)++ay).all (fun k=>CO.contains k)=true:=by decide+kernel
theorem Ui{L:List Kd}(hL:∀k∈L,k∈CO)(h:t∈L.map kT):∃k,t=kT k∧KIs k:=by
 obtain⟨k,hk,rfl⟩:=jw.mp h
 exact⟨k,rfl,KIs.of (hL k hk)⟩
theorem eX:my (dT (.lst (j0 3 NX))) (dT (.lst (j0 3 NX)))=true:=by decide+kernel
theorem eY:Bg (.lst (j0 3 NX))=true:=by decide+kernel
theorem jl:(dT (.lst (j0 3 NX))).depth≤100:=by decide+kernel
structure Has(P:Program)(w:World)(K:a8)(mg:Str→Option Value)(base:Heap):Prop where
 tx:Txt mg
 gp:FnT P w K mg base "_law_pen_of" 1 ["_law_cell"] Xx
 gd:FnT P w K mg base "_law_draw" 2 ["_law_pen","_law_many"] Jz
 ga:FnT P w K mg base "_law_all_kinds" 3 [] KG
 gb:FnT P w K mg base "_law_bent_kind" 3 ["_law_pen","_law_kind"] Ud
 gk:FnT P w K mg base "_law_kind_web" 2 ["_law_kind"] Nf
 gl:FnT P w K mg base "_law_kind_like" 2 ["_law_thing"] NZ
 gt:FnT P w K mg base "_law_told" 7 ["_law_way","_law_kind"] Ua
 gr:FnT P w K mg base "_law_right" 8 ["_law_kind"] eT
section
variable {P:Program} {w:World} {K:a8} {mg:Str→Option Value} {base:Heap} {f:Addr} {cdv:Value} {A:j6} {outer:List Env} {s:Shared} {H:Hp} {E:XK}
noncomputable abbrev zL(P:Program)(w:World)(K:a8)(mg:Str→Option Value)(base:Heap)(f:Addr)(cdv:Value)(A:j6)(outer:List Env)(s:Shared)(H:Hp)(E:XK):Zx:=zB P w K mg base Ue "law" (AA Jx) f cdv A outer s H E Xu (fun _ _=>False)
theorem Uj(B:Has P w K mg base)(hr:Room 8 (zL P w K mg base f cdv A outer s H E).X.A)(xf:XFly (zL P w K mg base f cdv A outer s H E).X (zL P w K mg base f cdv A outer s H E).W)
  (q:∀v2 v5 v6 O',Ψ.nx [v0,v1,v2,some (.lst (Qo.map kT)),some (.int c),v5,v6] O'):HS (zL P w K mg base f cdv A outer s H E) [v0,v1,v2,some (.lst (Qo.map kT)),some (.int c),v5,v6] O (iK (iZ 4)) Ψ:=by
 have sb:=AN
 have Tx:=B.tx
 obtain⟨la0,la1⟩:=ax
 have hu:(zL P w K mg base f cdv A outer s H E).X.A.units+101<cLine:=by have:=hr.un;omega
 refine Aa (AM 5 (Ax B.gp (hr.mono (by decide)) xf (EA.wa (AG (ev 4) AD) ⟨c,rfl,fun p xs hp px=>?_⟩)) FW.nd)
 refine Aa (AM 2 (HV Bz (fun _ _=>rfl) (ET.we (ev 3) (FO B.gd (hr.mono (by decide)) xf (PO.start AE px) (ev 5) (Gb (ts:=Qo.map kT) Tx.nLen (ev 3)) (by rw[b9];omega) (by rw[b9];omega) fun r O1 r0 r1 po1=>?_))) FW.nd)
 obtain⟨t,e1,m1⟩:=TL.DJ (L:=Qo.map kT) r0 r1
 obtain⟨k,rfl,hk⟩:=Ui (L:=Qo) (fun k h=> (lR.mp h).1) m1
 refine Ee e1 _ ?_
 refine Aa (Xp (WW.wt (Xo (EB.wt (k:=false) (EB.cast (Bp (Dq (Aj B.gr hr xf (AG (ev 2) AD) ⟨k,rfl,hk,rfl⟩))) rfl) (GP (SH (SG (LL (Ax B.gr hr xf (QI (HV Bz (fun _ _=>rfl) (ET.we (ev 3) (FO B.gd (hr.mono (by decide)) xf po1 (ev 5) (Gb (ts:=Qo.map kT) Tx.nLen (ev 3)) (by rw[b9];omega) (by rw[b9];omega) fun r2 O2 r20 r21 po2=>?_)))))))))))))
 obtain⟨t2,e2,m2⟩:=TL.DJ (L:=Qo.map kT) r20 r21
 obtain⟨k2,rfl,hk2⟩:=Ui (L:=Qo) (fun k h=> (lR.mp h).1) m2
 refine Ee e2 _ ?_
 refine BC ⟨.bl true,⟨k2,rfl,hk2,rfl⟩,true,rfl,?_⟩
 refine GP (Ac ?_)
 obtain⟨ys,hy,py⟩:=po2.at
 refine Aa (AM 6 (Ax B.gb (hr.mono (by decide)) xf (EA.wa (AG (ev 5) (AG (ev 2) AD)) ⟨p,ys,k,rfl,hy,py,hk,fun u O3 pu po3=>?_⟩)) FW.nd)
 refine Fu (AS (k:=false) ?c (fun h=>by cases h) (fun _=>Ac (q _ _ _ _)))
 cases hg:Ay u with
 |true=>
  exact EW.eb (EW.cast (SI (x:=false) (y:=false) (EB.cast (Bp (Dq (Aj B.gl (hr.mono (by decide)) xf (AG (ev 6) AD) ⟨u,rfl,pu.th,rfl⟩))) (by rw[hg];rfl)) fun h=>by cases h) rfl)
 |false=>
  refine EW.eb (EW.cast (SI (x:=true) (y:=false) (EB.cast (Bp (Dq (Aj B.gl (hr.mono (by decide)) xf (AG (ev 6) AD) ⟨u,rfl,pu.th,rfl⟩))) (by rw[hg];rfl)) fun _=>Ve (EB.cast (BZ (Hc hu) (Ao _) (QK (t:=.lst (j0 3 NX)) (u:=.lst (j0 3 NX)) eY eY jl) (ET.cast (BL ["_law_way"] [("_law_bad",6)] (jr 3) (fun j=> .int (0+(j:Int))) (fun j=>NX) rfl (Ba (AA Jx) Ue (by decide+kernel)) (Ad (k:=3) Tx.nRange AB ⟨by decide,by decide⟩) (by rw[kr];omega) fun x hx=> ⟨[some (.int (0+(x:Int))),some u],fun X' Oe He is O'=>?_⟩) rfl) (Ou (t:=NX) (Bn (AG (AV (AG AQ AD) (by show 1≤sizeLine;decide)) AD) (by show 1≤sizeLine;decide)) AB ⟨by decide,by decide⟩)) (by rw[eX];rfl))) rfl)
  obtain⟨cl,s',H',fp,rfl⟩:=is
  have h3:=ky.mp hx
  exact⟨AK 0 eW (by decide),Jg (t:=NX) B.gt (hr.mono (by decide)) BV (AG (ev 0) (AG (ev 1) AD)) fun Φ' h=> ⟨x,u,by rw[t9],h3,pu.th,fun _=>h,fun m e _ z=>by rw[hg] at z;cases z⟩⟩
end
noncomputable def PX(K:a8):Sp:=fun vs H Q _=>∃(a:Addr) (ns:List Int),vs=[.ref a]∧SqL K H a (ns.map V.int)∧ns.length≤63∧∀H',Q (.bl true) H'
noncomputable def eZ:CJ:=fun t _=>t=.bl true
theorem bA(h:t∈((Uh++XX)++ay).map kT):∃k,t=kT k∧KIs k:=Ui (fun k hk=>by
 have:=kA.mp az k hk
 exact List.contains_iff_mem.mp this) h
section
variable {K:a8}
theorem Uk{ns:List Int}(hr:Room 8 (zL P w K mg base f cdv A outer s H E).X.A)(xf:XFly (zL P w K mg base f cdv A outer s H E).X (zL P w K mg base f cdv A outer s H E).W)(hS:SqL K H a (ns.map V.int))(hn:ns.length≤63)(hρ:ρ[0]?=some (some (.raw (.ref a))))
  (FC:FnOk P w K mg base (CXe P w) 1 fC fdC ["_law_script","_law_k"] (Fw K)) (mC:mg "_law_cell_at" =some (.ref fC)) (kC:lF K (.ref fC)=true) (bC:Binds K fdC ["_law_script","_law_k"] [])
  (k:∀ms:List Int,ms.length≤64→Φ (.lst (ms.map T.int)) O):HWE (zL P w K mg base f cdv A outer s H E) ρ O (iJ (iZ 4)) Φ:=by
 have sb:=AN
 refine⟨?_⟩
 refine LK MZ ?_
 refine SA (QI (SU FC mC kC bC (hr.mono (by decide)) xf (AG (ev 0 hρ) (AG AB AD)) ?_))
 intro σ H1 vs Q as r acc
 obtain⟨v,u,rfl,r1,r2⟩:=r.two_inv
 cases r1.raw_inv
 cases r2.int_inv
 refine⟨a,ns,rfl,Xv as.fr.kp hS,fun c=>acc _ _ _ _ ?_ (.refl as.ok) (.int c)⟩
 refine BC ⟨by show 1≤sizeLine;decide,?_⟩
 refine Zj rfl hS (ev 0 hρ) AB AB fun ms hm=>?_
 exact OZ (ts:=[T.int c]) (us:=ms.map T.int) (by simp;omega) _ (k (c::ms) (by simp;omega))
theorem Qn{ns:List Int}(B:Has P w K mg base)(hr:Room 8 (zL P w K mg base f cdv A outer s H E).X.A)(xf:XFly (zL P w K mg base f cdv A outer s H E).X (zL P w K mg base f cdv A outer s H E).W)(hS:SqL K H a (ns.map V.int))(hn:ns.length≤63)
  (FC:FnOk P w K mg base (CXe P w) 1 fC fdC ["_law_script","_law_k"] (Fw K)) (mC:mg "_law_cell_at" =some (.ref fC)) (kC:lF K (.ref fC)=true) (bC:Binds K fdC ["_law_script","_law_k"] []):
  HS (zL P w K mg base f cdv A outer s H E) [some (.raw (.ref a)),v1,v2,none,none,none,none] Xu ((Ae Jx).drop 3) {nx:=fun _ O'=>eZ .non O',rt:=eZ}:=by
 have sb:=AN
 have la:=Ug
 refine Aa (FG (i:=3) (nc:=["_law_kind"]) (cap:=[]) (by rfl) FW.nd rfl (Ba (AA Jx) Ue (by decide+kernel)) (EI.wi (BN (Tf B.ga (hr.mono (by decide)) xf ⟨rfl,rfl⟩)) (Dt CO kT kT (fun k=>decide ((CH k).length<40)) (by omega) (fun x hx=> ⟨[some (kT x)],fun X' Oe He is O'=>?_⟩) ?_)))
 ·obtain⟨cl,s',H',fp,rfl⟩:=is
  have hk:=KIs.of hx
  refine⟨AK 0 eV (by decide),EB.cast (OS (CC (ts:=(CH x).map AU) B.tx.nLen (AI (Aj B.gk (hr.mono (by decide)) BV (AG (ev 0) AD) ⟨x,rfl,hk,rfl⟩) AB)) AB) ?_,fun _=>ev 0⟩
  rw[b9,nu,decide_eq_true_eq,decide_eq_true_eq]
  omega
 ·refine Aa (Oc Af.own rfl (Uk hr xf hS hn rfl FC mC kC bC fun ms hm=> ⟨ms.map T.int,rfl,fun i ρ' O'=>∃v2 v4 v5 v6,ρ'=[some (.raw (.ref a)),v1,v2,some (.lst (Qo.map kT)),v4,v5,v6],⟨_,_,_,_,rfl⟩,?_,?_⟩) (by intro _;rfl))
  ·rintro i t _ O1 e ⟨v2,v4,v5,v6,rfl⟩
   rw[i6] at e
   cases ec:ms[i]? with
   |none=>rw[ec] at e;cases e
   |some c=>
    rw[ec] at e
    cases e
    exact⟨[some (.raw (.ref a)),v1,v2,some (.lst (Qo.map kT)),some (.int c),v5,v6],AK 4 FW.nd (by show 4<7;decide),Uj B hr xf fun _ _ _ _=> ⟨_,_,_,_,rfl⟩⟩
  ·rintro _ _ ⟨v2,v4,v5,v6,rfl⟩
   exact Fu (AH (ET.we Do rfl))
theorem Ul{ns:List Int}(B:Has P w K mg base)(hr:Room 8 (zL P w K mg base f cdv A outer s H E).X.A)(xf:XFly (zL P w K mg base f cdv A outer s H E).X (zL P w K mg base f cdv A outer s H E).W)(hS:SqL K H a (ns.map V.int))(hn:ns.length≤63)
  (FC:FnOk P w K mg base (CXe P w) 1 fC fdC ["_law_script","_law_k"] (Fw K)) (mC:mg "_law_cell_at" =some (.ref fC)) (kC:lF K (.ref fC)=true) (bC:Binds K fdC ["_law_script","_law_k"] []):HS (zL P w K mg base f cdv A outer s H E) (Ds Ue [.raw (.ref a)]) Xu (Ae Jx) {nx:=fun _ O'=>eZ .non O',rt:=eZ}:=by
 have sb:=AN
 refine Aa (Jo (ts:=Uh.map kT) 1 ?o1 ?o2 ?o3 FW.nd ?o4 ?o5 ?o6)
 case o4=>rfl
 case o5=>exact nv rfl
 case o6=>exact .inl rfl
 case o2=>exact kO (show 8≤1000 by decide) (nq sb)
 case o1=>exact .k2 (.k2 (.k2 (.k2 (.k2 (.k2 (.k2 (.k2 .nil)))))))
 refine Aa (Vn (us:=Uh.map kT) (ts:=XX.map kT) 1 ?v0 ?v1 ?v2 ?v3 ?v4 FW.nd ?v5 ?v6 ?v7 ?v8 ?v9 ?v10)
 case v0=>rfl
 case v5=>rfl
 case v6=>exact nv rfl
 case v7=>exact nv rfl
 case v8=>exact .inl rfl
 case v9=>decide
 case v10=>decide
 case v2=>exact kO (show 6≤1000 by decide) (nq sb)
 case v3=>exact kO (show 14≤1000 by decide) (nq sb)
 case v1=>exact .k2 (.k2 (.k2 (.k3 (.k3 (.k3 .nil)))))
 refine Aa ?_
 refine Oc ?a1 ?a2 ?h ?hs
 case a1=>exact Af.own
 case a2=>rfl
 case hs=>intro _;rfl
 refine XW (us:=Uh.map kT++XX.map kT) (ts:=ay.map kT) 1 rfl ?h1 ?h2 ?h3 ?hk rfl (nv rfl) (by decide) (by decide)
 case h1=>exact .k2 (.k2 (.k2 (.k3 (.k3 (.k3 .nil)))))
 case h2=>exact kO (show 6≤1000 by decide) (nq sb)
 case h3=>exact kO (show 20≤1000 by decide) (nq sb)
 refine⟨_,rfl,(fun i ρ' O'=>∃v1 v2,ρ'=[some (.raw (.ref a)),v1,v2,none,none,none,none]∧O'=Xu),⟨_,none,rfl,rfl⟩,?_,?_⟩
 ·rintro i t _ _ e ⟨v1,v2,rfl,rfl⟩
  obtain⟨k,rfl,hk⟩:∃k,t=kT k∧KIs k:=bA (by rw[kl,kl];exact i7 e)
  exact⟨[some (.raw (.ref a)),v1,some (kT k),none,none,none,none],AK 2 FW.nd (by show 2<7;decide),cf (k:=false) (EB.cast (Bp (Dq (Aj B.gr hr xf (AG (ev 2) AD) ⟨k,rfl,hk,rfl⟩))) rfl) (fun h=>by cases h) (fun _=>Zi ⟨_,_,rfl,rfl⟩)⟩
 ·rintro _ _ ⟨v1,v2,rfl,rfl⟩
  exact Qn B hr xf hS hn FC mC kC bC
theorem bB(F:Fun K "law" "law" Jx f fd)(B:Has P w K mg base)
  (FC:FnOk P w K mg base (CXe P w) 1 fC fdC ["_law_script","_law_k"] (Fw K)) (mC:mg "_law_cell_at" =some (.ref fC)) (kC:lF K (.ref fC)=true) (bC:Binds K fdC ["_law_script","_law_k"] []):
  FnOk P w K mg base (CXe P w) 9 f fd ["_law_script"] (PX K):=by
 refine cg F FW (fun vs H Q E h=>?_) (fun cdv A outer s H vs Q E hr h=>?_)
 ·obtain⟨a,ns,rfl,_⟩:=h
  rfl
 ·obtain⟨a,ns,rfl,hS,hn,k⟩:=h
  refine⟨[.raw (.ref a)],Xu,eZ,fun _ _=>False,.cons (.raw _) .nil,SW,fun xf=>Ul B hr xf hS hn FC mC kC bC,fun v H' t O' p f r=>?_,fun cls O' H' z=>z.elim⟩
  have p:t=T.bl true:=p
  subst p
  cases r.bl_inv
  exact k H'
end
end K40
namespace L2.TL
open PySem PySem.Spec PyProof.Rows
structure Fi(K:a8)(x:Str)(st:Stmt)(f:Addr)(fd:j5):Prop where
 F:Fun K x x st f fd
 a:nC K lE x=some (some (.ref f))
noncomputable def Fx(K:a8)(x:Str)(st:Stmt):Prop:=∃f fd,Fi K x st f fd
noncomputable def Zn(K:a8)(x:Str):Prop:=nC K lE x=some none
noncomputable def Cn(K:a8)(x:Str)(C:Addr):Prop:=nC K lE x=some (some (.ref C))
structure Mg(P:Program)(w:World)(K:a8)(mg:Str→Option Value)(base:Heap):Prop where
 mm:∀{x:Str} {v:Value},nC K lE x=some (some v)→mg x=some v
section
variable {K:a8} {x:Str} {st:Stmt} {f:Addr} {fd:j5} {ps:List Str}
theorem fi{kV:Value}(a:nC K lE x=some (some (.ref f)))(l:K.lookup f=some ⟨oc,od,.func (pf x x (Eu st) (Ae st) (AA st) .none kV doc pm an cdv ct),osl⟩)(q:sX K cdv x=true)(h:lF K (.ref f)=true):
  Fx K x st:=⟨f,_,⟨⟨⟨oc,od,kV,doc,pm,an,cdv,ct,osl,rfl,l,q⟩,h⟩,a⟩⟩
noncomputable abbrev Bi(x:Str)(st:Stmt)(ps:List Str)(us:List Value):Prop:=∀(kV doc pm:Value) (an:Option Addr) (cdv ct:Value),bindArgs (pf x x (Eu st) (Ae st) (AA st) .none kV doc pm an cdv ct) ⟨us,[]⟩=pure (ps.zip us)
theorem Fi.b1(h:Fi K x st f fd)(hl:ps.length=1)(q:∀a,Bi x st ps [a]):Binds K fd ps []:=h.F.binds fun _ _ _ _ _ _ us e=>match us,e.trans hl with| [a],_=>q a ..
theorem Fi.b2(h:Fi K x st f fd)(hl:ps.length=2)(q:∀a b,Bi x st ps [a,b]):Binds K fd ps []:=h.F.binds fun _ _ _ _ _ _ us e=>match us,e.trans hl with| [a,b],_=>q a b ..
theorem Fi.b3(h:Fi K x st f fd)(hl:ps.length=3)(q:∀a b c,Bi x st ps [a,b,c]):Binds K fd ps []:=h.F.binds fun _ _ _ _ _ _ us e=>match us,e.trans hl with| [a,b,c],_=>q a b c ..
theorem Fi.t(h:Fi K x st f fd)(M:Mg P w K mg base)(ok:FnOk P w K mg base (CXe P w) k f fd ps (Cf K s))(b:Binds K fd ps []):FnT P w K mg base x k ps s:=⟨f,fd,ok,M.mm h.a,h.F.kp,b⟩
structure Xk(K:a8)(C CR c0 c1 c2 c3 c4 c5 c6 c7:Addr)(b0 b1 b2 b3 b4 b5 b6 b7:Bool):Prop where
 e0:js K (.ref C) (.ref c0)=some b0
 e1:js K (.ref C) (.ref c1)=some b1
 e2:js K (.ref C) (.ref c2)=some b2
 e3:js K (.ref C) (.ref c3)=some b3
 e4:js K (.ref C) (.ref c4)=some b4
 e5:js K (.ref C) (.ref c5)=some b5
 e6:js K (.ref C) (.ref c6)=some b6
 e7:js K (.ref C) (.ref c7)=some b7
 kR:js K (.ref C) (.ref CR)=some true
 nR:(Value.ref C==Value.ref CR)=false
 ve:js K (.ref C) (.type "ValueError")=some true
 g1:nh K (.ref C) "__getattribute__" =some (some (.builtin "BaseException.__getattribute__"))
 g2:nh K (.ref C) "__getattr__" =some none
 g3:m9 K C (.type "BaseException")=some true
 g4:m9 K C (.type "object")=some true
 g5:nh K (.ref C) "__class__" =some (some (.builtin "object.__class__"))
structure Xg(K:a8)(CR:Addr):Prop where
 bR:m9 K CR (.type "BaseException")=some true
 g6:rF K (.builtin "object.__class__") "__get__" =some (some (.builtin "getset_descriptor.__get__"))
 g7:sD K (.builtin "object.__class__")=some true
theorem Xk.kit{CR:Addr}(x:Xk K C CR c0 c1 c2 c3 c4 c5 c6 c7 b0 b1 b2 b3 b4 b5 b6 b7):mf K (.ref C) (.ref CR)=some true:=by
 have h:=x.kR
 unfold js at h
 rw[x.nR,if_neg e8] at h
 exact h
end
theorem Fi.b0{K:a8}{st:Stmt}(h:Fi K x st f fd)(hl:ps.length=0)(q:Bi x st ps []):Binds K fd ps []:=h.F.binds fun _ _ _ _ _ _ us e=>match us,e.trans hl with| [],_=>q ..
end L2.TL
namespace K40
open PySem L2 L2.TL PySem.Spec PyProof.Rows
noncomputable def RwK(K:a8)(a:Addr)(x:Str)(i j:Int):Prop:=∃od n sl t1 t2 t3,K.lookup a=some ⟨.type "tuple",od,.seq #[.str x t1,.int i t2,.int j t3] n,sl⟩
theorem RwK.s{K:a8}(h:RwK K a x i j):L2.TL.SqS K a [.str x,.int i,.int j]:=by
 obtain⟨od,n,sl,t1,t2,t3,h⟩:=h
 exact⟨_,_,n,h,rfl,rfl,(by show 3≤sizeLine;decide),.cons ⟨t1,rfl⟩ (.cons ⟨t2,rfl⟩ (.cons ⟨t3,rfl⟩ .nil))⟩
noncomputable def OneK(K:a8):Prop:=∃g a0 a1 a2 a3 a4 a5 od n sl,nC K lE "OF_ONE_NUMBER" =some (some (.ref g))∧K.lookup g=some ⟨.type "tuple",od,.seq #[.ref a0,.ref a1,.ref a2,.ref a3,.ref a4,.ref a5] n,sl⟩∧
 RwK K a0 "cube" 0 4∧RwK K a1 "full" 1 16∧RwK K a2 "ladder" 3 8∧RwK K a3 "lines" 7 7∧RwK K a4 "ring" 3 16∧RwK K a5 "twisted" 2 8
theorem bN{K:a8}(h:K.lookup a=some ⟨.type "tuple",od,.seq #[.str x t1,.int i t2,.int j t3] n,sl⟩):RwK K a x i j:=⟨od,n,sl,t1,t2,t3,h⟩
theorem iL{K:a8}(a:nC K lE "OF_ONE_NUMBER" =some (some (.ref g)))(l:K.lookup g=some ⟨.type "tuple",od,.seq #[.ref a0,.ref a1,.ref a2,.ref a3,.ref a4,.ref a5] n,sl⟩)
 (r0:RwK K a0 "cube" 0 4) (r1:RwK K a1 "full" 1 16) (r2:RwK K a2 "ladder" 3 8) (r3:RwK K a3 "lines" 7 7) (r4:RwK K a4 "ring" 3 16) (r5:RwK K a5 "twisted" 2 8):OneK K:=⟨g,a0,a1,a2,a3,a4,a5,od,n,sl,a,l,r0,r1,r2,r3,r4,r5⟩
theorem OneK.one{K:a8}(h:OneK K)(M:Mg P w K mg base):One K mg:=by
 obtain⟨g,a0,a1,a2,a3,a4,a5,od,n,sl,ha,hl,r0,r1,r2,r3,r4,r5⟩:=h
 refine⟨g,[a0,a1,a2,a3,a4,a5],M.mm ha,⟨_,_,n,hl,rfl,rfl,(by show 6≤sizeLine;decide),?_⟩,rfl,fun i a e=>?_⟩
 ·exact .cons rfl (.cons rfl (.cons rfl (.cons rfl (.cons rfl (.cons rfl .nil)))))
 ·match i,e with
  |0,e=>cases e;exact⟨_,rfl,r0.s⟩
  |1,e=>cases e;exact⟨_,rfl,r1.s⟩
  |2,e=>cases e;exact⟨_,rfl,r2.s⟩
  |3,e=>cases e;exact⟨_,rfl,r3.s⟩
  |4,e=>cases e;exact⟨_,rfl,r4.s⟩
  |5,e=>cases e;exact⟨_,rfl,r5.s⟩
  |n+6,e=>cases e
theorem Um{K:a8}{CR:Addr}(M:Mg P w K mg base)(mNoPlace:Cn K "NoPlace" CNoPlace)(mNoNumber:Cn K "NoNumber" CNoNumber)(mNoLine:Cn K "NoLine" CNoLine)(mNoRing:Cn K "NoRing" CNoRing)(mNotEven:Cn K "NotEven" CNotEven)(mNoWeb:Cn K "NoWeb" CNoWeb)(mNoText:Cn K "NoText" CNoText)(mTooGreat:Cn K "TooGreat" CTooGreat)(g:Xg K CR)(x:Xk K C CR CNoPlace CNoNumber CNoLine CNoRing CNotEven CNoWeb CNoText CTooGreat b0 b1 b2 b3 b4 b5 b6 b7):Kinds K mg C b0 b1 b2 b3 b4 b5 b6 b7:=
 ⟨⟨_,M.mm mNoPlace,x.e0⟩,⟨_,M.mm mNoNumber,x.e1⟩,⟨_,M.mm mNoLine,x.e2⟩,⟨_,M.mm mNoRing,x.e3⟩,⟨_,M.mm mNotEven,x.e4⟩,⟨_,M.mm mNoWeb,x.e5⟩,⟨_,M.mm mNoText,x.e6⟩,⟨_,M.mm mTooGreat,x.e7⟩,x.ve,⟨x.g1,x.g2,x.g3,x.g4,x.g5,g.g6,g.g7⟩⟩
theorem bD{l:sG}{K:a8}{CR:Addr}(X:K.In h)(G:h.Ns lE mg)(hfa:mg "law" =some (.ref fa))
  (H0:Fx K "is_whole" NI) (H1:Fx K "ties_of" FN) (H2:Fx K "all_kinds" JA) (H3:Fx K "kind_good" Le) (H4:Fx K "need_kind" NJ) (H5:Fx K "cube_pairs" Oj) (H6:Fx K "two_pairs" Vz) (H7:Fx K "full_pairs" Ol) (H8:Fx K "ring_pairs" Ju) (H9:Fx K "across_pairs" WB) (H10:Fx K "spokes_pairs" Om) (H11:Fx K "lines_pairs" Gd) (H12:Fx K "places_and_pairs" Zs) (H13:Fx K "web_of_kind" Zt) (H14:Fx K "web_by" NK) (H15:Fx K "_law_cell_at" Sv) (H16:Fx K "_law_next" Sw) (H17:Fx K "_law_pen_of" Zu) (H18:Fx K "_law_draw" Sx) (H19:Fx K "_law_whole" Jy) (H20:Fx K "_law_kind_of" Oi) (H21:Fx K "_law_refused" Zr) (H22:Fx K "_law_kind_like" Dw) (H23:Fx K "_law_kind_tie" Lg) (H24:Fx K "_law_kind_web" GM) (H25:Fx K "_law_all_kinds" Lh) (H26:Fx K "_law_bent_kind" Sq) (H27:Fx K "least_told" Jv) (H28:Fx K "nears_of" KI) (H29:Fx K "fars_from" JB) (H30:Fx K "even_by" Oo) (H31:Fx K "ring_by_tie" WC) (H32:Fx K "shortest" Jw) (H33:Fx K "kind_counts" gc) (H34:Fx K "kind_even" gf) (H35:Fx K "kind_ring" gh) (H36:Fx K "_law_near" Hm) (H37:Fx K "_law_fars" Eh) (H38:Fx K "_law_through" Sr) (H39:Fx K "_law_shortest" Cm) (H40:Fx K "_law_even_of" Ei) (H41:Fx K "_law_is_of" Ss) (H42:Fx K "_law_told" Hn) (H43:Fx K "_law_right" Fv) (H44:Fx K "law" Jx)
  (zint:Zn K "int") (zbool:Zn K "bool") (ztuple:Zn K "tuple") (zlist:Zn K "list") (zset:Zn K "set") (zrange:Zn K "range") (zisinstance:Zn K "isinstance") (zmax:Zn K "max") (zmin:Zn K "min") (zlen:Zn K "len") (zall:Zn K "all") (zsorted:Zn K "sorted") (zrepr:Zn K "repr") (zValueError:Zn K "ValueError") (zenumerate:Zn K "enumerate") (zstr:Zn K "str") (vMOST_PLACES:nC K lE "MOST_PLACES" =some (some (.int 16 tMOST_PLACES))) (vLEAST_SPOKES:nC K lE "LEAST_SPOKES" =some (some (.int 3 tLEAST_SPOKES))) (vMOST_SPOKES:nC K lE "MOST_SPOKES" =some (some (.int 8 tMOST_SPOKES))) (mNoPlace:Cn K "NoPlace" CNoPlace) (mNoNumber:Cn K "NoNumber" CNoNumber) (mNoLine:Cn K "NoLine" CNoLine) (mNoRing:Cn K "NoRing" CNoRing) (mNotEven:Cn K "NotEven" CNotEven) (mNoWeb:Cn K "NoWeb" CNoWeb) (mNoText:Cn K "NoText" CNoText) (mTooGreat:Cn K "TooGreat" CTooGreat) (mR:Cn K "RingError" CR) (gR:Xg K CR)
  (yNoLine:Xk K CNoLine CR CNoPlace CNoNumber CNoLine CNoRing CNotEven CNoWeb CNoText CTooGreat false false true false false false false false) (xNoLine:pB K CNoLine VQ "ValueError.__new__" =true) (oneK:OneK K)
  :∃fd:j5,(∀(s:Shared) (v:Value),tD s fd ⟨[v],[]⟩ [("_law_script",v)])∧∀base:Heap,K.In base→base.Ns lE mg→FnOk l.prog w K mg base (CXe l.prog w) 9 fa fd ["_law_script"] (PX K):=by
 obtain⟨f0,d0,h0⟩:=H0
 obtain⟨f1,d1,h1⟩:=H1
 obtain⟨f2,d2,h2⟩:=H2
 obtain⟨f3,d3,h3⟩:=H3
 obtain⟨f4,d4,h4⟩:=H4
 obtain⟨f5,d5,h5⟩:=H5
 obtain⟨f6,d6,h6⟩:=H6
 obtain⟨f7,d7,h7⟩:=H7
 obtain⟨f8,d8,h8⟩:=H8
 obtain⟨f9,d9,h9⟩:=H9
 obtain⟨f10,d10,h10⟩:=H10
 obtain⟨f11,d11,h11⟩:=H11
 obtain⟨f12,d12,h12⟩:=H12
 obtain⟨f13,d13,h13⟩:=H13
 obtain⟨f14,d14,h14⟩:=H14
 obtain⟨f15,d15,h15⟩:=H15
 obtain⟨f16,d16,h16⟩:=H16
 obtain⟨f17,d17,h17⟩:=H17
 obtain⟨f18,d18,h18⟩:=H18
 obtain⟨f19,d19,h19⟩:=H19
 obtain⟨f20,d20,h20⟩:=H20
 obtain⟨f21,d21,h21⟩:=H21
 obtain⟨f22,d22,h22⟩:=H22
 obtain⟨f23,d23,h23⟩:=H23
 obtain⟨f24,d24,h24⟩:=H24
 obtain⟨f25,d25,h25⟩:=H25
 obtain⟨f26,d26,h26⟩:=H26
 obtain⟨f27,d27,h27⟩:=H27
 obtain⟨f28,d28,h28⟩:=H28
 obtain⟨f29,d29,h29⟩:=H29
 obtain⟨f30,d30,h30⟩:=H30
 obtain⟨f31,d31,h31⟩:=H31
 obtain⟨f32,d32,h32⟩:=H32
 obtain⟨f33,d33,h33⟩:=H33
 obtain⟨f34,d34,h34⟩:=H34
 obtain⟨f35,d35,h35⟩:=H35
 obtain⟨f36,d36,h36⟩:=H36
 obtain⟨f37,d37,h37⟩:=H37
 obtain⟨f38,d38,h38⟩:=H38
 obtain⟨f39,d39,h39⟩:=H39
 obtain⟨f40,d40,h40⟩:=H40
 obtain⟨f41,d41,h41⟩:=H41
 obtain⟨f42,d42,h42⟩:=H42
 obtain⟨f43,d43,h43⟩:=H43
 obtain⟨f44,d44,h44⟩:=H44
 have e:=hfa.symm.trans (PySem.W.mg_of X G h44.a)
 cases e
 have mm:∀{x:Str} {v:Value},nC K lE x=some (some v)→mg x=some v:=fun e=>PySem.W.mg_of X G e
 have nn:∀{x:Str},Zn K x→mg x=none:=fun e=>PySem.W.mg_none_of X G e
 have Tx:Txt mg:=⟨nn zint,nn zbool,nn ztuple,nn zlist,nn zset,nn zrange,nn zisinstance,nn zmax,nn zmin,nn zlen,nn zall,nn zsorted,nn zrepr,nn zValueError,nn zenumerate,nn zstr,⟨tMOST_PLACES,mm vMOST_PLACES⟩,⟨tLEAST_SPOKES,mm vLEAST_SPOKES⟩,⟨tMOST_SPOKES,mm vMOST_SPOKES⟩⟩
 refine⟨d44,fun s v=>?_,fun base _ _=>?_⟩
 ·obtain⟨⟨_,_,_,_,_,_,_,_,_,rfl,_⟩,_⟩:=h44.F
  exact .of_eq rfl
 have M:Mg l.prog w K mg base:=⟨mm⟩
 have UNoLine:=Um M mNoPlace mNoNumber mNoLine mNoRing mNotEven mNoWeb mNoText mTooGreat gR yNoLine
 have G0:=h0.t M (Su h0.F Tx) (h0.b3 rfl fun _ _ _ _ _ _ _ _ _=>rfl)
 have G1:=h1.t M (NM h1.F Tx) (h1.b1 rfl fun _ _ _ _ _ _ _=>rfl)
 have G2:=h2.t M (Wj h2.F Tx (oneK.one M)) (h2.b0 rfl fun _ _ _ _ _ _=>rfl)
 have G3:=h3.t M (Wl h3.F Tx G0 G2) (h3.b1 rfl fun _ _ _ _ _ _ _=>rfl)
 have G4:=h4.t M (Ti h4.F (mm mNoLine) xNoLine G3) (h4.b1 rfl fun _ _ _ _ _ _ _=>rfl)
 have G5:=h5.t M (WV h5.F Tx) (h5.b1 rfl fun _ _ _ _ _ _ _=>rfl)
 have G6:=h6.t M (aF h6.F Tx) (h6.b2 rfl fun _ _ _ _ _ _ _ _=>rfl)
 have G7:=h7.t M (WU h7.F Tx) (h7.b1 rfl fun _ _ _ _ _ _ _=>rfl)
 have G8:=h8.t M (WN h8.F Tx) (h8.b1 rfl fun _ _ _ _ _ _ _=>rfl)
 have G9:=h9.t M (aC h9.F Tx) (h9.b1 rfl fun _ _ _ _ _ _ _=>rfl)
 have G10:=h10.t M (WO h10.F Tx G8 G9) (h10.b2 rfl fun _ _ _ _ _ _ _ _=>rfl)
 have G11:=h11.t M (TV h11.F Tx) (h11.b1 rfl fun _ _ _ _ _ _ _=>rfl)
 have G12:=h12.t M (aJ h12.F ⟨G5,G7,G8,G9,G6,G11,G10⟩) (h12.b1 rfl fun _ _ _ _ _ _ _=>rfl)
 have G13:=h13.t M (aM h13.F G12 G1) (h13.b1 rfl fun _ _ _ _ _ _ _=>rfl)
 have G14:=h14.t M (Tj h14.F G4 G13) (h14.b1 rfl fun _ _ _ _ _ _ _=>rfl)
 have W15:FnOk l.prog w K mg base (CXe l.prog w) 1 f15 _ _ (Fw K):=WH h15.F Tx
 have G16:=h16.t M (WJ h16.F) (h16.b1 rfl fun _ _ _ _ _ _ _=>rfl)
 have G17:=h17.t M (Zw h17.F Tx) (h17.b1 rfl fun _ _ _ _ _ _ _=>rfl)
 have G18:=h18.t M (WK h18.F G16) (h18.b2 rfl fun _ _ _ _ _ _ _ _=>rfl)
 have G19:=h19.t M (QR h19.F Tx) (h19.b1 rfl fun _ _ _ _ _ _ _=>rfl)
 have WNoLine:=Zz (P:=l.prog) (w:=w) (base:=base) (by decide) (by decide) h21.F (KA h20.F Tx UNoLine) (mm h20.a) h20.F.kp (h20.b1 rfl fun _ _ _ _ _ _ _=>rfl)
 have C:Cat l.prog w K mg base CNoLine CR:=⟨⟨f21,d21,WNoLine,mm h21.a,h21.F.kp,(h21.b1 rfl fun _ _ _ _ _ _ _=>rfl)⟩,mm mR,gR.bR,yNoLine.kit⟩
 have G22:=h22.t M (Wt h22.F Tx G19) (h22.b1 rfl fun _ _ _ _ _ _ _=>rfl)
 have G23:=h23.t M (Wu h23.F Tx) (h23.b3 rfl fun _ _ _ _ _ _ _ _ _=>rfl)
 have G24:=h24.t M (XB h24.F Tx G23) (h24.b1 rfl fun _ _ _ _ _ _ _=>rfl)
 have G25:=h25.t M (XU h25.F Tx G22) (h25.b0 rfl fun _ _ _ _ _ _=>rfl)
 have G26:=h26.t M (XS h26.F Tx G18) (h26.b2 rfl fun _ _ _ _ _ _ _ _=>rfl)
 have G27:=h27.t M (UQ h27.F Tx) (h27.b1 rfl fun _ _ _ _ _ _ _=>rfl)
 have G28:=h28.t M (UD h28.F Tx) (h28.b1 rfl fun _ _ _ _ _ _ _=>rfl)
 have G29:=h29.t M (UH h29.F) (h29.b2 rfl fun _ _ _ _ _ _ _ _=>rfl)
 have G30:=h30.t M (XN h30.F Tx G28) (h30.b1 rfl fun _ _ _ _ _ _ _=>rfl)
 have G31:=h31.t M (aa h31.F Tx G29) (h31.b3 rfl fun _ _ _ _ _ _ _ _ _=>rfl)
 have G32:=h32.t M (UZ h32.F G28 G31 G27) (h32.b1 rfl fun _ _ _ _ _ _ _=>rfl)
 have G33:=h33.t M (eB h33.F Tx G14) (h33.b1 rfl fun _ _ _ _ _ _ _=>rfl)
 have G34:=h34.t M (eC h34.F G14 G30) (h34.b1 rfl fun _ _ _ _ _ _ _=>rfl)
 have G35:=h35.t M (eD h35.F G14 G32) (h35.b1 rfl fun _ _ _ _ _ _ _=>rfl)
 have G36:=h36.t M (UN h36.F) (h36.b2 rfl fun _ _ _ _ _ _ _ _=>rfl)
 have G37:=h37.t M (UP h37.F Tx G36) (h37.b2 rfl fun _ _ _ _ _ _ _ _=>rfl)
 have G38:=h38.t M (af h38.F Tx G37) (h38.b2 rfl fun _ _ _ _ _ _ _ _=>rfl)
 have G39:=h39.t M (ak h39.F Tx G38) (h39.b1 rfl fun _ _ _ _ _ _ _=>rfl)
 have G40:=h40.t M (ao h40.F Tx G36) (h40.b1 rfl fun _ _ _ _ _ _ _=>rfl)
 have G41:=h41.t M (UW h41.F G19) (h41.b2 rfl fun _ _ _ _ _ _ _ _=>rfl)
 have G42:=h42.t M (eP h42.F C ⟨G33,G34,G35⟩) (h42.b2 rfl fun _ _ _ _ _ _ _ _=>rfl)
 have G43:=h43.t M (eU h43.F ⟨Tx,G24,G42,G19,G41,G40,G39⟩) (h43.b1 rfl fun _ _ _ _ _ _ _=>rfl)
 exact bB h44.F ⟨Tx,G17,G18,G25,G26,G24,G22,G42,G43⟩ W15 (mm h15.a) h15.F.kp (h15.b2 rfl fun _ _ _ _ _ _ _ _=>rfl)
theorem walk{l:sG}{K:Params→a8}(hn:l.most=some 63)(hdf:d.params.defaults=[])
  (hY:∀(w:World) (h:Heap),YP w h→(K w.params).In h)
  (F:∀(w:World) (mg:Str→Option Value) (fa:Addr) (h:Heap),(K w.params).In h→h.Ns lE mg→mg d.name=some (.ref fa)→
   ∃fd:j5,(∀(s:Shared) (u:Value),tD s fd ⟨[u],[]⟩ [("_law_script",u)])∧∀base:Heap,(K w.params).In base→base.Ns lE mg→FnOk l.prog w (K w.params) mg base (CXe l.prog w) 9 fa fd ["_law_script"] (PX (K w.params))):
  PySem.W.WalkO q loose XP YP l.row.toRowW d [] (fun f vs=>PySem.call f vs):=
 L2.VI (n:=63) (k:=9) (x:="_law_script") (CX:=fun w=>CXe l.prog w) (sp:=fun w=>PX (K w.params)) hn (by decide) hdf ⟨rfl,by decide,by decide,rfl⟩ hY F (fun _ _ a ns hl _ hS=> ⟨a,ns,rfl,hS,hl,fun _=>rfl⟩) fun _ _ _ _ _ z=>z.never
end K40
open PySem PySem.W PyProof.Rows
set_option maxRecDepth 100000 in
set_option maxHeartbeats 0 in
theorem PySem.Challenge.cw_noshortring_k40_kinds_counted_holds : PySem.Challenge.rw_noshortring_k40_kinds_counted.Holds := by
 w_on;o_law
 refine PySem.W.holds_open (q:=K40.kq) (loose:=[]) (Xt:=fun s=>t7 K40.kq [] s&&tK [] s) (XP:=PySem.W.XL K40.kq []) (Yf:=fun s=>K40.ka.map s.heap.get?) (Ya:=fun w=> (K40.Kk w.params).map fun(p:Addr×Obj)=>some p.2) (YP:=uf K40.Kk) (N:=6814) K40.left (uf.of fun _=>by kernel_rfl) uf.keeps (fun s e=>xl_of s (Bool.and_eq_true_iff.mp e).1) XL.keeps (by rfl) (by rfl) (by rfl) (fun s e=>recFacts_of (Bool.and_eq_true_iff.mp e).2) (by rfl) (by first|assumption|decide+kernel) (by first|k_qdec|decide+kernel) ⟨rfl,rfl,rfl,rfl,rfl,by decide+kernel⟩ ?hw ?hc
 (case hw=>w_witness2)
 k_fill
 refine K40.walk (l:=PySem.Challenge.rw_noshortring_k40_kinds_counted) rfl rfl (fun w h Y=>Y) ?F
 case F=>
  intro w mg fa h KX G hmg
  refine' K40.bD KX G hmg ?H0 ?H1 ?H2 ?H3 ?H4 ?H5 ?H6 ?H7 ?H8 ?H9 ?H10 ?H11 ?H12 ?H13 ?H14 ?H15 ?H16 ?H17 ?H18 ?H19 ?H20 ?H21 ?H22 ?H23 ?H24 ?H25 ?H26 ?H27 ?H28 ?H29 ?H30 ?H31 ?H32 ?H33 ?H34 ?H35 ?H36 ?H37 ?H38 ?H39 ?H40 ?H41 ?H42 ?H43 ?H44 ?zint ?zbool ?ztuple ?zlist ?zset ?zrange ?zisinstance ?zmax ?zmin ?zlen ?zall ?zsorted ?zrepr ?zValueError ?zenumerate ?zstr ?vMOST_PLACES ?vLEAST_SPOKES ?vMOST_SPOKES ?mNoPlace ?mNoNumber ?mNoLine ?mNoRing ?mNotEven ?mNoWeb ?mNoText ?mTooGreat ?mR ?gR ?yNoLine ?xNoLine ?oneK
  case H0|H1|H2|H3|H4|H5|H6|H7|H8|H9|H10|H11|H12|H13|H14|H15|H16|H17|H18|H19|H20|H21|H22|H23|H24|H25|H26|H27|H28|H29|H30|H31|H32|H33|H34|H35|H36|H37|H38|H39|H40|H41|H42|H43|H44=> (refine' L2.TL.fi ?a ?l ?q ?k;(case a=>k_is);(case l=>k_is);(case q=>k_is);(case k=>k_is))
  case zint|zbool|ztuple|zlist|zset|zrange|zisinstance|zmax|zmin|zlen|zall|zsorted|zrepr|zValueError|zenumerate|zstr=> (delta L2.TL.Zn;k_is)
  case mNoPlace|mNoNumber|mNoLine|mNoRing|mNotEven|mNoWeb|mNoText|mTooGreat|mR=> (delta L2.TL.Cn;k_is)
  case vMOST_PLACES=>k_is
  case vLEAST_SPOKES=>k_is
  case vMOST_SPOKES=>k_is
  case gR=>exact⟨by k_is,by k_is,by k_is⟩
  case yNoLine=>exact⟨by kit_is,by kit_is,by kit_is,by kit_is,by kit_is,by kit_is,by kit_is,by kit_is,by kit_is,rfl,by kit_is,by k_is,by k_is,by k_is,by k_is,by k_is⟩
  case xNoLine=>k_exc
  case oneK=> (refine' K40.iL ?a ?l ?r0 ?r1 ?r2 ?r3 ?r4 ?r5;(case a=>k_is);(case l=>k_is);(case r0=> (refine' K40.bN ?r;(case r=>k_is)));(case r1=> (refine' K40.bN ?r;(case r=>k_is)));(case r2=> (refine' K40.bN ?r;(case r=>k_is)));(case r3=> (refine' K40.bN ?r;(case r=>k_is)));(case r4=> (refine' K40.bN ?r;(case r=>k_is)));(case r5=> (refine' K40.bN ?r;(case r=>k_is))))
