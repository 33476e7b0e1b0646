import PyProof.Rows.All
import Wide.All
import OpenK.AllK
import Wide.FinOn
import Lean
import PyProof.EqAt
import PyProof.EqKinds
import PyProof.TupleCall
import PySem.Challenge.RW_noshortring_k58_whole_betterings
noncomputable section
open Array renaming length_toList→jg,getElem?_toList→kl,getElem?_eq_some_iff→kQ,toList_extract→kY,toList_reverse→lK,toList_append→mX,toList_push→nI,ext'→ph,getD→qJ,toList_map→rm,replicate→rQ
open Bool renaming false_ne_true→i5,false_eq_true→jt,and_eq_true→km,not_eq_true'→k6,eq_iff_iff→lC,not_eq_false'→oh,not_true→oU,or_eq_true→oY,true_and→qb,not_false→qH,and_false→qI,or_false→sH
open Classical renaming byContradiction→l8
open False renaming elim→nL
open ForInStep renaming yield→mH
open Int renaming eq_ofNat_of_zero_le→j7,toNat_natCast→kH,le_refl→me,emod_lt_of_pos→mO,le_trans→mY,le_of_lt→mZ,emod_nonneg→nD,toNat_of_nonneg→qq,le_total→qv,le_antisymm→rP
open List renaming length_map→e7,getElem?_map→e9,mem_cons→i6,getElem?_eq_getElem→i8,mem_of_getElem?→i9,getElem?_eq_some_iff→jc,mem_singleton→jd,length_append→jf,size_toArray→ji,not_mem_nil→jk,mem_map→jl,length_cons→jm,mem_cons_of_mem→jn,mem_filter→jo,map_cons→jr,mem_append→ju,getElem?_append_right→jw,getElem?_set_ne→jx,getElem?_append_left→jz,map_append→jX,range→j6,length_take→j8,mem_cons_self→j9,getD_eq_getElem?_getD→kb,mem_range→ke,nodup_cons→kg,Pairwise→kj,map_map→kv,getElem?_set_self→ky,extract_eq_drop_take→kA,take_length→kI,lookup_cons→kJ,getElem?_of_mem→kK,mem_append_right→kM,take_add_one→kO,nodup_append→kS,getElem_mem→kT,take_append_drop→kU,replicate→kX,append_assoc→k4,pairwise_iff_getElem→lg,getElem?_drop→lx,length_filter_le→lz,getElem?_eq_none→lA,length_nil→lB,length_range→lG,ext_getElem?→lH,mem_of_getLast?→lJ,all_eq_true→lP,filterMap_cons→lR,length_replicate→lS,nodup_iff_pairwise_ne→lX,getLast?_eq_some_iff→l7,append_nil→mj,mem_filterMap→ml,mem_append_left→mq,getLast?_cons_cons→mw,getElem?_replicate→mx,pairwise_map→mE,drop_eq_getElem_cons→mJ,perm_append_comm→mL,length_drop→mN,map_nil→mP,pairwise_singleton→mS,getD→m6,filter_cons→m7,pairwise_cons→ni,getElem?_take→nj,length_set→nA,Perm→nC,take_sublist→nH,getElem?_take_of_lt→nK,map_congr_left→nQ,getElem?_range→nR,mem_flatMap→nU,getElem?_cons_succ→nV,zip_cons_cons→n9,take_of_length_le→oa,pairwise_lt_range→og,length_singleton→ow,perm_ext_iff_of_nodup→oC,mem_of_mem_take→oD,cons_append→oK,getElem_of_mem→oO,flatMap_append→oP,find?_eq_none→pe,filter_append→pf,pairwise_filterMap→pC,length_eq_zero_iff→pD,take_zero→pL,reverse_cons→pM,length_pos_of_mem→pN,head?_eq_getElem?→pO,head?_append→pP,getElem_cons_drop→pQ,getElem?_zipWith→pT,getElem_map→pX,pairwise_append→qh,forIn_cons→qm,reverse_append→qo,mem_map_of_mem→qp,flatMap_cons→qO,drop_sublist→qP,zipIdx_cons→rh,map_set→rG,range_succ→rN,of_mem_zip→rO,nodup_nil→sd,forIn_nil→se,drop_zero→sf,toArray→tf,cons→tT
open List.Pairwise renaming imp_of_mem→mh,nil→mF,imp→pR,map→qQ
open Nat renaming le_refl→jb,lt_of_lt_of_le→jy,ne_of_lt→jY,le_trans→kG,zero_le→kN,lt_irrefl→k8,lt_succ_of_lt→md,lt_succ_self→m5,lt_trichotomy→nG,zero_add→n6,ne_of_gt→oJ,not_lt_zero→oX,le_of_lt→pK,le_of_not_lt→pW,lt_of_le_of_lt→qG,le_of_succ_le→qN,mul_le_mul→r9,add_assoc→sG,mod_lt→sM,succ_pos→sV,succ_add→sW,sub_self→sX,lt_trans→sY,add_zero→sZ
open Option renaming some→ki,isSome→qW,getD_some→rg
open Or renaming inr→oN,inl→pJ
open Prod renaming ext→kW,fst→mn,mk→sU
open Prod.mk renaming injEq→oT
open PyProof.Rows renaming wpS_bind→ja,wpS_pure→jj,SortSt→kc,wpS_forRange→kP,seqObj→lj,slot_tuple_getitem→ly,wpS_mono→lZ,callWith_type1→my,IntsAre→mQ,envOfC→m9,failedOf→nT,wpS_modify→nW,SortKind→oB,wpS_get→pE,get?_update_seq→ql,AllBare→qw,wpS_lift→qB,setPending→qC,assignInOrder_cons→qE,listUpdate_at→qT,seqEpoch_at→rS,minRun'→sq
open PyProof.Rows.F renaming plain_set_update_loop→l9
open PyProof.Rows.SortSt renaming mk'→rF
open PySem renaming wpAny_bind→b6,Shared→c9,wpAny_pure→e6,starEach→i7,Spec→jh,Around→js,FuncData→jv,PyData→j5,wpAny_holding→kh,bootBuiltins→ku,assignEach→kz,compareOp→kR,wpAny_newObj_type→lh,SetTable→lu,wpAny_call_entry→lD,wpAny_callSpecial?_slot→lE,sizeLine_eq→lI,wpAny_seqItems→lN,mainGlobals→lQ,wpAny_setState_of→lT,foldedSetIterable→lU,wpAny_setField_rec→lV,wpAny_field→ma,cellsFrom→mf,wpAny_truthy_bool→mB,backTo→mM,wpAny_rule→mT,codeAny_builtin→mU,IsPair→mW,wpAny_passesOwn→ny,wpAny_loadPart'→nz,wpAny_pyIter_list→nE,binaryOp→nF,Builtin→nJ,mem_of_lookup→nO,wpAny_pyNext_list_item→nX,wpAny_mono→nY,wpAny_standAt→oi,wpAny_attempt→oj,plainId_quiet→om,pyNext→oz,codeAny_call_builtin→oA,wpAny_forIn_list→oF,codeAny→oG,wpAny_pyIter_tuple→oZ,wpAny_Call_Name_kw→o6,wpAny_letGo→pj,sliceBounds→pq,wpAny_tryCatch→pF,rawInt→pG,wpAny_pyNext_list_end→pS,wpAny_pyIter_zip→pU,wpAny_askSetting→pV,swapsWithSole→pY,swappedStores→pZ,attributeBase→p7,Keyword→p9,wpAny_updateSeq_pair→qc,wpAny_of_eq→qd,wpAny_execs_nil→qj,letOwnedTupleGo→qk,wpAny_typeOf→qt,codeAny_mono→qu,swapsWith→qx,pickOrder→qy,PassesOwn→qz,firstArgMember→qD,ofAClassStatement→qK,keywordEach→qL,wpAny_onRaise→qR,wpAny_newList→qS,wpAny_isInstance→qX,wpAny_eqBool_int→qY,noFill_tuple_add→qZ,checkBuiltinCall→rf,wpAny_call→rq,call_meets→rz,argBest→rA,IsPart→rH,wpAny_updateSeq→rJ,wpAny_specialOf→rK,wpAny_newTuple→rR,newFunctionEnv→rT,isSubtype_type→rV,ZipApart→rW,Operator→r8,seqItems?→sj,pushCells→sm,getItem→sr,callerA→su,seq_tuple_add→sC,frameOf→sE,setEntries→sI,pyIter→sJ,builtinsNs→sL,entryPlaceOf→sO,concat_meets→sP,compEnvC→sQ,backToKw→sR,Within→sS,BindsTo→tq,preSum→tu,Result→tB,Fin→tD,seqIndex_of→tE,richCompare→tF
open PySem.Around renaming under_plainId→mR
open PySem.AutoSeq1 renaming sub_tuple_tuple→oV
open PySem.Builtin.List renaming listTooLong→nN
open PySem.Builtin.Slice renaming slicePlaces→nv,sliceAdjust→oM
open PySem.Builtin.SmallTypes renaming nextOf→kL,ownedTupleIsFree→mi
open PySem.Builtin.Tuple renaming tupleExact→nM
open PySem.Challenge renaming pw_noshortring_k58_whole_betterings→j4
open PySem.Data renaming cell→qA,seq→tm,fields→tI
open PySem.EntryCells renaming newEntry→qr
open PySem.F renaming slot_tuple_iterator_next→mD,plain_min_loop→m8,slot_zip_next→ou,args_tuple_add_2→oR,plainAttrs_list→pA,entry_tuple_add→pB,slot_tuple_add→pI,entry_min_loop→rj
open PySem.Heap renaming get?_push_of_some→e8,lt_size→je,get?_push_size→jq,size_push→k7,get?_update_other→lY,SameBut→mG,get?_update_self→nu,get?_update_ne→oQ,ExtBut→qi,FlyingW→tj
open PySem.Heap.SameBut renaming update→nS
open PySem.NameKind renaming cell→ot
open PySem.Obj renaming mapSeq→lW,putSet→qF
open PySem.PyData renaming depthAll→ko,eqv→kr,eqvAll→mz
open PySem.SeqAt renaming EqAt→k9
open PySem.SetTable renaming insertAt→mK,runEnd→oy,sizeAbove→si,fill→sD
open PySem.SetTable.below renaming go→tN
open PySem.SetTable.probe renaming go→qf
open PySem.Shared renaming heap→rX
open PySem.Str renaming ofString→nZ
open PySem.Value renaming none→mV,type→o7,bool→o8,int→sv,str→tw
open PySem.W renaming Frag→b9,kitOne→jZ,openGood→kZ,kia_one→lO,kitCls→ng,keepIn→nh,hideAll_get→nP,Looks→oq,nsIn→oH,fnOf→oI,hideAll→oW,of_hideAll→o9,findIn→pH,sortI→p8,looks_findIn→qg,methodObj→qM,mroIn→qU,clsIn→qV,instObj→rL,OpenLaw→rM,lookIn→rY,codeIn→rZ,recOk→sF,xlAt→sT,InK→tH
open PySem.W.Fast renaming te14364793385576792824→lF,tw4187177175401517315→lL,te4187177175401517315→lM
open PySem.pickOrder renaming go→sN
open Sum renaming inr→rC,inl→rE
open True renaming intro→rB
set_option Elab.async false
set_option linter.all false
set_option maxRecDepth 100000
namespace L2
open PySem PySem.Spec PyProof.Rows
noncomputable abbrev Ks:=Sum Int Str
noncomputable def XN:Ks→Value→Bool
 | .inl k,v=>Value.isInt k v
 | .inr x,v=>Value.isStrOf x v
noncomputable def fk(w:World):Ks→Int
 | .inl k=>hashInt k
 | .inr x=>hashStr w x
theorem As:∀{k:Ks} {v:Value},XN k v=true→(∃i t,k=rE i∧v=sv i t)∨(∃x t,k=rC x∧v=tw x t)
 | .inl i,v,h=>by
  obtain⟨t,e⟩:=Value.isInt_shape (k:=i) (v:=v) h
  exact .inl ⟨i,t,rfl,e⟩
 | .inr x,v,h=>by
  obtain⟨t,e⟩:=Value.isStrOf_shape (x:=x) (v:=v) h
  exact .inr ⟨x,t,rfl,e⟩
theorem YG(a b:Int):decide ((rE a:Ks)=rE b)=(a==b):=by
 by_cases e:a=b
 ·subst e;simp
 ·have h:¬(rE a:Ks)=rE b:=fun q=>e (rE.inj q)
  rw[decide_eq_false h]
  exact(beq_eq_false_iff_ne.mpr e).symm
theorem YH(a b:Str):decide ((rC a:Ks)=rC b)=decide (a=b):=by
 by_cases e:a=b
 ·subst e;simp
 ·have h:¬(rC a:Ks)=rC b:=fun q=>e (rC.inj q)
  rw[decide_eq_false h,decide_eq_false e]
theorem YI(a:Int)(b:Str):decide ((rE a:Ks)=rC b)=false:=decide_eq_false (fun q=>nomatch q)
theorem YJ(a:Str)(b:Int):decide ((rC a:Ks)=rE b)=false:=decide_eq_false (fun q=>nomatch q)
noncomputable def JQ(prog:Program)(w:World):PySem.KeyKind prog w Ks where
 is:=XN
 hash:=fk w
 inj:=fun v a b ha hb=>by
  rcases As ha with⟨i,t,rfl,rfl⟩| ⟨x,t,rfl,rfl⟩
  ·rcases As hb with⟨j,u,rfl,e⟩| ⟨y,u,rfl,e⟩
   ·injection e with e1 _;rw[e1]
   ·exact nomatch e
  ·rcases As hb with⟨j,u,rfl,e⟩| ⟨y,u,rfl,e⟩
   ·exact nomatch e
   ·injection e with e1 _;rw[e1]
 byValue:=fun k v h=>by
  rcases As h with⟨i,t,rfl,rfl⟩| ⟨x,t,rfl,rfl⟩<;>rfl
 pyHash:=fun hv h=>by
  rcases As hv with⟨i,t,rfl,rfl⟩| ⟨x,t,rfl,rfl⟩
  ·exact wpAny_pyHash_int h
  ·exact wpAny_pyHash_str h
 eqBool:=fun hu hv h=>by
  rcases As hu with⟨i,t,rfl,rfl⟩| ⟨x,t,rfl,rfl⟩
  ·rcases As hv with⟨j,u,rfl,rfl⟩| ⟨y,u,rfl,rfl⟩
   ·rw[YG] at h;exact qY h
   ·rw[YI] at h;exact k9.int_str i t y u _ _ _ _ h
  ·rcases As hv with⟨j,u,rfl,rfl⟩| ⟨y,u,rfl,rfl⟩
   ·rw[YJ] at h;exact k9.str_int x t j u _ _ _ _ h
   ·rw[YH] at h;exact wpAny_eqBool_str h
 «strs»:=fun k x t v h=>by
  rcases As h with⟨i,u,rfl,e⟩| ⟨y,u,rfl,e⟩
  ·exact nomatch e
  ·injection e with e1 _
   subst e1
   cases v<;>rfl
inductive V where
 |non|bl (b:Bool)|int (i:Int)|str (x:Str)|byt (b:Array UInt8)|flt (b:UInt64)|ref (a:Addr)|ty (n:String)
 deriving DecidableEq
noncomputable def RelV:V→Value→Prop
 | .non,u=>u=mV
 | .bl b,u=>u=o8 b
 | .int i,u=>∃t,u=sv i t
 | .str x,u=>∃t,u=tw x t
 | .byt b,u=>∃t,u=Value.bytes b t
 | .flt b,u=>∃t,u=Value.float b t
 | .ref a,u=>u=Value.ref a
 | .ty n,u=>u=o7 n
noncomputable abbrev Vals:List V→List Value→Prop:=Paired RelV
theorem Vals.length{xs:List V}{us:List Value}(r:Vals xs us):xs.length=us.length:=Paired.length r
theorem Vals.get:∀{xs:List V} {us:List Value} {i:Nat} {x:V},Vals xs us→xs[i]?=some x→∃u,us[i]?=some u∧RelV x u
 |_,_,_,_,.nil,e=>by simp at e
 |_,_,0,_,.cons r _,e=>by simp at e;subst e;exact⟨_,rfl,r⟩
 |_,_,i+1,x,.cons _ t,e=>by
  obtain⟨u,h1,h2⟩:=Vals.get (i:=i) (x:=x) t (by simpa using e)
  exact⟨u,by simpa using h1,h2⟩
theorem Vals.set{x:V}{u:Value}(r:RelV x u):∀{xs:List V} {us:List Value} (i:Nat),Vals xs us→Vals (xs.set i x) (us.set i u)
 |_,_,_,.nil=> .nil
 |_,_,0,.cons _ t=> .cons r t
 |_,_,i+1,.cons q t=> .cons q (Vals.set r i t)
theorem Vals.append:∀{xs ys:List V} {us ws:List Value},Vals xs us→Vals ys ws→Vals (xs++ys) (us++ws)
 |_,_,_,_,.nil,s=>s
 |_,_,_,_,.cons r t,s=> .cons r (Vals.append t s)
theorem Vals.take:∀{xs:List V} {us:List Value} (n:Nat),Vals xs us→Vals (xs.take n) (us.take n)
 |_,_,0,_=> .nil
 |_,_,_+1,.nil=> .nil
 |_,_,n+1,.cons r t=> .cons r (Vals.take n t)
theorem Vals.drop:∀{xs:List V} {us:List Value} (n:Nat),Vals xs us→Vals (xs.drop n) (us.drop n)
 |_,_,0,r=>r
 |_,_,_+1,.nil=> .nil
 |_,_,n+1,.cons _ t=>Vals.drop n t
noncomputable def Us:Option V→Option Value→Prop
 |some v,some u=>RelV v u
 |none,none=>True
 |_,_=>False
noncomputable def KV{κ:Type}:List (κ×V)→List (κ×Value)→Prop:=Paired fun(p:κ×V) (q:κ×Value)=>p.1=q.1∧RelV p.2 q.2
noncomputable def kV:Ks→V
 | .inl i=> .int i
 | .inr x=> .str x
inductive HO where
 /-- a list -/
 | lst (xs:List V)
 /-- a tuple (never changes) -/
 | tup (xs:List V)
 /-- a dict whose keys are ints and texts; one whose keys are tuples of ints and texts (the empty one is both) -/
 | dK (kvs:List (Ks × V)) | dT (kvs:List (List Ks × V))
 /-- a set of ints: its members,its size -/
 | set (S:Int→Bool) (n:Nat)
 /-- an instance of the class at C,its dict at dx,its attributes -/
 | ins (C dx:Addr) (fs:List (Str × V))
 /-- the dict of the instance at x -/
 | own (x:Addr)
 /-- the dict of an exception -/
 | xd (fs:List (Str × V))
 /-- a bound method,f of x -/
 | met (f x:Addr)
 /-- a range object lo,lo + 1,.. below hi -/
 | rng (lo hi:Int)
 /-- a thing that is known to the object (the script; a dict while a loop walks it): read,never written while it is so -/
 | frz (o:Obj) (u:HO)
 /-- a code object's table -/
 | tbl (ps:Array Value)
 /-- any other thing,by what is true of its one object (a def of one's own: SetO a S n:=HO.ext fun h => ..) -/
 | ext (φ:Heap→Prop)
noncomputable abbrev Hp:=Addr→Option HO
noncomputable def upd(H:Hp)(a:Addr)(o:HO):Hp:=fun b=>if b=a then some o else H b
theorem AY{H:Hp}{a:Addr}{o:HO}:upd H a o a=some o:=by unfold upd;rw[if_pos rfl]
theorem AO{H:Hp}{a b:Addr}{o:HO}(h:b≠a):upd H a o b=H b:=by unfold upd;rw[if_neg h]
theorem AL{H:Hp}{a b:Addr}{o:HO}(h:H a=some o)(h':H b=none):a≠b:=by
 intro e;subst e;rw[h] at h';cases h'
section
variable(P:Program)(w:World)
noncomputable def ObjOk(H:Hp)(h:Heap)(a:Addr):HO→Prop
 | .lst xs=>xs.length≤sizeLine∧∃(its:List Value) (n:Nat),Vals xs its∧h.get? a=some {cls:=.type "list",data:=.seq its.toArray n}
 | .tup xs=>xs.length≤sizeLine∧∃its:List Value,Vals xs its∧IsTup h a its.toArray
 | .dK kvs=>kvs.length≤sizeLine∧(a==sysModules)=false∧∃vs,KV kvs vs∧h.DictOf (JQ P w) a vs
 | .dT kvs=>kvs.length≤sizeLine∧(a==sysModules)=false∧∃xs:List (List Ks×Addr×Value),
   Paired (fun(p:List Ks×V) (q:List Ks×Addr×Value)=>p.1=q.1∧H q.2.1=some (.tup (p.1.map kV))∧RelV p.2 q.2.2) kvs xs∧
   ∃o es ep,h.get? a=some o∧o.ExactDict∧o.data=.dict es ep∧es.toList=xs.map (entryOfKey (tupleKind (JQ P w)))∧(xs.map (·.1)).Nodup
 | .set S n=>h.SetOf (intKind P w) a S n
 | .ins C dx fs=>H dx=some (.own a)∧fs.length≤1000∧dx≠a∧h.get? a=some (rL C dx)∧
   ∃mA,h.Ns1 dx mA∧(∀f,Us (fs.lookup f) (mA f))∧sS mA (fs.map (·.1))
 | .own _=>∃o,h.get? a=some o
 | .xd fs=>∃mA,h.Ns1 a mA∧∀f,Us (fs.lookup f) (mA f)
 | .rng lo hi=>∃t u v,h.get? a=some {cls:=.type "range",data:=.fields #[.int lo t,.int hi u,.int 1 v]}
 | .frz o u=>h.get? a=some o∧ObjOk H h a u
 | .tbl ps=>h.get? a=some {cls:=.none,data:=.fields ps}
 | .met f x=>h.get? a=some (qM (.ref f) (.ref x))
 | .ext φ=>φ h∧(∃o,h.get? a=some o)∧∀h1 h2:Heap,φ h1→(∀o,h1.get? a=some o→h2.get? a=some o)→φ h2
noncomputable def HOk(H:Hp)(h:Heap):Prop:=∀a o,H a=some o→ObjOk P w H h a o
end
section
variable{P:Program}{w:World}{H H':Hp}{h h':Heap}{a:Addr}{o:HO}
theorem ObjOk.lt(x:ObjOk P w H h a o):a<h.objs.size:=by
 cases o with
 |lst xs=>obtain⟨_,_,_,_,e⟩:=x;exact je e
 |tup xs=>obtain⟨_,_,_,p⟩:=x;exact p.lt
 |dK kvs=>obtain⟨_,_,_,_,o,_,_,e,_⟩:=x;exact je e
 |dT kvs=>obtain⟨_,_,_,_,o,_,_,e,_⟩:=x;exact je e
 |set S n=>obtain⟨o,_,_,_,e,_⟩:=x;exact je e
 |ins C dx fs=>obtain⟨_,_,_,e,_⟩:=x;exact je e
 |own y=>obtain⟨_,e⟩:=x;exact je e
 |xd fs=>obtain⟨_,⟨_,_,_,e,_⟩,_⟩:=x;exact je e
 |rng lo hi=>obtain⟨_,_,_,e⟩:=x;exact je e
 |frz ob u=>obtain⟨e,_⟩:=x;exact je e
 |tbl ps=>exact je (show h.get? a=some _ from x)
 |met f y=>exact je (show h.get? a=some _ from x)
 |ext φ=>obtain⟨_,⟨_,e⟩,_⟩:=x;exact je e
theorem Paired.mapP{α β:Type}{F G:α→β→Prop}:∀{l₁:List α} {l₂:List β},Paired F l₁ l₂→(∀a b,F a b→G a b)→Paired G l₁ l₂
 |_,_,.nil,_=> .nil
 |_,_,.cons r t,f=> .cons (f _ _ r) (Paired.mapP t f)
theorem ObjOk.stay(x:ObjOk P w H h a o)(k:∀b u,(b=a∨H b=some (.own a))→h.get? b=some u→h'.get? b=some u)
  (ho:∀b,H b=some (.own a)→H' b=some (.own a)) (ht:∀b xs,H b=some (.tup xs)→H' b=some (.tup xs)):ObjOk P w H' h' a o:=by
 induction o with
 |lst xs=>obtain⟨z,its,n,r,e⟩:=x;exact⟨z,its,n,r,k _ _ (.inl rfl) e⟩
 |tup xs=>obtain⟨z,its,r,ob,e,c⟩:=x;exact⟨z,its,r,ob,k _ _ (.inl rfl) e,c⟩
 |dK kvs=>obtain⟨z,y,vs,r,ob,es,ep,e,c⟩:=x;exact⟨z,y,vs,r,ob,es,ep,k _ _ (.inl rfl) e,c⟩
 |dT kvs=>
  obtain⟨z,y,xs,r,ob,es,ep,e,c⟩:=x
  exact⟨z,y,xs,Paired.mapP r fun p q z=> ⟨z.1,ht _ _ z.2.1,z.2.2⟩,ob,es,ep,k _ _ (.inl rfl) e,c⟩
 |set S n=>obtain⟨ob,es,ep,t,e,c⟩:=x;exact⟨ob,es,ep,t,k _ _ (.inl rfl) e,c⟩
 |ins C dx fs=>
  obtain⟨d,z,ne,e,mA,⟨od,es,ep,e2,c⟩,r⟩:=x
  exact⟨ho _ d,z,ne,k _ _ (.inl rfl) e,mA,⟨od,es,ep,k _ _ (.inr d) e2,c⟩,r⟩
 |own y=>obtain⟨ob,e⟩:=x;exact⟨ob,k _ _ (.inl rfl) e⟩
 |xd fs=>obtain⟨mA,⟨od,es,ep,e,c⟩,r⟩:=x;exact⟨mA,⟨od,es,ep,k _ _ (.inl rfl) e,c⟩,r⟩
 |rng lo hi=>obtain⟨t,u,v,e⟩:=x;exact⟨t,u,v,k _ _ (.inl rfl) e⟩
 |frz ob u ih=>obtain⟨e,q⟩:=x;exact⟨k _ _ (.inl rfl) e,ih q⟩
 |tbl ps=>
  have e:h.get? a=some {cls:=.none,data:=.fields ps}:=x
  show h'.get? a=some {cls:=.none,data:=.fields ps}
  exact k a _ (.inl rfl) e
 |met f y=>
  have e:h.get? a=some (qM (.ref f) (.ref y)):=x
  show h'.get? a=some (qM (.ref f) (.ref y))
  exact k a _ (.inl rfl) e
 |ext φ=>obtain⟨p,⟨o,e⟩,st⟩:=x;exact⟨st _ _ p fun o q=>k _ _ (.inl rfl) q,⟨o,k _ _ (.inl rfl) e⟩,st⟩
theorem HOk.lt(x:HOk P w H h)(e:H a=some o):a<h.objs.size:=(x a o e).lt
theorem HOk.fresh(x:HOk P w H h)(e:h.objs.size≤a):H a=none:=by
 cases q:H a with
 |none=>rfl
 |some u=>exact absurd (jy (x.lt q) e) (k8 _)
theorem HOk.kept(x:HOk P w H h)(k:∀b u,h.get? b=some u→h'.get? b=some u):HOk P w H h':=fun a o e=>
 (x a o e).stay (fun b u _ q=>k b u q) (fun _ q=>q) fun _ _ q=>q
theorem HOk.laid(x:HOk P w H h)(k:∀b u,h.get? b=some u→h'.get? b=some u)(hp:h.objs.size≤a)(new:ObjOk P w (upd H a o) h' a o):HOk P w (upd H a o) h':=fun b u e=>by
 have hn:=x.fresh hp
 by_cases hb:b=a
 ·subst hb;rw[AY] at e;cases e;exact new
 ·rw[AO hb] at e
  exact(x b u e).stay (fun c v _ q=>k c v q) (fun c q=>by rw[AO (AL q hn)];exact q) fun c xs q=>by rw[AO (AL q hn)];exact q
end
noncomputable def Rd(H:Hp)(a:Addr)(u:HO):Prop:=H a=some u∨∃o,H a=some (.frz o u)
theorem Rd.ok{P:Program}{w:World}{H:Hp}{h:Heap}{a:Addr}{u:HO}(r:Rd H a u)(x:HOk P w H h):ObjOk P w H h a u:=by
 rcases r with r| ⟨o,r⟩
 ·exact x a u r
 ·obtain⟨_,q⟩:=x a _ r
  exact q
noncomputable def fU:Option HO→Prop
 |some (.lst _)=>True
 |some (.dK _)=>True
 |some (.dT _)=>True
 |some (.set _ _)=>True
 |some (.ins _ _ _)=>True
 |some (.ext _)=>True
 |_=>False
section
variable{P:Program}{w:World}{H:Hp}{h h':Heap}{x e:Addr}{o':HO}
theorem HOk.write(ok:HOk P w H h)(mu:fU (H x))(he:e=x∨H e=some (.own x))(k:∀b u,b≠e→h.get? b=some u→h'.get? b=some u)(heo:∃u,h'.get? e=some u)
  (new:ObjOk P w (upd H x o') h' x o'):HOk P w (upd H x o') h':=fun b u q=>by
 have nown:∀c y,H c=some (.own y)→c≠x:=fun c y r z=>by subst z;rw[r] at mu;exact mu
 have ntup:∀c xs,H c=some (.tup xs)→c≠x:=fun c xs r z=>by subst z;rw[r] at mu;exact mu
 by_cases hb:b=x
 ·subst hb;rw[AY] at q;cases q;exact new
 ·rw[AO hb] at q
  by_cases hbe:b=e
  ·have q':H b=some (.own x):=by
    rcases he with z|z
    ·exact absurd (hbe.trans z) hb
    ·rw[hbe];exact z
   rw[q] at q';cases q'
   obtain⟨v,hv⟩:=heo
   exact⟨v,by rw[hbe];exact hv⟩
  ·refine(ok b u q).stay (fun c v hc r=>k c v ?_ r) (fun c r=>by rw[AO (nown c b r)];exact r) fun c xs r=>by rw[AO (ntup c xs r)];exact r
   rcases hc with rfl|hc
   ·exact hbe
   ·rintro rfl
    rcases he with z|z
    ·exact nown c b hc z
    ·rw[hc] at z;cases z;exact hb rfl
end
structure Un(fs ex:List Addr)(H H':Hp)(h h':Heap):Prop where
 keep:∀b o,h.get? b=some o→H b=none→b∉fs→b∉ex→h'.get? b=some o
 slot:∀b o,h.get? b=some o→H b=none→b∈fs→b∉ex→∃sl,h'.get? b=some {o with slots:=sl}
 free:∀b o,h.get? b=some o→H b=none→b∉ex→H' b=none
 there:∀b o,h.get? b=some o→b∉ex→∃o',h'.get? b=some o'
 tups:∀b xs,H b=some (.tup xs)→H' b=some (.tup xs)
 frzs:∀b o u,H b=some (.frz o u)→H' b=some (.frz o u)
 tbls:∀b ps,H b=some (.tbl ps)→∃more,H' b=some (.tbl (ps++more))
section
variable{fs fs' ex ex':List Addr}{H H1 H2:Hp}{h h1 h2 h':Heap}{a x e:Addr}{o:HO}
theorem Un.any(u:Un fs ex H H1 h h1){b:Addr}{ob:Obj}(q:h.get? b=some ob)(n:H b=none)(hx:b∉ex):∃sl,h1.get? b=some {ob with slots:=sl}:=by
 by_cases hb:b∈fs
 ·exact u.slot b ob q n hb hx
 ·exact⟨ob.slots,u.keep b ob q n hb hx⟩
theorem Un.kept(k:∀b u,h.get? b=some u→h'.get? b=some u):Un fs ex H H h h':=
 ⟨fun b ob q _ _ _=>k b ob q,fun b ob q _ _ _=> ⟨ob.slots,k b ob q⟩,fun _ _ _ n _=>n,fun b ob q _=> ⟨ob,k b ob q⟩,fun _ _ q=>q,fun _ _ _ q=>q,fun _ ps q=> ⟨#[],by rw[q];simp⟩⟩
theorem Un.refl:Un fs ex H H h h:=Un.kept fun _ _ q=>q
theorem Un.laid(k:∀b u,h.get? b=some u→h'.get? b=some u)(hp:h.objs.size≤a)(hn:H a=none):Un fs ex H (upd H a o) h h' where
 keep:=fun b u q _ _ _=>k b u q
 slot:=fun b u q _ _ _=> ⟨u.slots,k b u q⟩
 free:=fun b u q n _=>by rw[AO (jY (jy (je q) hp))];exact n
 there:=fun b u q _=> ⟨u,k b u q⟩
 tups:=fun b xs q=>by rw[AO (AL q hn)];exact q
 frzs:=fun b u xs q=>by rw[AO (AL q hn)];exact q
 tbls:=fun b ps q=> ⟨#[],by rw[AO (AL q hn),q];simp⟩
theorem Un.write(mu:fU (H x))(he:e=x∨H e=some (.own x))(k:∀b u,b≠e→h.get? b=some u→h'.get? b=some u)(heo:∃u,h'.get? e=some u):Un fs ex H (upd H x o) h h':=by
 have hx:∀b,H b=none→b≠x:=fun b n z=>by subst z;rw[n] at mu;exact mu
 have hb:∀b,H b=none→b≠e:=fun b n z=>by
  subst z
  rcases he with r|r
  ·exact hx b n r
  ·rw[n] at r;cases r
 have hm:∀b u,H b=some u→¬fU (some u)→b≠x:=fun b u q nm z=>by subst z;rw[q] at mu;exact nm mu
 refine⟨fun b u q n _ _=>k b u (hb b n) q,fun b u q n _ _=> ⟨u.slots,k b u (hb b n) q⟩,fun b u q n _=>by rw[AO (hx b n)];exact n,fun b u q _=>?_,
  fun b xs q=>by rw[AO (hm b _ q fun z=>z)];exact q,fun b u xs q=>by rw[AO (hm b _ q fun z=>z)];exact q,fun b ps q=> ⟨#[],by rw[AO (hm b _ q fun z=>z),q];simp⟩⟩
 by_cases hbe:b=e
 ·subst hbe;exact heo
 ·exact⟨u,k b u hbe q⟩
end
noncomputable def fV(h:Heap)(H:Hp):List Addr:=(j6 h.objs.size).filter fun a=> (H a).isSome
noncomputable def JR(h:Heap)(H:Hp):Heap:=oW h (fV h H)
theorem Pt(h:Heap)(H:Hp):(JR h H).objs.size=h.objs.size:=PySem.W.hideAll_size _ _
theorem Qz{h:Heap}{H:Hp}{b:Addr}{o:Obj}(e:h.get? b=some o)(n:H b=none):(JR h H).get? b=some o:=
 nP _ e fun hm=>by
  have q:(H b).isSome=true:=(jo.mp hm).2
  rw[n] at q;simp at q
theorem Ut{h:Heap}{H:Hp}{b:Addr}{o:Obj}(e:(JR h H).get? b=some o):h.get? b=some o∧H b=none:=by
 have e':h.get? b=some o:=o9 (fV h H) e
 refine⟨e',?_⟩
 cases q:H b with
 |none=>rfl
 |some x=>
  have hm:b∈fV h H:=jo.mpr ⟨ke.mpr (je e'),by simp[q]⟩
  have z:(JR h H).get? b=none:=PySem.W.hideAll_none (fV h H) hm
  rw[z] at e;cases e
structure Mod(K:b9)(mg:Str→Option Value)(base:Heap):Prop where
 kin:K.In base
 glob:base.Ns lQ mg
 blt:∃mb,base.Ns sL mb∧∀x:Str,x≠"__name__"→mb x=ku x
 nolimit:base.NoLimit
structure Cx where
 prog:Program
 w:World
 K:b9
 mg:Str→Option Value
 base:Heap
 A:js
 N:List Str
 s₀:c9
 H₀:Hp
 env:Env
 outer:List Env
 stack:List Env
 ex:List Addr
 fn:Str→Bool
 calm:Bool
 pn:List (Addr×Obj)
 xe:Value→c9→Prop
noncomputable def IJ(l:List Env):List Addr:=l.filterMap (·.frame)
noncomputable abbrev Cx.fs(X:Cx):List Addr:=IJ X.outer
noncomputable def bI(sc:Scope)(x:Str):Prop:=sc.names.lookup x=some .local∨sc.names.lookup x=some .cell∨sc.names.lookup x=some .free
noncomputable def Mi(sc:Scope)(x:Str):Prop:=sc.names.lookup x=some .local∨sc.names.lookup x=some .cell
noncomputable def fm(env:Env)(h:Heap)(m:Str→Option Value)(x:Str)(u:Value):Prop:=
 (env.kindOf x=some .local∧m x=some u)∨((env.kindOf x=some .cell∨env.kindOf x=some .free)∧∃c,env.cells.lookup x=some c∧h.IsCell c (some u))
structure Cx.Ok(X:Cx):Prop where
 mod:Mod X.K X.mg X.base
 kind:X.env.scope.kind=.function
 glob:X.env.globals=lQ
 blt:X.env.builtins=sL
 above:X.s₀.heap.objs.size≤X.env.locals
 inj:∀x y c,X.env.cells.lookup x=some c→X.env.cells.lookup y=some c→x=y
 has:∀x,(X.env.kindOf x=some .cell∨X.env.kindOf x=some .free)→∃c,X.env.cells.lookup x=some c
 cab:∀x c,X.fn x=true→X.env.cells.lookup x=some c→X.s₀.heap.objs.size≤c
 hd:X.calm=true→X.A.handled=none
 frames:X.A.frames=some X.stack
 stk:X.stack=X.outer∨(X.stack=X.env::X.outer∧X.env.frame=some X.env.locals)
 exf:∀b∈X.ex,b≠X.env.locals∧∀x c,X.env.cells.lookup x=some c→c≠b
 bs:∀b o,X.base.get? b=some o→X.s₀.heap.get? b=some o∧X.H₀ b=none
 bsz:X.base.objs.size≤X.s₀.heap.objs.size
 noex:∀b o,X.base.get? b=some o→b∉X.ex
 exfs:∀b∈X.ex,b∉X.fs
 funs:X.s₀.heap.FunFrames X.base X.outer
 frf:∀b∈X.fs,X.H₀ b=none
structure Inv(X:Cx)(pins:List (Addr×Obj))(σ:List (Option V))(H:Hp)(s:c9):Prop where
 ok:X.Ok
 os:s.os=X.s₀.os
 bare:qw s.gens
 base:Un X.fs X.ex X.H₀ H X.s₀.heap s.heap
 loc:∃m,s.heap.Ns X.env.locals m∧∀(i:Nat) (x:Str) (v:V),X.N[i]?=some x→σ[i]?=some (some v)→bI X.env.scope x→∃u,RelV v u∧fm X.env s.heap m x u
 cell:∀x c,X.env.cells.lookup x=some c→∃v,s.heap.IsCell c v
 free:H X.env.locals=none
 freeC:∀x c,X.env.cells.lookup x=some c→H c=none
 pin:∀p∈X.pn++pins,s.heap.get? p.1=some p.2∧H p.1=none∧p.1≠X.env.locals∧p.1∉X.fs∧∀v,p.2.data≠.cell v
 hok:HOk X.prog X.w H s.heap
 len:σ.length=X.N.length
section
variable{X:Cx}{pins:List (Addr×Obj)}{σ:List (Option V)}{H H':Hp}{s:c9}{h':Heap}
theorem Cx.Ok.nofr(ok:X.Ok){b:Addr}{o:Obj}(e:X.base.get? b=some o):b∉X.fs:=fun hb=>by
 have:=(ok.funs.mem hb).1
 rw[e] at this;cases this
theorem Inv.bs(I:Inv X pins σ H s):∀b o,X.base.get? b=some o→s.heap.get? b=some o∧H b=none:=fun b o e=>
 ⟨I.base.keep b o (I.ok.bs b o e).1 (I.ok.bs b o e).2 (I.ok.nofr e) (I.ok.noex b o e),I.base.free b o (I.ok.bs b o e).1 (I.ok.bs b o e).2 (I.ok.noex b o e)⟩
theorem Inv.bk(I:Inv X pins σ H s):∀b o,X.base.get? b=some o→s.heap.get? b=some o:=fun b o e=> (I.bs b o e).1
theorem Inv.mod(I:Inv X pins σ H s):Mod X.K X.mg X.base:=I.ok.mod
theorem Inv.kIn(I:Inv X pins σ H s):X.K.In s.heap:=I.ok.mod.kin.keeps I.bk
theorem Inv.lt(I:Inv X pins σ H s):X.env.locals<s.heap.objs.size:=let⟨_,hn,_⟩:=I.loc;hn.lt
theorem Inv.sz(I:Inv X pins σ H s):X.s₀.heap.objs.size≤s.heap.objs.size:=kG I.ok.above (pK I.lt)
theorem Inv.nofs(I:Inv X pins σ H s){a:Addr}(h:s.heap.objs.size≤a):a∉X.fs:=fun hb=>by
 obtain⟨_,o,ho,_⟩:=I.ok.funs.mem hb
 exact absurd (jy (je ho) (kG I.sz h)) (k8 _)
theorem Inv.cne(I:Inv X pins σ H s):∀x c,X.env.cells.lookup x=some c→c≠X.env.locals:=fun x c e z=>by
 obtain⟨v,o,ho,hd⟩:=I.cell x c e
 obtain⟨m,⟨o',es,ep,ho',hd',_⟩,_⟩:=I.loc
 rw[z,ho'] at ho;cases ho;rw[hd'] at hd;cases hd
theorem Inv.funs(I:Inv X pins σ H s):s.heap.FunFrames X.base X.outer:=by
 have all:∀(l:List Env),(∀b∈IJ l,b∈X.fs)→X.s₀.heap.FunFrames X.base l→s.heap.FunFrames X.base l:=by
  intro l
  induction l with
  |nil=>intro _ _;trivial
  |cons env r ih=>
   intro hs hl
   obtain⟨hk,⟨L,o,hf,hn,ho,hd⟩,hr⟩:=hl
   have hL:L∈X.fs:=hs L (by unfold IJ;rw[lR,hf];exact j9)
   obtain⟨sl,e⟩:=I.base.slot L o ho (I.ok.frf L hL) hL fun z=>I.ok.exfs L z hL
   exact⟨hk,⟨L,_,hf,hn,e,hd⟩,ih (fun b hb=>hs b (by unfold IJ;rw[lR,hf];exact jn _ hb)) hr⟩
 exact all X.outer (fun _ hb=>hb) I.ok.funs
theorem Inv.stack(I:Inv X pins σ H s):s.heap.FunFrames X.base X.stack:=by
 rcases I.ok.stk with e| ⟨e,hf⟩
 ·rw[e];exact I.funs
 ·rw[e]
  obtain⟨m,hn,_⟩:=I.loc
  refine .cons (by rw[I.ok.kind];decide) hf hn ?_ I.funs
  exact Heap.get?_none_of_le (kG I.ok.bsz I.ok.above)
theorem Inv.stkSub(I:Inv X pins σ H s):∀b∈IJ X.stack,b∈X.env.locals::X.fs:=fun b hb=>by
 rcases I.ok.stk with e| ⟨e,hf⟩
 ·rw[e] at hb;exact jn _ hb
 ·rw[e] at hb
  unfold IJ at hb
  rw[lR,hf] at hb
  exact hb
theorem Inv.stkFree(I:Inv X pins σ H s):∀b∈IJ X.stack,H b=none:=fun b hb=>by
 rcases i6.mp (I.stkSub b hb) with e|hb
 ·rw[e];exact I.free
 ·obtain⟨_,o,ho,_⟩:=I.ok.funs.mem hb
  exact I.base.free b o ho (I.ok.frf b hb) fun z=>I.ok.exfs b z hb
theorem Inv.step{g':Array GenState}{t':Nat}{d':Drawn}{ch:List Addr}(I:Inv X pins σ H s)
  (hch:∀b∈ch,(b∈X.ex∨X.s₀.heap.objs.size≤b)∧b≠X.env.locals∧(∀x c,X.env.cells.lookup x=some c→c≠b)∧∀p∈X.pn++pins,p.1≠b)
  (keep:∀b o,b≠X.env.locals→b∉X.fs→b∉ch→s.heap.get? b=some o→H b=none→h'.get? b=some o)
  (slot:∀b o,b≠X.env.locals→b∈X.fs→b∉ch→s.heap.get? b=some o→H b=none→∃sl,h'.get? b=some {o with slots:=sl}) (free:∀b o,b∉ch→s.heap.get? b=some o→H b=none→H' b=none)
  (there:∀b o,b∉ch→s.heap.get? b=some o→∃o',h'.get? b=some o')
  (tups:∀b xs,H b=some (.tup xs)→H' b=some (.tup xs)) (frzs:∀b o u,H b=some (.frz o u)→H' b=some (.frz o u)) (tbls:∀b ps,H b=some (.tbl ps)→∃more,H' b=some (.tbl (ps++more)))
  (ns:∀m,s.heap.Ns X.env.locals m→h'.Ns X.env.locals m) (hok:HOk X.prog X.w H' h') (hg:qw g'):
  Inv X pins σ H' {s with heap:=h',gens:=g',drawn:=d',toks:=t'}:=by
 have neL:∀b o,X.s₀.heap.get? b=some o→b≠X.env.locals:=fun b o e=>jY (jy (je e) I.ok.above)
 have neC:∀b o,X.s₀.heap.get? b=some o→b∉X.ex→b∉ch:=fun b o e hx hb=>by
  rcases(hch b hb).1 with z|z
  ·exact hx z
  ·exact absurd (jy (je e) z) (k8 _)
 have cellK:∀x c,X.env.cells.lookup x=some c→∀v,s.heap.IsCell c v→h'.IsCell c v:=fun x c e v ⟨o,ho,hd⟩=>by
  have nch:c∉ch:=fun z=> (hch c z).2.2.1 x c e rfl
  by_cases hc:c∈X.fs
  ·obtain⟨sl,q⟩:=slot c o (I.cne x c e) hc nch ho (I.freeC x c e)
   exact⟨_,q,hd⟩
  ·exact⟨o,keep c o (I.cne x c e) hc nch ho (I.freeC x c e),hd⟩
 refine⟨I.ok,I.os,hg,⟨fun b o e n hb hx=>?_,fun b o e n hb hx=>?_,fun b o e n hx=>?_,fun b o e hx=>?_,fun b xs e=>tups b xs (I.base.tups b xs e),fun b o xs e=>frzs b o xs (I.base.frzs b o xs e),fun b ps e=>?_⟩,?_,fun x c e=>?_,?_,fun x c e=>?_,fun p hp=>?_,hok,I.len⟩
 ·exact keep b o (neL b o e) hb (neC b o e hx) (I.base.keep b o e n hb hx) (I.base.free b o e n hx)
 ·obtain⟨sl,e1⟩:=I.base.slot b o e n hb hx
  obtain⟨sl',e2⟩:=slot b _ (neL b o e) hb (neC b o e hx) e1 (I.base.free b o e n hx)
  exact⟨sl',e2⟩
 ·obtain⟨o',e1⟩:=I.base.there b o e hx
  exact free b o' (neC b o e hx) e1 (I.base.free b o e n hx)
 ·obtain⟨o',e1⟩:=I.base.there b o e hx
  exact there b o' (neC b o e hx) e1
 ·obtain⟨m1,e1⟩:=I.base.tbls b ps e
  obtain⟨m2,e2⟩:=tbls b _ e1
  exact⟨m1++m2,by rw[e2,Array.append_assoc]⟩
 ·obtain⟨m,hn,hl⟩:=I.loc
  refine⟨m,ns m hn,fun i x v e1 e2 e3=>?_⟩
  obtain⟨u,r,l⟩:=hl i x v e1 e2 e3
  refine⟨u,r,?_⟩
  rcases l with l| ⟨k,c,e,z⟩
  ·exact .inl l
  ·exact .inr ⟨k,c,e,cellK x c e _ z⟩
 ·obtain⟨v,z⟩:=I.cell x c e
  exact⟨v,cellK x c e v z⟩
 ·obtain⟨m,⟨o,_,_,ho,_⟩,_⟩:=I.loc
  exact free _ o (fun z=> (hch _ z).2.1 rfl) ho I.free
 ·obtain⟨v,o,ho,hd⟩:=I.cell x c e
  exact free c o (fun z=> (hch c z).2.2.1 x c e rfl) ho (I.freeC x c e)
 ·obtain⟨e,n,ne,nf,d⟩:=I.pin p hp
  have nch:p.1∉ch:=fun z=> (hch p.1 z).2.2.2 p hp rfl
  exact⟨keep p.1 p.2 ne nf nch e n,free p.1 p.2 nch e n,ne,nf,d⟩
theorem Inv.un{t':Nat}(I:Inv X pins σ H s)(u:Un X.fs [] H H' s.heap h')(hok:HOk X.prog X.w H' h'):Inv X pins σ H' {s with heap:=h',toks:=t'}:=by
 obtain⟨m,⟨o,es,ep,ho,r⟩,_⟩:=id I.loc
 obtain⟨sl,hL⟩:=u.any ho I.free (by simp)
 exact I.step (g':=s.gens) (d':=s.drawn) (ch:=[]) (fun _ z=>nomatch z) (fun b o _ hb _ e n=>u.keep b o e n hb (by simp)) (fun b o _ hb _ e n=>u.slot b o e n hb (by simp)) (fun b o _ e n=>u.free b o e n (by simp)) (fun b o _ e=>u.there b o e (by simp)) u.tups u.frzs u.tbls (fun m' hm=>by
  obtain⟨o',es',ep',ho',r'⟩:=hm
  rw[ho] at ho';cases ho'
  exact⟨_,es',ep',hL,r'⟩) hok I.bare
theorem Inv.call{g':Array GenState}{t':Nat}{d':Drawn}{ch:List Addr}(I:Inv X pins σ H s)(u:Un (IJ X.stack) ch H H' s.heap h')(hok:HOk X.prog X.w H' h')(hg:qw g')
  (hch:∀b∈ch,(b∈X.ex∨X.s₀.heap.objs.size≤b)∧b≠X.env.locals∧(∀x c,X.env.cells.lookup x=some c→c≠b)∧∀p∈X.pn++pins,p.1≠b):
  Inv X pins σ H' {s with heap:=h',gens:=g',drawn:=d',toks:=t'}:=by
 obtain⟨m,⟨o,es,ep,ho,r⟩,_⟩:=id I.loc
 obtain⟨sl,hL⟩:=u.any ho I.free fun z=> (hch _ z).2.1 rfl
 exact I.step (ch:=ch) hch (fun b o hL hb hc e n=>u.keep b o e n (fun z=> (i6.mp (I.stkSub b z)).elim hL hb) hc) (fun b o _ _ hc e n=>u.any e n hc) (fun b o hc e n=>u.free b o e n hc) (fun b o hc e=>u.there b o e hc) u.tups u.frzs u.tbls (fun m' hm=>by
  obtain⟨o',es',ep',ho',r'⟩:=hm
  rw[ho] at ho';cases ho'
  exact⟨_,es',ep',hL,r'⟩) hok hg
theorem Inv.turned{t':Nat}{it:Addr}(I:Inv X pins σ H s)(k:∀b o,b≠it→s.heap.get? b=some o→h'.get? b=some o)(hn:H it=none)(hL:it≠X.env.locals)
  (h1:it∈X.ex∨X.s₀.heap.objs.size≤it) (h2:∀x c,X.env.cells.lookup x=some c→c≠it) (h3:∀p∈X.pn++pins,p.1≠it):Inv X pins σ H {s with heap:=h',toks:=t'}:=by
 have nit:∀b u,H b=some u→b≠it:=fun b u e z=>by rw[z,hn] at e;cases e
 refine I.step (g':=s.gens) (d':=s.drawn) (ch:=[it]) (fun b hb=>?_) (fun b o _ _ hc e _=>k b o (fun z=>hc (by simp[z])) e) (fun b o _ _ hc e _=> ⟨o.slots,k b o (fun z=>hc (by simp[z])) e⟩) (fun _ _ _ _ n=>n)
  (fun b o hc e=> ⟨o,k b o (fun z=>hc (by simp[z])) e⟩) (fun _ _ e=>e) (fun _ _ _ e=>e) (fun b ps e=> ⟨#[],by rw[e];simp⟩) (fun m hm=>?_) (fun b u e=>?_) I.bare
 ·have e:b=it:=by simpa using hb
  subst e
  exact⟨h1,hL,h2,h3⟩
 ·obtain⟨o,es,ep,ho,r⟩:=hm
  exact⟨o,es,ep,k _ o (Ne.symm hL) ho,r⟩
 ·refine(I.hok b u e).stay (fun c v hc q=>k c v ?_ q) (fun _ q=>q) fun _ _ q=>q
  rcases hc with z|z
  ·rw[z];exact nit b u e
  ·exact nit c _ z
theorem Inv.tok(I:Inv X pins σ H s)(t:Nat):Inv X pins σ H {s with toks:=t}:=I.un (h':=s.heap) (t':=t) Un.refl I.hok
theorem Inv.kept{t':Nat}(I:Inv X pins σ H s)(k:∀b u,s.heap.get? b=some u→h'.get? b=some u):Inv X pins σ H {s with heap:=h',toks:=t'}:=I.un (Un.kept k) (I.hok.kept k)
theorem Inv.laid{a:Addr}{o:HO}{t':Nat}(I:Inv X pins σ H s)(k:∀b u,s.heap.get? b=some u→h'.get? b=some u)(hp:s.heap.objs.size≤a)(new:ObjOk X.prog X.w (upd H a o) h' a o):
  Inv X pins σ (upd H a o) {s with heap:=h',toks:=t'}:=I.un (Un.laid k hp (I.hok.fresh hp)) (I.hok.laid k hp new)
theorem Inv.write{x e:Addr}{o:HO}{t':Nat}(I:Inv X pins σ H s)(mu:fU (H x))(he:e=x∨H e=some (.own x))(k:∀b u,b≠e→s.heap.get? b=some u→h'.get? b=some u)(heo:∃u,h'.get? e=some u)
  (new:ObjOk X.prog X.w (upd H x o) h' x o):Inv X pins σ (upd H x o) {s with heap:=h',toks:=t'}:=I.un (Un.write mu he k heo) (I.hok.write mu he k heo new)
theorem Inv.weak{σ':List (Option V)}(I:Inv X pins σ H s)(hl:σ'.length=σ.length)(w:∀(i:Nat) v,σ'[i]?=some (some v)→σ[i]?=some (some v)):Inv X pins σ' H s:=
 ⟨I.ok,I.os,I.bare,I.base,let⟨m,hn,hl'⟩:=I.loc;⟨m,hn,fun i x v e1 e2 e3=>hl' i x v e1 (w i v e2) e3⟩,I.cell,I.free,I.freeC,I.pin,I.hok,hl.trans I.len⟩
theorem Inv.pins_of{pins':List (Addr×Obj)}(I:Inv X pins σ H s)(h:∀p∈pins',s.heap.get? p.1=some p.2∧H p.1=none∧p.1≠X.env.locals∧p.1∉X.fs∧∀v,p.2.data≠.cell v):Inv X pins' σ H s:=
 ⟨I.ok,I.os,I.bare,I.base,I.loc,I.cell,I.free,I.freeC,fun p hp=> (ju.mp hp).elim (fun z=>I.pin p (mq _ z)) (h p),I.hok,I.len⟩
theorem Kw{N:List Str}(hN:N.Nodup){i j:Nat}{x:Str}(a:N[i]?=some x)(b:N[j]?=some x):i=j:=by
 obtain⟨h1,e1⟩:=jc.mp a
 obtain⟨h2,e2⟩:=jc.mp b
 exact(List.getElem_inj hN).mp (e1.trans e2.symm)
theorem IZ{M:Model}{A:js}{E:Value→c9→Prop}{i:Nat}{x:Str}{v:V}{u:Value}{Q:Unit→c9→Prop}(I:Inv X pins σ H s)(hN:X.N.Nodup)(hi:X.N[i]?=some x)(hx:Mi X.env.scope x)(r:RelV v u)
  (h:∀s',Inv X pins (σ.set i (some v)) H s'→(∃a,mG a s.heap s'.heap∧(a=X.env.locals∨X.env.cells.lookup x=some a))→Q () s') (hf:X.fn x=true∨X.env.scope.names.lookup x=some .local:=by first|exact .inl rfl|exact .inr rfl|assumption):wpAny M A (storeName X.env x u) Q E s:=by
 obtain⟨m,hn,hl⟩:=id I.loc
 have hcls:(X.env.scope.kind==.class|| (X.env.scope.kind==.module&&X.env.locals !=X.env.globals))=false:=by rw[I.ok.kind];rfl
 have hiσ:i<σ.length:=by rw[I.len];exact(jc.mp hi).1
 have cne:=I.cne
 have tracked:∀{a:Addr} {h':Heap},(∃o,s.heap.get? a=some o∧H a=none)→mG a s.heap h'→HOk X.prog X.w H h':=fun{a h'} ha hs b ob e=>by
  obtain⟨_,_,hfree⟩:=ha
  refine(I.hok b ob e).stay (fun c w' hc q=> (hs.2 c ?_).trans q) (fun _ q=>q) fun _ _ q=>q
  rintro rfl
  rcases hc with rfl|hc
  ·rw[hfree] at e;cases e
  ·rw[hfree] at hc;cases hc
 rcases hx with hk|hk
 ·refine wpAny_storeName_local hk hn (fun h' hn' hs=>?_) hcls
  obtain⟨oL,_,_,hoL,_⟩:=id hn
  refine h _ ⟨I.ok,I.os,I.bare,⟨fun b o e n hb hx=>?_,fun b o e n hb hx=>?_,I.base.free,fun b o e hx=>?_,I.base.tups,I.base.frzs,I.base.tbls⟩,⟨_,hn',fun j y v' e1 e2 e3=>?_⟩,fun y c e=>?_,I.free,I.freeC,fun p hp=>?_,tracked ⟨oL,hoL,I.free⟩ hs,by simpa using I.len⟩ ⟨_,hs,.inl rfl⟩
  ·exact(hs.2 b (jY (jy (je e) I.ok.above))).trans (I.base.keep b o e n hb hx)
  ·obtain⟨sl,e1⟩:=I.base.slot b o e n hb hx
   exact⟨sl,(hs.2 b (jY (jy (je e) I.ok.above))).trans e1⟩
  ·obtain⟨o',e1⟩:=I.base.there b o e hx
   exact⟨o',(hs.2 b (jY (jy (je e) I.ok.above))).trans e1⟩
  ·by_cases hj:j=i
   ·subst hj
    rw[hi] at e1;cases e1
    rw[ky hiσ] at e2
    cases e2
    exact⟨u,r,.inl ⟨hk,by simp⟩⟩
   ·rw[jx (Ne.symm hj)] at e2
    obtain⟨u',r',q⟩:=hl j y v' e1 e2 e3
    refine⟨u',r',?_⟩
    rcases q with⟨k,e⟩| ⟨k,c,e,z⟩
    ·refine .inl ⟨k,?_⟩
     have:y≠x:=fun e=>hj (Kw hN e1 (e▸hi))
     simp[this,e]
    ·exact .inr ⟨k,c,e,z.sameBut hs (cne y c e)⟩
  ·obtain⟨w',z⟩:=I.cell y c e
   exact⟨w',z.sameBut hs (cne y c e)⟩
  ·obtain⟨e,n,ne,nf,d⟩:=I.pin p hp
   exact⟨(hs.2 p.1 ne).trans e,n,ne,nf,d⟩
 ·have hfn:X.fn x=true:=by
   rcases hf with z|z
   ·exact z
   ·rw[z] at hk;cases hk
  obtain⟨c,hc⟩:=I.ok.has x (.inl hk)
  obtain⟨w',z⟩:=I.cell x c hc
  refine wpAny_storeName_cell I.ok.kind hk hc z (fun h' hc' hs=>?_)
  obtain⟨oc,hoc,hocd⟩:=id z
  refine h {s with heap:=h'} ⟨I.ok,I.os,I.bare,⟨fun b o e n hb hx=>?_,fun b o e n hb hx=>?_,I.base.free,fun b o e hx=>?_,I.base.tups,I.base.frzs,I.base.tbls⟩,⟨m,hn.sameBut hs (Ne.symm (cne x c hc)),fun j y v' e1 e2 e3=>?_⟩,fun y c' e=>?_,I.free,I.freeC,fun p hp=>?_,tracked ⟨oc,hoc,I.freeC x c hc⟩ hs,by simpa using I.len⟩ ⟨c,hs,.inr hc⟩
  ·exact(hs.2 b (jY (jy (je e) (I.ok.cab x c hfn hc)))).trans (I.base.keep b o e n hb hx)
  ·obtain⟨sl,e1⟩:=I.base.slot b o e n hb hx
   exact⟨sl,(hs.2 b (jY (jy (je e) (I.ok.cab x c hfn hc)))).trans e1⟩
  ·obtain⟨o',e1⟩:=I.base.there b o e hx
   exact⟨o',(hs.2 b (jY (jy (je e) (I.ok.cab x c hfn hc)))).trans e1⟩
  ·by_cases hj:j=i
   ·subst hj
    rw[hi] at e1;cases e1
    rw[ky hiσ] at e2
    cases e2
    exact⟨u,r,.inr ⟨.inl hk,c,hc,hc'⟩⟩
   ·rw[jx (Ne.symm hj)] at e2
    obtain⟨u',r',q⟩:=hl j y v' e1 e2 e3
    refine⟨u',r',?_⟩
    rcases q with q| ⟨k,c',e,z'⟩
    ·exact .inl q
    ·refine .inr ⟨k,c',e,z'.sameBut hs ?_⟩
     rintro rfl
     exact hj (Kw hN e1 (I.ok.inj _ _ _ e hc▸hi))
  ·by_cases hcc:c'=c
   ·subst hcc;exact⟨_,hc'⟩
   ·obtain⟨w2,z2⟩:=I.cell y c' e
    exact⟨w2,z2.sameBut hs hcc⟩
  ·obtain⟨e,n,ne,nf,d⟩:=I.pin p hp
   refine⟨(hs.2 p.1 ?_).trans e,n,ne,nf,d⟩
   intro q
   rw[q,hoc] at e
   have q':oc=p.2:=ki.inj e
   exact d w' (by rw[←q'];exact hocd)
theorem DP{M:Model}{A:js}{E:Value→c9→Prop}{i:Nat}{x:Str}{v:V}{u:Value}{Q:Unit→c9→Prop}(I:Inv X pins σ H s)(hN:X.N.Nodup)(hi:X.N[i]?=some x)(hx:Mi X.env.scope x)(r:RelV v u)
  (h:∀s',Inv X pins (σ.set i (some v)) H s'→Q () s') (hf:X.fn x=true∨X.env.scope.names.lookup x=some .local:=by first|exact .inl rfl|exact .inr rfl|assumption):wpAny M A (storeName X.env x u) Q E s:=
 IZ I hN hi hx r (fun s' I' _=>h s' I') hf
theorem Inv.call'{s':c9}{ch:List Addr}(I:Inv X pins σ H s)(ho:s'.os=s.os)(u:Un (IJ X.stack) ch H H' s.heap s'.heap)(hok:HOk X.prog X.w H' s'.heap)(hg:qw s'.gens)
  (hch:∀b∈ch,(b∈X.ex∨X.s₀.heap.objs.size≤b)∧b≠X.env.locals∧(∀x c,X.env.cells.lookup x=some c→c≠b)∧∀p∈X.pn++pins,p.1≠b):Inv X pins σ H' s':=by
 obtain⟨h',g',d',t',o'⟩:=s'
 have e:o'=s.os:=ho
 subst e
 exact I.call (g':=g') (t':=t') (d':=d') u hok hg hch
end
noncomputable abbrev XK:=Value→Option Addr→Hp→Prop
noncomputable abbrev St:=List (Option V)
noncomputable abbrev VK:=V→Hp→Prop
noncomputable abbrev TE:=St→Hp→VK→Prop
noncomputable abbrev TT:=St→Hp→(Bool→Hp→Prop)→Prop
noncomputable abbrev TA:=St→Hp→(List V→Hp→Prop)→Prop
structure Ends where
 nx:St→Hp→Prop
 rt:VK
 bk:St→Hp→Prop:=fun _ _=>False
 ct:St→Hp→Prop:=fun _ _=>False
noncomputable abbrev TS:=Ends→St→Hp→Prop
noncomputable def EP(X:Cx)(pins:List (Addr×Obj))(σ:St)(Q:VK)(u:Value)(s':c9):Prop:=∃v H',Inv X pins σ H' s'∧RelV v u∧Q v H'
noncomputable def TP(X:Cx)(pins:List (Addr×Obj))(σ:St)(Q:Bool→Hp→Prop)(b:Bool)(s':c9):Prop:=∃H',Inv X pins σ H' s'∧Q b H'
noncomputable def AP(X:Cx)(pins:List (Addr×Obj))(σ:St)(Q:List V→Hp→Prop)(us:List Value)(s':c9):Prop:=∃vs H',Inv X pins σ H' s'∧Vals vs us∧Q vs H'
noncomputable def SP(X:Cx)(pins:List (Addr×Obj))(D:Ends)(f:Flow)(s':c9):Prop:=
 match f with
 | .next=>∃σ' H',Inv X pins σ' H' s'∧D.nx σ' H'
 | .brk=>∃σ' H',Inv X pins σ' H' s'∧D.bk σ' H'
 | .cont=>∃σ' H',Inv X pins σ' H' s'∧D.ct σ' H'
 | .ret u=>∃v σ' H',Inv X pins σ' H' s'∧RelV v u∧D.rt v H'
noncomputable def PE(X:Cx)(e:Expr)(t:TE):Prop:=
 ∀(pins:List (Addr×Obj)) (s:c9) (σ:St) (H:Hp) (Q:VK),Inv X pins σ H s→t σ H Q→wpAny (model X.prog X.w) X.A (eval e X.env) (EP X pins σ Q) X.xe s
noncomputable def PT(X:Cx)(e:Expr)(t:TT):Prop:=
 ∀(pins:List (Addr×Obj)) (s:c9) (σ:St) (H:Hp) (Q:Bool→Hp→Prop),Inv X pins σ H s→t σ H Q→wpAny (model X.prog X.w) X.A (isTrue e X.env (eval e X.env)) (TP X pins σ Q) X.xe s
noncomputable def PW(X:Cx)(e:Expr)(t:TT):Prop:=
 ∀(whole:Sem Value) (pins:List (Addr×Obj)) (s:c9) (σ:St) (H:Hp) (Q:Bool→Hp→Prop),Inv X pins σ H s→t σ H Q→wpAny (model X.prog X.w) X.A (isTrue e X.env whole) (TP X pins σ Q) X.xe s
theorem PW.pt{X:Cx}{e:Expr}{t:TT}(h:PW X e t):PT X e t:=h _
noncomputable def PA(X:Cx)(es:List Expr)(t:TA):Prop:=
 ∀(pos:Pos) (pins:List (Addr×Obj)) (s:c9) (σ:St) (H:Hp) (Q:List V→Hp→Prop),Inv X pins σ H s→t σ H Q→wpAny (model X.prog X.w) X.A (spliced (mM pos (i7 es X.env))) (AP X pins σ Q) X.xe s
noncomputable def PS(X:Cx)(st:Stmt)(t:TS):Prop:=
 ∀(pins:List (Addr×Obj)) (s:c9) (σ:St) (H:Hp) (D:Ends),Inv X pins σ H s→t D σ H→wpAny (model X.prog X.w) X.A (exec st X.env) (SP X pins D) X.xe s
noncomputable def PSs(X:Cx)(st:List Stmt)(t:TS):Prop:=
 ∀(pins:List (Addr×Obj)) (s:c9) (σ:St) (H:Hp) (D:Ends),Inv X pins σ H s→t D σ H→wpAny (model X.prog X.w) X.A (execs st X.env) (SP X pins D) X.xe s
theorem Az{α:Type}{t:Sem α}{Q Q':α→c9→Prop}{M:Model}{A:js}{E:Value→c9→Prop}{s:c9}(h:wpAny M A t Q E s)(hQ:∀a s,Q a s→Q' a s):wpAny M A t Q' E s:=nY h hQ fun _ _ x=>x
section
variable{X:Cx}
noncomputable def bL(i:Nat):TE:=fun σ H Q=>∃v,σ[i]?=some (some v)∧Q v H
noncomputable def tC(v:V):TE:=fun _ H Q=>Q v H
theorem RA{i:Nat}{x:Str}{pos:Pos}(hN:X.N[i]?=some x)(hv:bI X.env.scope x)(hd:(x==("__debug__" :Str))=false:=by decide)(hcd:(x==("__classdict__" :Str))=false:=by decide):PE X (.Name x pos) (bL i):=by
 intro pins s σ H Q I h
 obtain⟨v,e,h⟩:=h
 obtain⟨m,hn,hl⟩:=I.loc
 obtain⟨u,r,l⟩:=hl i x v hN e hv
 have fin:EP X pins σ Q u s:=⟨v,H,I,r,h⟩
 rcases l with⟨hk,hm⟩| ⟨hk,c,hc,hcell⟩
 ·exact wpAny_Name (wpAny_loadName_local I.ok.kind hk hn hm fin) hd
 ·rcases hk with hk|hk
  ·exact wpAny_Name (wpAny_loadName_cell I.ok.kind hk hc hcell fin) hd
  ·exact wpAny_Name (wpAny_loadName_free I.ok.kind hk hc hcell fin hcd) hd
theorem RB{i j pos}:PE X (.Constant (.int i) j pos) (tC (.int i)):=fun _ _ _ H _ I h=>wpAny_Constant_int ⟨.int i,H,I.tok _,⟨_,rfl⟩,h⟩
theorem bM{b j pos}:PE X (.Constant (.bool b) j pos) (tC (.bl b)):=fun _ _ _ H _ I h=>Constant_bool ⟨.bl b,H,I,rfl,h⟩
theorem YK{j pos}:PE X (.Constant .none j pos) (tC .non):=fun _ _ _ H _ I h=>Constant_none ⟨.non,H,I,rfl,h⟩
noncomputable def Gl(X:Cx)(x:Str):Prop:=X.env.kindOf x=some .globalImplicit
theorem OJ{E:Value→c9→Prop}{pins:List (Addr×Obj)}{s:c9}{σ:St}{H:Hp}{x:Str}{u:Value}{pos:Pos}{Q:Value→c9→Prop}(I:Inv X pins σ H s)(hg:Gl X x)(hm:X.mg x=some u)(h:Q u s)
  (hd:(x==("__debug__" :Str))=false:=by decide):wpAny (model X.prog X.w) X.A (eval (.Name x pos) X.env) Q E s:=
 Calls.Name_function_global I.ok.kind hg (Calls.loadGlobal_global (by rw[I.ok.glob];exact I.mod.glob.keeps I.bk) hm h) hd
theorem DQ{E:Value→c9→Prop}{pins:List (Addr×Obj)}{s:c9}{σ:St}{H:Hp}{x:Str}{u:Value}{pos:Pos}{Q:Value→c9→Prop}(I:Inv X pins σ H s)(hg:Gl X x)(hm:X.mg x=none)(hv:ku x=some u)(h:Q u s)
  (hn:x≠"__name__":=by decide) (hd:(x==("__debug__" :Str))=false:=by decide):wpAny (model X.prog X.w) X.A (eval (.Name x pos) X.env) Q E s:=by
 obtain⟨mb,h1,h2⟩:=I.mod.blt
 exact Calls.Name_function_global I.ok.kind hg (Calls.loadGlobal_builtin (by rw[I.ok.glob];exact I.mod.glob.keeps I.bk) hm (by rw[I.ok.blt];exact h1.keeps I.bk) ((h2 x hn).trans hv) h) hd
theorem Uu{x:Str}{v:V}{u:Value}{pos:Pos}(hg:Gl X x)(hm:X.mg x=some u)(r:RelV v u)(hd:(x==("__debug__" :Str))=false:=by decide):PE X (.Name x pos) (tC v):=
 fun _ _ _ H _ I h=>OJ I hg hm ⟨v,H,I,r,h⟩ hd
theorem Uv{x:Str}{v:V}{u:Value}{pos:Pos}(hg:Gl X x)(hm:X.mg x=none)(hv:ku x=some u)(r:RelV v u)(hn:x≠"__name__":=by decide)(hd:(x==("__debug__" :Str))=false:=by decide):PE X (.Name x pos) (tC v):=
 fun _ _ _ H _ I h=>DQ I hg hm hv ⟨v,H,I,r,h⟩ hn hd
variable{a b:Expr}{ta tb:TE}{pos:Pos}
variable{tA tB':TT}{rest:List Expr}
noncomputable def fo(t u:TT):TT:=fun σ H Q=>t σ H fun c H1=>if c=true then u σ H1 Q else Q false H1
noncomputable def iX(t u:TT):TT:=fun σ H Q=>t σ H fun c H1=>if c=true then Q true H1 else u σ H1 Q
noncomputable def fq(t:TT):TT:=fun σ H Q=>t σ H fun c H1=>Q (!c) H1
theorem Uw(ha:PT X a tA):PW X (.BoolOp .And [a] pos) tA:=by
 intro wh pins s σ H Q I h
 refine isTrue_and (Az (ha pins s σ H Q I h) fun c s1 e=>?_)
 cases c with
 |true=>exact isTrue_and_nil e
 |false=>exact e
theorem YL(ha:PT X a tA):PW X (.BoolOp .Or [a] pos) tA:=by
 intro wh pins s σ H Q I h
 refine isTrue_or (Az (ha pins s σ H Q I h) fun c s1 e=>?_)
 cases c with
 |false=>exact isTrue_or_nil e
 |true=>exact e
theorem YM(ha:PT X a tA)(hb:PW X (.BoolOp .And (b::rest) pos) tB'):PW X (.BoolOp .And (a::b::rest) pos) (fo tA tB'):=by
 intro wh pins s σ H Q I h
 refine isTrue_and (Az (ha pins s σ H _ I h) fun c s1 ⟨H1,I1,q1⟩=>?_)
 cases c with
 |true=>exact hb wh pins s1 σ H1 Q I1 q1
 |false=>exact⟨H1,I1,q1⟩
theorem bN(ha:PT X a tA)(hb:PW X (.BoolOp .Or (b::rest) pos) tB'):PW X (.BoolOp .Or (a::b::rest) pos) (iX tA tB'):=by
 intro wh pins s σ H Q I h
 refine isTrue_or (Az (ha pins s σ H _ I h) fun c s1 ⟨H1,I1,q1⟩=>?_)
 cases c with
 |true=>exact⟨H1,I1,q1⟩
 |false=>exact hb wh pins s1 σ H1 Q I1 q1
theorem YN(ha:PT X a tA):PT X (.UnaryOp .Not a pos) (fq tA):=by
 intro pins s σ H Q I h
 exact isTrue_not (ha pins s σ H (fun c H1=>Q (!c) H1) I h)
noncomputable def bO(ta tb:TE):TE:=fun σ H Q=>ta σ H fun x H1=>∃c,x=.bl c∧if c=true then tb σ H1 Q else Q (.bl false) H1
noncomputable def bP(ta:TE):TE:=fun σ H Q=>ta σ H fun x H1=>∃c,x=.bl c∧Q (.bl (!c)) H1
theorem YO{op}{t:TE}(h:PE X a t):PE X (.BoolOp op [a] pos) t:=fun pins s σ H Q I hw=>BoolOp_one (h pins s σ H Q I hw)
theorem YQ(ha:PE X a ta)(hb:PE X (.BoolOp .And (b::rest) pos) tb):PE X (.BoolOp .And (a::b::rest) pos) (bO ta tb):=by
 intro pins s σ H Q I h
 refine BoolOp_and (Az (ha pins s σ H _ I h) fun v s1 ⟨x,H1,I1,r1,q1⟩=>?_)
 obtain⟨c,rfl,q1⟩:=q1
 cases r1
 refine mB ?_
 cases c with
 |true=>exact hb pins s1 σ H1 Q I1 q1
 |false=>exact⟨.bl false,H1,I1,rfl,q1⟩
theorem YR(ha:PE X a ta):PE X (.UnaryOp .Not a pos) (bP ta):=by
 intro pins s σ H Q I h
 refine UnaryOp_ (Az (ha pins s σ H _ I h) fun v s1 ⟨x,H1,I1,r1,q1⟩=>?_)
 obtain⟨c,rfl,q1⟩:=q1
 cases r1
 exact not_of (mB ⟨.bl (!c),H1,I1,rfl,q1⟩)
noncomputable def iY(t:TT)(ta tb:TE):TE:=fun σ H Q=>t σ H fun c H1=>if c=true then ta σ H1 Q else tb σ H1 Q
theorem RC{c:Expr}(hc:PT X c tA)(ha:PE X a ta)(hb:PE X b tb):PE X (.IfExp c a b pos) (iY tA ta tb):=by
 intro pins s σ H Q I h
 refine wpAny_IfExp (Az (hc pins s σ H _ I h) fun d s1 ⟨H1,I1,q1⟩=>?_)
 cases d with
 |true=>exact ha pins s1 σ H1 Q I1 q1
 |false=>exact hb pins s1 σ H1 Q I1 q1
end
noncomputable def CM(K:b9)(H:Hp)(a:Addr)(xs:List V):Prop:=
 Rd H a (.lst xs)∨
  ∃(o:Obj) (its:Array Value) (n:Nat),K.lookup a=some o∧o.cls=.type "list"∧o.dict=none∧o.data=.seq its n∧its.size≤sizeLine∧Vals xs its.toList
noncomputable def DN(K:b9)(H:Hp)(a:Addr)(xs:List V):Prop:=
 Rd H a (.tup xs)∨
  ∃(o:Obj) (its:Array Value) (n:Nat),K.lookup a=some o∧o.cls=.type "tuple"∧o.data=.seq its n∧its.size≤sizeLine∧Vals xs its.toList
noncomputable def fu:Value→Option V
 | .none=>some .non
 | .bool b=>some (.bl b)
 | .int i _=>some (.int i)
 | .str x _=>some (.str x)
 | .bytes b _=>some (.byt b)
 | .float b _=>some (.flt b)
 | .ref a=>some (.ref a)
 | .type n=>some (.ty n)
 |_=>none
theorem RelV.abs{x:V}{u:Value}(r:RelV x u):fu u=some x:=by
 cases x with
 |non=>cases r;rfl
 |bl _=>cases r;rfl
 |int _=>obtain⟨t,rfl⟩:=r;rfl
 |str _=>obtain⟨t,rfl⟩:=r;rfl
 |byt _=>obtain⟨t,rfl⟩:=r;rfl
 |flt _=>obtain⟨t,rfl⟩:=r;rfl
 |ref _=>cases r;rfl
 |ty _=>cases r;rfl
theorem RelV.inj{x y:V}{u:Value}(r:RelV x u)(q:RelV y u):x=y:=ki.inj (r.abs.symm.trans q.abs)
theorem Vals.inj:∀{xs ys:List V} {us:List Value},Vals xs us→Vals ys us→xs=ys
 |_,_,_,.nil,.nil=>rfl
 |_,_,_,.cons r t,.cons r' t'=>by rw[r.inj r',Vals.inj t t']
section
variable{X:Cx}{pins:List (Addr×Obj)}{σ:St}{H:Hp}{s:c9}{a:Addr}{xs ys:List V}
theorem Inv.list(I:Inv X pins σ H s)(h:CM X.K H a xs):∃its:List Value,Vals xs its∧PlainL s.heap a its.toArray∧xs.length≤sizeLine:=by
 rcases h with h| ⟨o,its,n,hk,hc,hd,hs,hz,r⟩
 ·obtain⟨z,its,n,r,e⟩:=h.ok I.hok
  exact⟨its,r,⟨_,n,e,rfl,rfl,rfl⟩,z⟩
 ·refine⟨its.toList,r,⟨o,n,I.kIn a o hk,hc,hd,by simpa using hs⟩,?_⟩
  have e:=r.length
  simp only[jg] at e
  omega
theorem Inv.tuple(I:Inv X pins σ H s)(h:DN X.K H a xs):∃its:List Value,Vals xs its∧IsTup s.heap a its.toArray∧xs.length≤sizeLine:=by
 rcases h with h| ⟨o,its,n,hk,hc,hs,hz,r⟩
 ·obtain⟨z,its,r,p⟩:=h.ok I.hok
  exact⟨its,r,p,z⟩
 ·refine⟨its.toList,r,⟨o,I.kIn a o hk,hc,n,by simpa using hs⟩,?_⟩
  have e:=r.length
  simp only[jg] at e
  omega
theorem Inv.list_inj(I:Inv X pins σ H s)(h:CM X.K H a xs)(h':CM X.K H a ys):xs=ys:=by
 obtain⟨its,r,⟨o,n,e,_,_,d⟩,_⟩:=I.list h
 obtain⟨its',r',⟨o',n',e',_,_,d'⟩,_⟩:=I.list h'
 rw[e] at e';cases e'
 rw[d] at d'
 injection d' with d1 _
 have:its=its':=by simpa using congrArg Array.toList d1
 subst this
 exact r.inj r'
theorem Inv.tuple_inj(I:Inv X pins σ H s)(h:DN X.K H a xs)(h':DN X.K H a ys):xs=ys:=by
 obtain⟨its,r,⟨o,e,_,n,d⟩,_⟩:=I.tuple h
 obtain⟨its',r',⟨o',e',_,n',d'⟩,_⟩:=I.tuple h'
 rw[e] at e';cases e'
 rw[d] at d'
 injection d' with d1 _
 have:its=its':=by simpa using congrArg Array.toList d1
 subst this
 exact r.inj r'
end
section
variable{X:Cx}{pins:List (Addr×Obj)}{σ:St}{H:Hp}{s:c9}{E:Value→c9→Prop}
end
section
variable{X:Cx}{st:Stmt}{rest:List Stmt}{t u:TS}{e:Expr}{te:TE}{pos:Pos}
noncomputable def bQ:TS:=fun D σ H=>D.nx σ H
noncomputable def fv(t u:TS):TS:=fun D σ H=>t {D with nx:=u D} σ H
theorem OK:PSs X [] bQ:=fun _ _ σ H _ I h=>qj ⟨σ,H,I,h⟩
theorem Kx(h1:PS X st t)(h2:PSs X rest u):PSs X (st::rest) (fv t u):=by
 intro pins s σ H D I h
 refine wpAny_execs_cons (Az (h1 pins s σ H {D with nx:=u D} I h) fun f s1 q=>?_)
 cases f with
 |next=>
  obtain⟨σ',H',I',q⟩:=q
  exact h2 pins s1 σ' H' D I' q
 |ret v=>exact q
 |brk=>exact q
 |cont=>exact q
theorem JS(h1:PS X st t):PSs X [st] t:=by
 intro pins s σ H D I h
 refine wpAny_execs_cons (Az (h1 pins s σ H D I h) fun f s1 q=>?_)
 cases f with
 |next=>exact qj q
 |ret v=>exact q
 |brk=>exact q
 |cont=>exact q
theorem Inv.quiet{pins:List (Addr×Obj)}{σ:St}{H:Hp}{s:c9}(I:Inv X pins σ H s):interactive X.env=false:=by simp[interactive,I.ok.kind]
noncomputable def bR(te:TE):TS:=fun D σ H=>te σ H fun _ H1=>D.nx σ H1
theorem Ux(he:PE X e te)(hs:qx e none pos.line X.env=pure false:=by rfl):PS X (.Expr e pos) (bR te):=by
 intro pins s σ H D I h
 exact wpAny_Expr_any (Az (he pins s σ H _ I h) fun v s1 ⟨x,H1,I1,r1,q1⟩=> ⟨σ,H1,I1,q1⟩) I.quiet hs
noncomputable def fz(te:TE):TS:=fun D σ H=>te σ H D.rt
theorem Mk(he:PE X e te):PS X (.Return (some e) pos) (fz te):=by
 intro pins s σ H D I h
 exact wpAny_Return_some (Az (he pins s σ H _ I h) fun v s1 ⟨x,H1,I1,r1,q1⟩=> ⟨x,σ,H1,I1,r1,q1⟩)
noncomputable def gB(c:TT)(t u:TS):TS:=fun D σ H=>c σ H fun b H1=>if b=true then t D σ H1 else u D σ H1
theorem XO{c:Expr}{a b:List Stmt}{tc:TT}(hc:PT X c tc)(ha:PSs X a t)(hb:PSs X b u):PS X (.If c a b pos) (gB tc t u):=by
 intro pins s σ H D I h
 refine wpAny_If (Az (hc pins s σ H _ I h) fun d s1 ⟨H1,I1,q1⟩=>?_)
 cases d with
 |true=>exact ha pins s1 σ H1 D I1 q1
 |false=>exact hb pins s1 σ H1 D I1 q1
end
noncomputable abbrev TG:=V→St→Hp→(St→Hp→Prop)→Prop
noncomputable abbrev Uy:=List V→St→Hp→(St→Hp→Prop)→Prop
noncomputable def PG(X:Cx)(target:Expr)(t:TG):Prop:=
 ∀(pins:List (Addr×Obj)) (s:c9) (σ:St) (H:Hp) (v:V) (u:Value) (Q:St→Hp→Prop),Inv X pins σ H s→RelV v u→t v σ H Q→
  wpAny (model X.prog X.w) X.A (assign target X.env u) (fun _ s'=>∃σ' H',Inv X pins σ' H' s'∧Q σ' H') X.xe s
noncomputable def bS(X:Cx)(ts:List Expr)(t:Uy):Prop:=
 ∀(pins:List (Addr×Obj)) (s:c9) (σ:St) (H:Hp) (vs:List V) (us:List Value) (Q:St→Hp→Prop),Inv X pins σ H s→Vals vs us→t vs σ H Q→
  wpAny (model X.prog X.w) X.A (assignInOrder ((kz ts X.env).map (·.2)) us) (fun _ s'=>∃σ' H',Inv X pins σ' H' s'∧Q σ' H') X.xe s
noncomputable abbrev YS:=V→V→V→Hp→(Hp→Prop)→Prop
noncomputable def bT(X:Cx)(t:YS):Prop:=
 ∀(pins:List (Addr×Obj)) (s:c9) (σ:St) (H:Hp) (o i v:V) (ov iv u:Value) (Q:Hp→Prop),Inv X pins σ H s→RelV o ov→RelV i iv→RelV v u→t o i v H Q→
  wpAny (model X.prog X.w) X.A (setItem ov iv u) (fun _ s'=>∃H',Inv X pins σ H' s'∧Q H') X.xe s
noncomputable abbrev bU:=V→V→Hp→VK→Prop
noncomputable def gC(X:Cx)(op:r8)(t:bU):Prop:=
 ∀(pins:List (Addr×Obj)) (s:c9) (σ:St) (H:Hp) (x y:V) (v u:Value) (Q:VK),Inv X pins σ H s→RelV x v→RelV y u→t x y H Q→
  wpAny (model X.prog X.w) X.A (inplaceOp op v u) (EP X pins σ Q) X.xe s
section
variable{X:Cx}{pos:Pos}
noncomputable def XQ(i:Nat):TG:=fun v σ H Q=>Q (σ.set i (some v)) H
theorem Bw{i:Nat}{x:Str}(hN:X.N.Nodup)(hi:X.N[i]?=some x)(hx:Mi X.env.scope x)(hf:X.fn x=true∨X.env.scope.names.lookup x=some .local:=by first|exact .inl rfl|exact .inr rfl|assumption):PG X (.Name x pos) (XQ i):=by
 intro pins s σ H v u Q I r h
 exact wpAny_assign_Name (DP I hN hi hx r (fun s' I'=> ⟨_,H,I',h⟩) hf)
noncomputable def gD:Uy:=fun vs σ H Q=>vs=[]∧Q σ H
noncomputable def bV(t:TG)(u:Uy):Uy:=fun vs σ H Q=>∃v r,vs=v::r∧t v σ H fun σ' H'=>u r σ' H' Q
theorem JT:bS X [] gD:=by
 intro pins s σ H vs us Q I r h
 obtain⟨e,h⟩:=h
 subst e
 cases r
 exact assignInOrder_nil ⟨σ,H,I,h⟩
theorem Bn{e:Expr}{es:List Expr}{t:TG}{u:Uy}(h1:PG X e t)(h2:bS X es u)
  (hs:(kz (e::es) X.env).map (·.2)=assign e X.env::(kz es X.env).map (·.2):=by rfl):bS X (e::es) (bV t u):=by
 intro pins s σ H vs us Q I r h
 obtain⟨v,vr,e1,h⟩:=h
 subst e1
 cases r with
 |cons r rr=>
  rw[hs]
  refine qE (Az (h1 pins s σ H _ _ _ I r h) fun _ s1 ⟨σ1,H1,I1,q1⟩=>?_)
  exact h2 pins s1 σ1 H1 _ _ Q I1 rr q1
noncomputable def gE(K:b9)(n:Nat)(t:Uy):TG:=fun v σ H Q=>∃a xs,v=.ref a∧DN K H a xs∧xs.length=n∧t xs σ H Q
theorem RD{es:List Expr}{k:Nat}{t:Uy}{n:Nat}(hc:X.calm=true)(h:bS X es t)
  (hn:(kz es X.env).length=n:=by rfl) (hst:(kz es X.env).findIdx? (·.1)=none:=by rfl):PG X (.Tuple es k pos) (gE X.K n t):=by
 intro pins s σ H v u Q I r hw
 obtain⟨a,xs,e1,hq,hl,hw⟩:=hw
 subst e1
 cases r
 obtain⟨its,rv,ht,hz⟩:=I.tuple hq
 refine assign_Tuple_tuple (I.ok.hd hc) ht (by simp[hn,←hl,rv.length]) hst fun h' hx=>?_
 have I1:Inv X pins σ H {s with heap:=h'}:=I.kept (t':=s.toks) fun b o e=>hx b o (jY (je e)) e
 exact h pins _ σ H xs _ Q I1 (by simpa using rv) hw
noncomputable def gF(to ti:TE)(t:YS):TG:=fun v σ H Q=>to σ H fun o H1=>ti σ H1 fun i H2=>t o i v H2 fun H3=>Q σ H3
theorem YT{o i:Expr}{to ti:TE}{t:YS}(ho:PE X o to)(hi:PE X i ti)(hs:bT X t)
  (ha:∀v,assign (.Subscript o i pos) X.env v=(do
   let ov←holding [v] (eval o X.env)
   let iv←holding [v,ov] (eval i X.env)
   standAt pos
   holding [v,ov,iv] (setItem ov iv v)
   release [v,ov,iv] []):=by intro _;rfl):PG X (.Subscript o i pos) (gF to ti t):=by
 intro pins s σ H v u Q I r h
 rw[ha]
 refine b6 (kh (Az (ho pins s σ H _ I h) fun ov s1 ⟨x,H1,I1,r1,q1⟩=>?_))
 refine b6 (kh (Az (hi pins s1 σ H1 _ I1 q1) fun iv s2 ⟨y,H2,I2,r2,q2⟩=>?_))
 refine b6 (oi (b6 (kh (Az (hs pins s2 σ H2 x y v ov iv u _ I2 r1 r2 r q2) fun _ s3 ⟨H3,I3,q3⟩=>?_))))
 exact wpAny_release ⟨σ,H3,I3,q3⟩
noncomputable def bW(te:TE)(g:TG):TS:=fun D σ H=>te σ H fun x H1=>g x σ H1 D.nx
theorem RE{tg e:Expr}{te:TE}{g:TG}(he:PE X e te)(hg:PG X tg g)(hs:pY [tg] e pos.line X.env=pure false:=by rfl)(hw:pZ [tg] e X.env=pure none:=by rfl)
  (h1:(kz [tg] X.env).map (·.2)=[assign tg X.env]:=by rfl):PS X (.Assign [tg] e pos) (bW te g):=by
 intro pins s σ H D I h
 refine wpAny_Assign_stores (Az (he pins s σ H _ I h) fun v s1 ⟨x,H1,I1,r1,q1⟩=>?_) hs hw
 rw[h1]
 exact Az (hg pins s1 σ H1 x v _ I1 r1 q1) fun _ s2 q=>q
theorem YU{i:Nat}{x:Str}{e:Expr}{te:TE}{pos':Pos}(hN:X.N.Nodup)(hi:X.N[i]?=some x)(hx:Mi X.env.scope x)(he:PE X e te)(hs:qx e (some (.Name x pos')) pos.line X.env=pure false:=by rfl)(hf:X.fn x=true∨X.env.scope.names.lookup x=some .local:=by first|exact .inl rfl|exact .inr rfl|assumption):
  PS X (.Assign [.Name x pos'] e pos) (bW te (XQ i)):=by
 intro pins s σ H D I h
 refine wpAny_Assign_Name (Az (he pins s σ H _ I h) fun v s1 ⟨y,H1,I1,r1,q1⟩=>?_) hs
 exact DP I1 hN hi hx r1 (fun s2 I2=> ⟨_,H1,I2,q1⟩) hf
noncomputable def gG(i j:Nat)(ta:TA):TS:=fun D σ H=>ta σ H fun vs H1=>∃v w,vs=[v,w]∧D.nx ((σ.set i (some v)).set j (some w)) H1
theorem YV{i j:Nat}{x y:Str}{a b:Expr}{ta:TA}{px py pt:Pos}{kt k2 pt2}(hc:X.calm=true)(hN:X.N.Nodup)(hi:X.N[i]?=some x)(hj:X.N[j]?=some y)(hij:i≠j)
  (hx:X.env.scope.names.lookup x=some .local) (hy:X.env.scope.names.lookup y=some .local) (ha:PA X [a,b] ta)
  (hw:pZ [.Tuple [.Name x px,.Name y py] kt pt] (.Tuple [a,b] k2 pt2) X.env=pure (some [x,y]))
  (hs:pY [.Tuple [.Name x px,.Name y py] kt pt] (.Tuple [a,b] k2 pt2) pos.line X.env=pure false:=by rfl):
  PS X (.Assign [.Tuple [.Name x px,.Name y py] kt pt] (.Tuple [a,b] k2 pt2) pos) (gG i j ta):=by
 intro pins s σ H D I h
 rw[exec_Assign_arm]
 refine b6 (oi ?_)
 rw[hs]
 refine b6 (e6 ?_)
 rw[if_neg (by decide)]
 refine b6 (Tuple_ (Az (ha _ pins s σ H _ I h) fun us s1 ⟨vs,H1,I1,r1,q1⟩=>?_))
 obtain⟨v,w,e1,q1⟩:=q1
 subst e1
 obtain⟨u1,u2,rfl,rv,rw'⟩:∃u1 u2,us=[u1,u2]∧RelV v u1∧RelV w u2:=by
  cases r1 with
  |cons p q=>
   cases q with
   |cons p' q'=>
    cases q'
    exact⟨_,_,rfl,p,p'⟩
 refine lh ?_ (by show 2≤sizeLine;decide)
 have I2:Inv X pins σ H1 {s1 with heap:=s1.heap.push {cls:=.type "tuple",data:=.seq [u1,u2].toArray}}:=I1.kept (t':=s1.toks) fun b o e=>e8 _ e
 rw[hw]
 refine b6 (e6 ?_)
 show wpAny (model X.prog X.w) X.A (do rule "assign.swapped-stores";let items←unpackItems (.ref s1.heap.objs.size) 2 none;assignInOrder [fun v=>bindName X.env y v,fun v=>bindName X.env x v] items.reverse;pure Flow.next) _ _ _
 refine b6 (mT (b6 (unpackItems_tuple (items:=#[u1,u2]) (I.ok.hd hc) (IsTup.new s1.heap _) fun h' hx'=>?_)))
 have I3:=I2.kept (h':=h') (t':=s1.toks) fun b o e=>hx' b o (jY (je e)) e
 show wpAny _ _ (assignInOrder [fun v=>bindName X.env y v,fun v=>bindName X.env x v] [u2,u1]>>=fun _=>pure Flow.next) _ _ _
 refine b6 (qE (wpAny_bindName (DP I3 hN hj (.inl hy) rw' (fun s2 I4=>?_) (.inr hy))))
 refine qE (wpAny_bindName (DP I4 hN hi (.inl hx) rv (fun s3 I5=>assignInOrder_nil (e6 ?_)) (.inr hx)))
 rw[List.set_comm _ _ (Ne.symm hij)] at I5
 exact⟨_,H1,I5,q1⟩
noncomputable def gH(i:Nat)(te:TE)(ti:bU):TS:=fun D σ H=>∃x,σ[i]?=some (some x)∧te σ H fun y H1=>ti x y H1 fun z H2=>D.nx (σ.set i (some z)) H2
theorem YW{i:Nat}{x:Str}{e:Expr}{te:TE}{op:r8}{ti:bU}{pos':Pos}(hN:X.N.Nodup)(hi:X.N[i]?=some x)(hx:Mi X.env.scope x)(he:PE X e te)(ho:gC X op ti)(hf:X.fn x=true∨X.env.scope.names.lookup x=some .local:=by first|exact .inl rfl|exact .inr rfl|assumption):
  PS X (.AugAssign (.Name x pos') op e pos) (gH i te ti):=by
 intro pins s σ H D I h
 obtain⟨v,e1,h⟩:=h
 obtain⟨m,hn,hl⟩:=I.loc
 have vis:bI X.env.scope x:=by rcases hx with k|k;exact .inl k;exact .inr (.inl k)
 obtain⟨u,r,l⟩:=hl i x v hi e1 vis
 refine wpAny_AugAssign_Name ?_
 have go:wpAny (model X.prog X.w) X.A (eval e X.env) (fun w s₂=>wpAny (model X.prog X.w) X.A (inplaceOp op u w) (fun r s₃=>wpAny (model X.prog X.w) X.A (storeName X.env x r) (fun _=>SP X pins D .next) X.xe s₃) X.xe s₂) X.xe s:=by
  refine Az (he pins s σ H _ I h) fun w s1 ⟨y,H1,I1,r1,q1⟩=>?_
  refine Az (ho pins s1 σ H1 v y u w _ I1 r r1 q1) fun z s2 ⟨zv,H2,I2,r2,q2⟩=>?_
  exact DP I2 hN hi hx r2 (fun s3 I3=> ⟨_,H2,I3,q2⟩) hf
 rcases l with⟨hk,hm⟩| ⟨hk,c,hc,hcell⟩
 ·exact wpAny_loadName_local I.ok.kind hk hn hm go
 ·rcases hk with hk|hk
  ·exact wpAny_loadName_cell I.ok.kind hk hc hcell go
  ·rcases hx with k|k
   ·have:X.env.scope.names.lookup x=some .free:=hk
    rw[k] at this;cases this
   ·have:X.env.scope.names.lookup x=some .free:=hk
    rw[k] at this;cases this
noncomputable def iZ(f:Int→Int→Int):bU:=fun x y H Q=>∃i j,x=.int i∧y=.int j∧Q (.int (f i j)) H
theorem YX:gC X .Add (iZ fun i j=>i+j):=by
 intro pins s σ H x y v u Q I r1 r2 h
 obtain⟨i,j,e1,e2,q⟩:=h
 subst e1;subst e2
 obtain⟨t,rfl⟩:=r1
 obtain⟨t',rfl⟩:=r2
 exact iadd_int ⟨.int _,H,I.tok _,⟨_,rfl⟩,q⟩
end
section
variable{X:Cx}{pos:Pos}
noncomputable def YY(c:TT)(tb:TS):TS:=fun D σ H=>∃W:Nat→St→Hp→Prop,(∃m,W m σ H)∧∀m σ H,W m σ H→
 c σ H fun b H1=>if b=true then∃N:St→Hp→Prop,(∀σ' H',N σ' H'→∃m',m'<m∧W m' σ' H')∧tb {D with nx:=N,ct:=N,bk:=D.nx} σ H1 else D.nx σ H1
theorem RF{c:Expr}{body:List Stmt}{tc:TT}{tb:TS}(hp:qz (model X.prog X.w) X.A X.env X.xe)(hc:PT X c tc)(hb:PSs X body tb):PS X (.While c body [] pos) (YY tc tb):=by
 intro pins s σ H D I h
 obtain⟨W,⟨m0,w0⟩,turn⟩:=h
 refine wpAny_While (codeAny_whileLoop (fun n s'=>∃σ' H',Inv X pins σ' H' s'∧W n σ' H') ?_ m0 ⟨σ,H,I,w0⟩)
 rintro n s1 ⟨σ1,H1,I1,w1⟩
 refine ny hp (Az (hc pins s1 σ1 H1 _ I1 (turn n σ1 H1 w1)) fun b s2 ⟨H2,I2,q2⟩=>?_)
 cases b with
 |true=>
  obtain⟨N,hN,q2⟩:=q2
  rw[if_pos rfl]
  refine ny hp (Az (hb pins s2 σ1 H2 _ I2 q2) fun f s3 q3=>?_)
  cases f with
  |next=>
   obtain⟨σ3,H3,I3,n3⟩:=q3
   obtain⟨m',hm,w3⟩:=hN σ3 H3 n3
   exact⟨m',hm,σ3,H3,I3,w3⟩
  |cont=>
   obtain⟨σ3,H3,I3,n3⟩:=q3
   obtain⟨m',hm,w3⟩:=hN σ3 H3 n3
   exact⟨m',hm,σ3,H3,I3,w3⟩
  |brk=>exact q3
  |ret v=>exact q3
 |false=>
  rw[if_neg i5]
  exact qj ⟨σ1,H2,I2,q2⟩
end
structure It where
 go:Nat→Hp→Prop
 yld:Nat→Hp→V→Hp→Prop
 stop:Nat→Hp→Prop
noncomputable def Gy(X:Cx)(pins:List (Addr×Obj))(H:Hp)(b:Addr):Prop:=
 H b=none∧b≠X.env.locals∧b∉X.fs∧(b∈X.ex∨X.s₀.heap.objs.size≤b)∧(∀x c,X.env.cells.lookup x=some c→c≠b)∧∀p∈X.pn++pins,p.1≠b
theorem Inv.fpOk{X:Cx}{pins:List (Addr×Obj)}{σ:St}{H H':Hp}{s:c9}{b:Addr}(I:Inv X pins σ H s)(hb:s.heap.objs.size≤b)(hn:H' b=none):Gy X pins H' b:=by
 refine⟨hn,oJ (jy I.lt hb),I.nofs hb,.inr (kG I.sz hb),fun x c e z=>?_,fun p hp z=>?_⟩
 ·obtain⟨v,q⟩:=I.cell x c e
  exact absurd (jy q.lt (by rw[z];exact hb)) (k8 _)
 ·exact absurd (jy (je (I.pin p hp).1) (by rw[z];exact hb)) (k8 _)
structure Turn(P:Program)(w:World)(K:b9)(tg:Expr)(J:It)(fp:List Addr)(it:Addr)(tn:Nat→Heap→Prop):Prop where
 mem:it∈fp
 obj:∀i h,tn i h→∀b∈fp,∃o,h.get? b=some o∧∀v,o.data≠.cell v
 keep:∀i h h',tn i h→(∀b∈fp,∀o,h.get? b=some o→h'.get? b=some o)→tn i h'
 item:∀(X:Cx),X.prog=P→X.w=w→X.K=K→X.calm=true→∀(i:Nat) (pins:List (Addr×Obj)) (s:c9) (σ:St) (H:Hp) (E:Value→c9→Prop),Inv X pins σ H s→(∀b∈fp,Gy X pins H b)→tn i s.heap→J.go i H→
  wpAny (model P w) X.A (oz (.ref it)) (fun r s1=>∃u,r=some u∧
   wpAny (model P w) X.A (qk tg (.ref it) u) (fun _ s2=>∃x H',Inv X pins σ H' s2∧RelV x u∧J.yld i H x H'∧tn (i+1) s2.heap∧∀b∈fp,H' b=none) E s1) E s
 done:∀(X:Cx),X.prog=P→X.w=w→X.K=K→X.calm=true→∀(i:Nat) (pins:List (Addr×Obj)) (s:c9) (σ:St) (H:Hp) (E:Value→c9→Prop),Inv X pins σ H s→(∀b∈fp,Gy X pins H b)→tn i s.heap→J.stop i H→
  wpAny (model P w) X.A (oz (.ref it)) (fun r s1=>r=none∧Inv X pins σ H s1) E s
 self:∀(A:js) (i:Nat) (s:c9) (Q:Value→c9→Prop) (E:Value→c9→Prop),tn i s.heap→Q (.ref it) s→wpAny (model P w) A (sJ (.ref it)) Q E s
noncomputable abbrev TI:=St→Hp→(It→Hp→Prop)→Prop
noncomputable def iI(X:Cx)(pins:List (Addr×Obj))(σ:St)(tg:Expr)(R:It→Hp→Prop)(itv:Value)(s2:c9):Prop:=
 ∃(it:Addr) (fp:List Addr) (tn:Nat→Heap→Prop) (J:It) (H':Hp),itv=.ref it∧Inv X pins σ H' s2∧Turn X.prog X.w X.K tg J fp it tn∧tn 0 s2.heap∧(∀b∈fp,Gy X pins H' b)∧R J H'
noncomputable def PI(X:Cx)(tg iter:Expr)(wi:TI):Prop:=
 ∀(pins:List (Addr×Obj)) (s:c9) (σ:St) (H:Hp) (R:It→Hp→Prop),Inv X pins σ H s→wi σ H R→
  wpAny (model X.prog X.w) X.A (eval iter X.env) (fun v s1=>wpAny (model X.prog X.w) X.A (sJ v) (iI X pins σ tg R) X.xe s1) X.xe s
theorem RG{M:Model}{A:js}{E:Value→c9→Prop}{s:c9}{tg:Expr}{it:Addr}{u:Value}{o:Obj}{n:String}{vs:Array Value}{Q:Unit→c9→Prop}(ho:s.heap.get? it=some o)(hc:o.cls=.type n)(hd:o.data=.fields vs)
    (hn:["enumerate","zip","dict_itemiterator","dict_reverseitemiterator","odict_iterator","itertools.zip_longest","itertools.pairwise"].contains n=false) (hQ:Q () s):wpAny M A (qk tg (.ref it) u) Q E s:=by
  unfold qk
  cases tg<;>first
    |exact e6 hQ
    | (cases u<;>first
        |exact e6 hQ
        | (refine b6 (wpAny_load ho ?_)
           rw[hc,hd]
           show wpAny M A (if(["enumerate","zip","dict_itemiterator","dict_reverseitemiterator","odict_iterator","itertools.zip_longest","itertools.pairwise"].contains n&&vs[0]?==some (pG _))=true then _ else _) Q E s
           rw[if_neg (by intro h;rw[hn,Bool.false_and] at h;cases h)]
           exact e6 hQ))
noncomputable def gI(K:b9)(a:Addr):It:=
 ⟨fun i H=>∃xs x,CM K H a xs∧xs[i]?=some x,fun i H x H'=>H'=H∧∀xs,CM K H a xs→xs[i]?=some x,fun i H=>∃xs,CM K H a xs∧xs.length≤i⟩
noncomputable def gJ(K:b9)(a:Addr):It:=
 ⟨fun i H=>∃xs x,DN K H a xs∧xs[i]?=some x,fun i H x H'=>H'=H∧∀xs,DN K H a xs→xs[i]?=some x,fun i H=>∃xs,DN K H a xs∧xs.length≤i⟩
noncomputable def bX(lo:Int)(n:Nat):It:=⟨fun i _=>i<n,fun i H x H'=>H'=H∧x=.int (lo+i),fun i _=>n≤i⟩
theorem Pu{P:Program}{w:World}{K:b9}{tg:Expr}(a it:Addr):Turn P w K tg (gI K a) [it] it (fun i h=>h.IsListIter it a i) where
 mem:=by simp
 obj:=fun i h st b hb=>by
  have e:b=it:=by simpa using hb
  subst e
  obtain⟨o,e,c,d⟩:=st
  exact⟨o,e,fun v z=>by rw[d] at z;cases z⟩
 keep:=fun i h h' st k=>st.at fun o e=>k it (by simp) o e
 item:=by
  intro X hP hw hK hc i pins s σ H E I hf st hg
  subst hP hw hK
  obtain⟨xs,x,hq,hx⟩:=hg
  obtain⟨its,rv,p,hz⟩:=I.list hq
  obtain⟨u,hu,ru⟩:=rv.get hx
  obtain⟨f0,f1,f2,f3,f4,f5⟩:=hf it (by simp)
  refine nX st p.isList (x:=u) (by simpa using hu) fun h' st' sb=>?_
  have I1:Inv X pins σ H {s with heap:=h'}:=I.turned (t':=s.toks) (fun b o hb e=> (sb.2 b hb).trans e) f0 f1 f3 f4 f5
  obtain⟨o,e,c,d⟩:=id st'
  exact⟨u,rfl,RG (s:={s with heap:=h'}) e c d (by decide) ⟨x,H,I1,ru,⟨rfl,fun ys hy=>by rw[I.list_inj hy hq];exact hx⟩,st',fun b hb=> (hf b hb).1⟩⟩
 done:=by
  intro X hP hw hK hc i pins s σ H E I hf st hg
  subst hP hw hK
  obtain⟨xs,hq,hx⟩:=hg
  obtain⟨its,rv,p,hz⟩:=I.list hq
  obtain⟨f0,f1,f2,f3,f4,f5⟩:=hf it (by simp)
  have hl:=rv.length
  exact pS (I.ok.hd hc) st p.isList (by simp;omega) fun h' eb=> ⟨rfl,I.turned (t':=s.toks) (fun b o hb e=>eb b o hb e) f0 f1 f3 f4 f5⟩
 self:=fun _ _ _ _ _ st h=>wpAny_pyIter_listiter st h
theorem Ml{P:Program}{w:World}{K:b9}{tg:Expr}(a it:Addr):Turn P w K tg (gJ K a) [it] it (fun i h=>h.IsTupleIter it a i) where
 mem:=by simp
 obj:=fun i h st b hb=>by
  have e:b=it:=by simpa using hb
  subst e
  obtain⟨o,e,c,d⟩:=st
  exact⟨o,e,fun v z=>by rw[d] at z;cases z⟩
 keep:=fun i h h' st k=>st.at fun o e=>k it (by simp) o e
 item:=by
  intro X hP hw hK hc i pins s σ H E I hf st hg
  subst hP hw hK
  obtain⟨xs,x,hq,hx⟩:=hg
  obtain⟨its,rv,p,hz⟩:=I.tuple hq
  obtain⟨u,hu,ru⟩:=rv.get hx
  obtain⟨f0,f1,f2,f3,f4,f5⟩:=hf it (by simp)
  refine wpAny_pyNext_tuple_item st (show s.heap.IsTuple a its.toArray from p) (x:=u) (by simpa using hu) fun h' st' sb=>?_
  have I1:Inv X pins σ H {s with heap:=h'}:=I.turned (t':=s.toks) (fun b o hb e=> (sb.2 b hb).trans e) f0 f1 f3 f4 f5
  obtain⟨o,e,c,d⟩:=id st'
  exact⟨u,rfl,RG (s:={s with heap:=h'}) e c d (by decide) ⟨x,H,I1,ru,⟨rfl,fun ys hy=>by rw[I.tuple_inj hy hq];exact hx⟩,st',fun b hb=> (hf b hb).1⟩⟩
 done:=by
  intro X hP hw hK hc i pins s σ H E I hf st hg
  subst hP hw hK
  obtain⟨xs,hq,hx⟩:=hg
  obtain⟨its,rv,p,hz⟩:=I.tuple hq
  obtain⟨f0,f1,f2,f3,f4,f5⟩:=hf it (by simp)
  have hl:=rv.length
  exact wpAny_pyNext_tuple_end (I.ok.hd hc) st (show s.heap.IsTuple a its.toArray from p) (by simp;omega) fun h' eb=> ⟨rfl,I.turned (t':=s.toks) (fun b o hb e=>eb b o hb e) f0 f1 f3 f4 f5⟩
 self:=fun _ _ _ _ _ st h=>wpAny_pyIter_tupleiter st h
theorem Mm{P:Program}{w:World}{K:b9}{tg:Expr}(it:Addr)(lo:Int)(n:Nat):Turn P w K tg (bX lo n) [it] it (fun i h=>IsRangeIter h it (lo+(i:Nat)*1) ((n:Int)- (i:Nat)) 1) where
 mem:=by simp
 obj:=fun i h st b hb=>by
  have e:b=it:=by simpa using hb
  subst e
  exact⟨_,st,fun v z=>by
   have z':tI _=qA v:=z
   cases z'⟩
 keep:=fun i h h' st k=>k it (by simp) _ st
 item:=by
  intro X hP hw hK hc i pins s σ H E I hf st hg
  subst hP hw hK
  obtain⟨f0,f1,f2,f3,f4,f5⟩:=hf it (by simp)
  have W:=Walks.range (prog:=X.prog) (w:=X.w) (I.ok.hd hc) it lo 1 n
  refine W.item i s _ _ hg st fun v h' tk hv st' kk=>?_
  obtain⟨t,rfl⟩:=hv
  have I1:Inv X pins σ H {s with heap:=h',toks:=tk}:=I.turned (fun b o hb e=>kk b o (by simpa using hb) e) f0 f1 f3 f4 f5
  refine⟨_,rfl,RG (s:={s with heap:=h',toks:=tk}) (n:="range_iterator") st' rfl rfl (by decide) ⟨.int (lo+i),H,I1,⟨t,?_⟩,⟨rfl,rfl⟩,st',fun b hb=> (hf b hb).1⟩⟩
  rw[Int.mul_one]
 done:=by
  intro X hP hw hK hc i pins s σ H E I hf st hg
  subst hP hw hK
  obtain⟨f0,f1,f2,f3,f4,f5⟩:=hf it (by simp)
  exact wpAny_pyNext_range_end (I.ok.hd hc) st (by have:n≤i:=hg;omega) fun h' eb=> ⟨rfl,I.turned (t':=s.toks) (fun b o hb e=>eb b o hb e) f0 f1 f3 f4 f5⟩
 self:=fun _ _ _ _ _ st h=>wpAny_pyIter_rangeiter st h
section
variable{X:Cx}{tg:Expr}
noncomputable def bY(K:b9)(tl:TE):TI:=fun σ H R=>tl σ H fun x H1=>∃a,x=.ref a∧(∃xs,CM K H1 a xs)∧R (gI K a) H1
noncomputable def gK(K:b9)(tl:TE):TI:=fun σ H R=>tl σ H fun x H1=>∃a,x=.ref a∧(∃xs,DN K H1 a xs)∧R (gJ K a) H1
theorem Uz{l:Expr}{tl:TE}(hl:PE X l tl):PI X tg l (bY X.K tl):=by
 intro pins s σ H R I h
 refine Az (hl pins s σ H _ I h) fun v s1 ⟨x,H1,I1,r1,q1⟩=>?_
 obtain⟨a,e,⟨xs,hq⟩,q⟩:=q1
 subst e
 cases r1
 obtain⟨its,rv,p,hz⟩:=I1.list hq
 refine nE p.isList ?_
 refine⟨s1.heap.objs.size,[s1.heap.objs.size],_,_,H1,rfl,I1.kept (t':=s1.toks) fun b o e=>e8 _ e,Pu a _,⟨_,jq _ rfl,rfl,rfl⟩,fun b hb=>?_,q⟩
 have e:b=s1.heap.objs.size:=by simpa using hb
 subst e
 exact I1.fpOk (jb _) (I1.hok.fresh (jb _))
theorem YZ{l:Expr}{tl:TE}(hl:PE X l tl):PI X tg l (gK X.K tl):=by
 intro pins s σ H R I h
 refine Az (hl pins s σ H _ I h) fun v s1 ⟨x,H1,I1,r1,q1⟩=>?_
 obtain⟨a,e,⟨xs,hq⟩,q⟩:=q1
 subst e
 cases r1
 obtain⟨its,rv,p,hz⟩:=I1.tuple hq
 refine oZ (show s1.heap.IsTuple a its.toArray from p) ?_
 refine⟨s1.heap.objs.size,[s1.heap.objs.size],_,_,H1,rfl,I1.kept (t':=s1.toks) fun b o e=>e8 _ e,Ml a _,⟨_,jq _ rfl,rfl,rfl⟩,fun b hb=>?_,q⟩
 have e:b=s1.heap.objs.size:=by simpa using hb
 subst e
 exact I1.fpOk (jb _) (I1.hok.fresh (jb _))
theorem Ky{pins:List (Addr×Obj)}{σ:St}{H:Hp}{s:c9}{R:It→Hp→Prop}{E:Value→c9→Prop}{lo hi:Int}{t u v:Tok}{tk:Nat}(I:Inv X pins σ H s)(h1: -(2^62)≤lo)(h2:lo<2^62)(h3: -(2^62)≤hi)(h4:hi<2^62)
  (q:R (bX lo (hi-lo).toNat) H):wpAny (model X.prog X.w) X.A (sJ (.ref s.heap.objs.size)) (iI X pins σ tg R) E {s with heap:=s.heap.push {cls:=.type "range",data:=.fields #[.int lo t,.int hi u,.int 1 v]},toks:=tk}:=by
 refine wpAny_pyIter_range (IsRange.new ..) (small_one h1 h2 h3 h4) ?_
 have I1:Inv X pins σ H {s with heap:=s.heap.push {cls:=.type "range",data:=.fields #[.int lo t,.int hi u,.int 1 v]},toks:=tk}:=I.kept fun b o e=>e8 _ e
 refine⟨(s.heap.push {cls:=.type "range",data:=.fields #[.int lo t,.int hi u,.int 1 v]}).objs.size,[(s.heap.push {cls:=.type "range",data:=.fields #[.int lo t,.int hi u,.int 1 v]}).objs.size],_,_,H,rfl,
  I1.kept (t':=tk) fun b o e=>e8 _ e,Mm _ lo (hi-lo).toNat,?_,fun b hb=>?_,q⟩
 ·have e1:lo+((0:Nat):Int)*1=lo:=by simp
  have e2:(((hi-lo).toNat:Nat):Int)- ((0:Nat):Int)=Builtin.Range.rangeSize lo hi 1:=by rw[rangeSize_one];split<;>omega
  show IsRangeIter _ _ (lo+((0:Nat):Int)*1) ((((hi-lo).toNat:Nat):Int)- ((0:Nat):Int)) 1
  rw[e1,e2]
  exact jq _ rfl
 ·have e:b=(s.heap.push {cls:=.type "range",data:=.fields #[.int lo t,.int hi u,.int 1 v]}).objs.size:=by simpa using hb
  subst e
  exact I1.fpOk (jb _) (I1.hok.fresh (jb _))
noncomputable def bZ(ta:TA):TI:=fun σ H R=>ta σ H fun vs H1=>∃j:Int,vs=[.int j]∧-(2^62)≤j∧j<2^62∧R (bX 0 j.toNat) H1
noncomputable def ba(ta:TA):TI:=fun σ H R=>ta σ H fun vs H1=>∃i j:Int,vs=[.int i,.int j]∧(-(2^62)≤i∧i<2^62∧-(2^62)≤j∧j<2^62)∧R (bX i (j-i).toNat) H1
theorem Pv{a:Expr}{ta:TA}{p pos:Pos}(hg:Gl X "range")(hm:X.mg "range" =none)(ha:PA X [a] ta)(hs:i7 [a] X.env=[(false,eval a X.env)]:=by rfl):PI X tg (.Call (.Name "range" p) [a] [] pos) (bZ ta):=by
 intro pins s σ H R I h
 refine Call_ (DQ I hg hm boot_range (my (Az (ha pos pins s σ H _ I h) fun us s1 ⟨vs,H1,I1,r1,q1⟩=>?_) hs rfl))
 obtain⟨j,e,q1,q2,q⟩:=q1
 subst e
 cases r1 with
 |cons r rr=>
  cases rr
  obtain⟨t,rfl⟩:=r
  exact call_range_1 (Ky I1 (by omega) (by omega) q1 q2 (by simpa using q))
theorem Pw{a b:Expr}{ta:TA}{p pos:Pos}(hg:Gl X "range")(hm:X.mg "range" =none)(ha:PA X [a,b] ta)(hs:i7 [a,b] X.env=[(false,eval a X.env),(false,eval b X.env)]:=by rfl)(hs2:i7 [b] X.env=[(false,eval b X.env)]:=by rfl):
  PI X tg (.Call (.Name "range" p) [a,b] [] pos) (ba ta):=by
 intro pins s σ H R I h
 refine Call_ (DQ I hg hm boot_range (my (Az (ha pos pins s σ H _ I h) fun us s1 ⟨vs,H1,I1,r1,q1⟩=>?_) (by rw[hs,hs2]) (by rw[hs2];rfl)))
 obtain⟨i,j,e,⟨q1,q2,q3,q4⟩,q⟩:=q1
 subst e
 cases r1 with
 |cons r rr=>
  cases rr with
  |cons r' rr=>
   cases rr
   obtain⟨t,rfl⟩:=r
   obtain⟨t',rfl⟩:=r'
   exact call_range_2 (Ky I1 q1 q2 q3 q4 q)
noncomputable def gL(wi:TI)(g:TG)(tb:TS):TS:=fun D σ H=>wi σ H fun J H1=>∃W:Nat→Nat→St→Hp→Prop,(∃m,W 0 m σ H1)∧∀i m σ H,W i m σ H→
 (J.stop i H∧D.nx σ H)∨(J.go i H∧∃N:St→Hp→Prop,(∀σ' H',N σ' H'→∃m',m'<m∧W (i+1) m' σ' H')∧∀x H',J.yld i H x H'→g x σ H' fun σ2 H2=>tb {D with nx:=N,ct:=N,bk:=D.nx} σ2 H2)
noncomputable def Gz(fp:List Addr)(h:Heap):List (Addr×Obj):=fp.filterMap fun b=> (h.get? b).map fun o=> (b,o)
theorem Cp{fp:List Addr}{h:Heap}{b:Addr}{o:Obj}(hb:b∈fp)(e:h.get? b=some o):(b,o)∈Gz fp h:=ml.mpr ⟨b,hb,by rw[e];rfl⟩
theorem Px{fp:List Addr}{h:Heap}{p:Addr×Obj}(hp:p∈Gz fp h):p.1∈fp∧h.get? p.1=some p.2:=by
 obtain⟨b,hb,e⟩:=ml.mp hp
 cases q:h.get? b with
 |none=>rw[q] at e;cases e
 |some o=>
  rw[q] at e
  have e':(b,o)=p:=ki.inj e
  subst e'
  exact⟨hb,q⟩
theorem Inv.pinned{pins:List (Addr×Obj)}{σ:St}{H:Hp}{s:c9}{fp:List Addr}(I:Inv X pins σ H s)(hf:∀b∈fp,Gy X pins H b)(ho:∀b∈fp,∃o,s.heap.get? b=some o∧∀v,o.data≠.cell v):Inv X (pins++Gz fp s.heap) σ H s:=
 I.pins_of fun p hp=> (ju.mp hp).elim (fun z=>I.pin p (kM _ z)) fun z=>by
  obtain⟨hb,e⟩:=Px z
  obtain⟨f0,f1,f2,_⟩:=hf p.1 hb
  obtain⟨o,e',d⟩:=ho p.1 hb
  rw[e] at e';cases e'
  exact⟨e,f0,f1,f2,d⟩
theorem Inv.unpinned{pins pl:List (Addr×Obj)}{σ:St}{H:Hp}{s:c9}(I:Inv X (pins++pl) σ H s):Inv X pins σ H s:=I.pins_of fun p hp=>I.pin p (kM _ (mq _ hp))
theorem Yb{iter:Expr}{body:List Stmt}{wi:TI}{g:TG}{tb:TS}{pos:Pos}(hp:qz (model X.prog X.w) X.A X.env X.xe)(hc:X.calm=true)(hi:PI X tg iter wi)(hg:PG X tg g)(hb:PSs X body tb)
  (hs:∀x,lU iter X.env x=pure x:=by intro _;rfl):PS X (.For tg iter body [] pos) (gL wi g tb):=by
 intro pins s σ H D I h
 refine wpAny_For (Az (hi pins s σ H _ I h) fun v s1 h1=>Az h1 fun itv s2 h2=>?_) hs
 obtain⟨it,fp,tn,J,H2,e,I2,T,st2,f2,W,⟨m0,w0⟩,turn⟩:=h2
 subst e
 have stat:∀{H':Hp},(∀b∈fp,H' b=none)→∀b∈fp,Gy X pins H' b:=fun hn b hb=> ⟨hn b hb,(f2 b hb).2⟩
 refine codeAny_forLoop_any (fun n s'=>∃i σ' H',Inv X pins σ' H' s'∧tn i s'.heap∧(∀b∈fp,H' b=none)∧W i n σ' H') ?_ m0 ⟨0,σ,H2,I2,st2,fun b hb=> (f2 b hb).1,w0⟩
 rintro n s3 ⟨i,σ3,H3,I3,st3,fr3,w3⟩
 rcases turn i n σ3 H3 w3 with⟨stop,qn⟩| ⟨go,N,hN,step⟩
 ·refine ny hp (Az (T.done X rfl rfl rfl hc i pins s3 σ3 H3 X.xe I3 (stat fr3) st3 stop) fun r s4 ⟨hr,I4⟩=>?_)
  subst hr
  exact qj ⟨σ3,H3,I4,qn⟩
 ·refine ny hp (Az (T.item X rfl rfl rfl hc i pins s3 σ3 H3 X.xe I3 (stat fr3) st3 go) fun r s4 ⟨u,hr,h4⟩=>?_)
  subst hr
  refine ny hp (Az h4 fun _ s5 ⟨x,H5,I5,r5,y5,st5,fr5⟩=>?_)
  have I5':=I5.pinned (stat fr5) (T.obj _ _ st5)
  refine ny hp (Az (hg _ s5 σ3 H5 x u _ I5' r5 (step x H5 y5)) fun _ s6 ⟨σ6,H6,I6,q6⟩=>?_)
  refine ny hp (Az (hb _ s6 σ6 H6 _ I6 q6) fun f s7 q7=>?_)
  have again:∀{σ7:St} {H7:Hp},Inv X (pins++Gz fp s5.heap) σ7 H7 s7→N σ7 H7→∃m,m<n∧∃i σ' H',Inv X pins σ' H' s7∧tn i s7.heap∧(∀b∈fp,H' b=none)∧W i m σ' H':=fun{σ7 H7} I7 n7=>by
   obtain⟨m',hm,w7⟩:=hN σ7 H7 n7
   refine⟨m',hm,i+1,σ7,H7,I7.unpinned,T.keep _ _ _ st5 fun b hb o e=> (I7.pin (b,o) (kM _ (kM _ (Cp hb e)))).1,fun b hb=>?_,w7⟩
   obtain⟨o,e,d⟩:=T.obj _ _ st5 b hb
   exact(I7.pin (b,o) (kM _ (kM _ (Cp hb e)))).2.1
  cases f with
  |next=>obtain⟨σ7,H7,I7,n7⟩:=q7;exact again I7 n7
  |cont=>obtain⟨σ7,H7,I7,n7⟩:=q7;exact again I7 n7
  |brk=>obtain⟨σ7,H7,I7,q7⟩:=q7;exact⟨σ7,H7,I7.unpinned,q7⟩
  |ret v=>obtain⟨x7,σ7,H7,I7,r7,q7⟩:=q7;exact⟨x7,σ7,H7,I7.unpinned,r7,q7⟩
end
noncomputable abbrev R2:=V→V→Hp→VK→Prop
noncomputable def Cb(X:Cx)(f:Value→Value→Sem Value)(r:R2):Prop:=
 ∀(pins:List (Addr×Obj)) (s:c9) (σ:St) (H:Hp) (x y:V) (v u:Value) (Q:VK),Inv X pins σ H s→RelV x v→RelV y u→r x y H Q→
  wpAny (model X.prog X.w) X.A (f v u) (EP X pins σ Q) X.xe s
noncomputable def fW(X:Cx)(f:Value→Sem Value)(r:V→Hp→VK→Prop):Prop:=
 ∀(pins:List (Addr×Obj)) (s:c9) (σ:St) (H:Hp) (x:V) (v:Value) (Q:VK),Inv X pins σ H s→RelV x v→r x H Q→
  wpAny (model X.prog X.w) X.A (f v) (EP X pins σ Q) X.xe s
noncomputable def BJ(X:Cx)(f:Value)(r:List V→Hp→VK→Prop):Prop:=
 ∀(pins:List (Addr×Obj)) (s:c9) (σ:St) (H:Hp) (xs:List V) (us:List Value) (Q:VK),Inv X pins σ H s→Vals xs us→r xs H Q→
  wpAny (model X.prog X.w) X.A (call f us) (EP X pins σ Q) X.xe s
noncomputable def gM(X:Cx)(r:V→Hp→(Bool→Hp→Prop)→Prop):Prop:=
 ∀(pins:List (Addr×Obj)) (s:c9) (σ:St) (H:Hp) (x:V) (v:Value) (Q:Bool→Hp→Prop),Inv X pins σ H s→RelV x v→r x H Q→
  wpAny (model X.prog X.w) X.A (truthy v) (TP X pins σ Q) X.xe s
noncomputable def bb(r:R2)(ta tb:TE):TE:=fun σ H Q=>ta σ H fun x H1=>tb σ H1 fun y H2=>r x y H2 Q
noncomputable def ic(r:V→Hp→VK→Prop)(ta:TE):TE:=fun σ H Q=>ta σ H fun x H1=>r x H1 Q
noncomputable def rI(C:Int→Int→Prop)(g:Int→Int→V):R2:=fun x y H Q=>∃i j,x=.int i∧y=.int j∧C i j∧Q (g i j) H
noncomputable def Um(g:Int→Int→V):R2:=fun x y H Q=>∃i j,x=.int i∧y=.int j∧Q (g i j) H
noncomputable def rU(g:Int→V):V→Hp→VK→Prop:=fun x H Q=>∃i,x=.int i∧Q (g i) H
section
variable{X:Cx}{a b c:Expr}{ta tb tc:TE}{pos:Pos}
theorem Yc(ha:PE X a ta)(hb:PE X b tb){pins:List (Addr×Obj)}{s:c9}{σ:St}{H:Hp}{R:V→V→Hp→Prop}(I:Inv X pins σ H s)
  (h:ta σ H fun x H1=>tb σ H1 fun y H2=>R x y H2) {Q:Value→c9→Prop} {f:Value→Value→Sem Value}
  (hf:∀v u s2 x y H2,Inv X pins σ H2 s2→RelV x v→RelV y u→R x y H2→wpAny (model X.prog X.w) X.A (f v u) Q X.xe s2):
  wpAny (model X.prog X.w) X.A (eval a X.env) (fun v s₁=>wpAny (model X.prog X.w) X.A (eval b X.env) (fun u s₂=>wpAny (model X.prog X.w) X.A (f v u) Q X.xe s₂) X.xe s₁) X.xe s:=by
 refine Az (ha pins s σ H _ I h) fun v s1 ⟨x,H1,I1,r1,q1⟩=>?_
 refine Az (hb pins s1 σ H1 _ I1 q1) fun u s2 ⟨y,H2,I2,r2,q2⟩=>?_
 exact hf v u s2 x y H2 I2 r1 r2 q2
theorem bf{op:r8}{r:R2}(ho:Cb X (nF op) r)(ha:PE X a ta)(hb:PE X b tb):PE X (.BinOp a op b pos) (bb r ta tb):=by
 intro pins s σ H Q I h
 exact wpAny_BinOp (Yc ha hb I h fun v u s2 x y H2 I2 rx ry q=>ho pins s2 σ H2 x y v u Q I2 rx ry q)
theorem bh{op:UnaryOp}{r:V→Hp→VK→Prop}(ho:fW X (unaryOp op) r)(ha:PE X a ta):PE X (.UnaryOp op a pos) (ic r ta):=by
 intro pins s σ H Q I h
 exact UnaryOp_ (Az (ha pins s σ H _ I h) fun v s1 ⟨x,H1,I1,r1,q1⟩=>ho pins s1 σ H1 x v Q I1 r1 q1)
theorem fX{f:Value→Value→Sem Value}{C:Int→Int→Prop}{g:Int→Int→Int}
  (rule:∀(i j:Int) (t u:Tok) (s:c9) (Q:Value→c9→Prop) (E:Value→c9→Prop),C i j→Q (.int (g i j) s.toks) {s with toks:=s.toks+1}→wpAny (model X.prog X.w) X.A (f (.int i t) (.int j u)) Q E s):
  Cb X f (rI C fun i j=> .int (g i j)):=by
 intro pins s σ H x y v u Q I rx ry h
 obtain⟨i,j,rfl,rfl,hc,q⟩:=h
 obtain⟨t,rfl⟩:=rx
 obtain⟨t',rfl⟩:=ry
 exact rule i j t t' s _ _ hc ⟨.int (g i j),H,I.tok _,⟨_,rfl⟩,q⟩
theorem bj{f:Value→Value→Sem Value}{g:Int→Int→Int}
  (rule:∀(i j:Int) (t u:Tok) (s:c9) (Q:Value→c9→Prop) (E:Value→c9→Prop),Q (.int (g i j) s.toks) {s with toks:=s.toks+1}→wpAny (model X.prog X.w) X.A (f (.int i t) (.int j u)) Q E s):
  Cb X f (Um fun i j=> .int (g i j)):=by
 intro pins s σ H x y v u Q I rx ry h
 obtain⟨i,j,rfl,rfl,q⟩:=h
 obtain⟨t,rfl⟩:=rx
 obtain⟨t',rfl⟩:=ry
 exact rule i j t t' s _ _ ⟨.int (g i j),H,I.tok _,⟨_,rfl⟩,q⟩
theorem VA{f:Value→Value→Sem Value}{g:Int→Int→Bool}
  (rule:∀(i j:Int) (t u:Tok) (s:c9) (Q:Value→c9→Prop) (E:Value→c9→Prop),Q (.bool (g i j)) s→wpAny (model X.prog X.w) X.A (f (.int i t) (.int j u)) Q E s):
  Cb X f (Um fun i j=> .bl (g i j)):=by
 intro pins s σ H x y v u Q I rx ry h
 obtain⟨i,j,rfl,rfl,q⟩:=h
 obtain⟨t,rfl⟩:=rx
 obtain⟨t',rfl⟩:=ry
 exact rule i j t t' s _ _ ⟨.bl (g i j),H,I,rfl,q⟩
noncomputable def bo(i j:Int):Prop:=0<j∧j<1073741824
noncomputable def bp(i j:Int):Prop:=0≤j∧j≤1000000∧i.natAbs<2^64
noncomputable def CMul(i j:Int):Prop:=(-(2^64)<i∧i<2^64)∨(-(2^64)<j∧j<2^64)
theorem CMul.ok{i j:Int}(h:CMul i j):IntMulOk i j:=by
 rcases h with⟨h1,h2⟩| ⟨h1,h2⟩
 ·exact .of_left (intBits_le_64 h1 h2)
 ·exact .of_right (intBits_le_64 h1 h2)
theorem FL:Cb X (nF .Add) (Um fun i j=> .int (i+j)):=bj fun _ _ _ _ _ _ _ q=>add_int q
theorem Yd:Cb X (nF .Sub) (Um fun i j=> .int (i-j)):=bj fun _ _ _ _ _ _ _ q=>sub_int q
theorem Ye:Cb X (nF .Mult) (rI CMul fun i j=> .int (i*j)):=fX fun _ _ _ _ _ _ _ hc q=>mul_int q hc.ok
theorem VB:Cb X (nF .FloorDiv) (rI bo fun i j=> .int (i/j)):=fX fun i j _ _ _ _ _ hc q=>by
 have h1:(0:Int)<j:=hc.1
 have h2:j<1073741824:=hc.2
 exact floordiv_int (by omega) (by rw[Int.fdiv_eq_ediv_of_nonneg i (by omega)];exact q) (.inl (PyProof.noPylong_small (by omega)))
theorem Yg:Cb X (nF .Mod) (rI (fun _ j=>0<j) fun i j=> .int (i%j)):=fX fun i j _ _ _ _ _ hc q=>by
 have h1:(0:Int)<j:=hc
 exact mod_int' (by omega) (by rw[Int.fmod_eq_emod_of_nonneg i (by omega)];exact q)
theorem Yh:Cb X (nF .Pow) (rI bp fun i j=> .int (i^j.toNat)):=fX fun _ _ _ _ _ _ _ hc q=>pow_int_small hc.1 hc.2.1 hc.2.2 q
theorem ie{f:Value→Sem Value}{g:Int→Int}
  (rule:∀(i:Int) (t:Tok) (s:c9) (Q:Value→c9→Prop) (E:Value→c9→Prop),Q (.int (g i) s.toks) {s with toks:=s.toks+1}→wpAny (model X.prog X.w) X.A (f (.int i t)) Q E s):
  fW X f (rU fun i=> .int (g i)):=by
 intro pins s σ H x v Q I rx h
 obtain⟨i,rfl,q⟩:=h
 obtain⟨t,rfl⟩:=rx
 exact rule i t s _ _ ⟨.int (g i),H,I.tok _,⟨_,rfl⟩,q⟩
theorem Yi:fW X (unaryOp .USub) (rU fun i=> .int (-i)):=ie fun _ _ _ _ _ q=>neg_int q
end
noncomputable def bq:V→V→Bool
 | .non,.non=>true| .non,.int _=>true| .int _,.non=>true| .non,.bl _=>true| .bl _,.non=>true| .non,.str _=>true| .str _,.non=>true
 | .int _,.int _=>true| .bl _,.bl _=>true| .str _,.str _=>true| .byt _,.byt _=>true
 | .int _,.str _=>true| .str _,.int _=>true| .bl _,.str _=>true| .str _,.bl _=>true
 |_,_=>false
noncomputable def iJ:R2:=fun x y H Q=>bq x y=true∧Q (.bl (decide (x=y))) H
noncomputable def iK:R2:=fun x y H Q=>bq x y=true∧Q (.bl (!decide (x=y))) H
theorem OL{i j:Int}:decide (V.int i=V.int j)=(i==j):=by
 rw[lC]
 simp
theorem RH{i j:Bool}:decide (V.bl i=V.bl j)=(i==j):=by
 rw[lC]
 simp
theorem OM{i j:Str}:decide (V.str i=V.str j)=(i==j):=by
 rw[lC]
 simp
theorem ON{i j:Array UInt8}:decide (V.byt i=V.byt j)=(i.toList==j.toList):=by
 rw[lC]
 cases i
 cases j
 simp
section
variable{X:Cx}{a b c:Expr}{ta tb tc:TE}{pos:Pos}
theorem Ab{pins:List (Addr×Obj)}{σ:St}{H:Hp}{s:c9}{Q:VK}{k k':Bool}(I:Inv X pins σ H s)(q:Q (.bl k) H)(e:k=k'):EP X pins σ Q (.bool k') s:=by
 subst e
 exact⟨.bl k,H,I,rfl,q⟩
theorem RI:Cb X (kR .Eq) iJ:=by
 intro pins s σ H x y v u Q I rx ry h
 obtain⟨hs,q⟩:=h
 cases x with
 |non=>
  cases rx
  cases y with
  |non=>cases ry;exact PySem.EqNone.eq_none_none (Ab I q (by simp))
  |bl j=>cases ry;exact PySem.EqNone.eq_none_bool (Ab I q (by simp))
  |int j=>obtain⟨t',rfl⟩:=ry;exact PySem.EqNone.eq_none_int (Ab I q (by simp))
  |str j=>obtain⟨t',rfl⟩:=ry;exact PySem.EqNone.eq_none_str (Ab I q (by simp))
  |_=>exact absurd (show false=true from hs) i5
 |bl i=>
  cases rx
  cases y with
  |non=>cases ry;exact PySem.EqNone.eq_bool_none (Ab I q (by simp))
  |bl j=>cases ry;exact eq_bool (Ab I q RH)
  |str j=>obtain⟨t',rfl⟩:=ry;exact PySem.EqMixed.eq_bool_str (Ab I q (by simp))
  |_=>exact absurd (show false=true from hs) i5
 |int i=>
  obtain⟨t,rfl⟩:=rx
  cases y with
  |non=>cases ry;exact PySem.EqNone.eq_int_none (Ab I q (by simp))
  |int j=>obtain⟨t',rfl⟩:=ry;exact eq_int (Ab I q OL)
  |str j=>obtain⟨t',rfl⟩:=ry;exact PySem.EqMixed.eq_int_str (Ab I q (by simp))
  |_=>exact absurd (show false=true from hs) i5
 |str i=>
  obtain⟨t,rfl⟩:=rx
  cases y with
  |non=>cases ry;exact PySem.EqNone.eq_str_none (Ab I q (by simp))
  |bl j=>cases ry;exact PySem.EqMixed.eq_str_bool (Ab I q (by simp))
  |int j=>obtain⟨t',rfl⟩:=ry;exact PySem.EqMixed.eq_str_int (Ab I q (by simp))
  |str j=>obtain⟨t',rfl⟩:=ry;exact eq_str (Ab I q OM)
  |_=>exact absurd (show false=true from hs) i5
 |byt i=>
  obtain⟨t,rfl⟩:=rx
  cases y with
  |byt j=>obtain⟨t',rfl⟩:=ry;exact PySem.W.eq_bytes (Ab I q ON)
  |_=>exact absurd (show false=true from hs) i5
 |_=>cases y<;>exact absurd (show false=true from hs) i5
theorem XR:Cb X (kR .NotEq) iK:=by
 intro pins s σ H x y v u Q I rx ry h
 obtain⟨hs,q⟩:=h
 cases x with
 |non=>
  cases rx
  cases y with
  |non=>cases ry;exact PySem.EqNone.ne_none_none (Ab I q (by simp))
  |bl j=>cases ry;exact PySem.EqNone.ne_none_bool (Ab I q (by simp))
  |int j=>obtain⟨t',rfl⟩:=ry;exact PySem.EqNone.ne_none_int (Ab I q (by simp))
  |str j=>obtain⟨t',rfl⟩:=ry;exact PySem.EqNone.ne_none_str (Ab I q (by simp))
  |_=>exact absurd (show false=true from hs) i5
 |bl i=>
  cases rx
  cases y with
  |non=>cases ry;exact PySem.EqNone.ne_bool_none (Ab I q (by simp))
  |bl j=>cases ry;exact ne_bool (Ab I q (congrArg not RH))
  |str j=>obtain⟨t',rfl⟩:=ry;exact PySem.EqMixed.ne_bool_str (Ab I q (by simp))
  |_=>exact absurd (show false=true from hs) i5
 |int i=>
  obtain⟨t,rfl⟩:=rx
  cases y with
  |non=>cases ry;exact PySem.EqNone.ne_int_none (Ab I q (by simp))
  |int j=>obtain⟨t',rfl⟩:=ry;exact ne_int (Ab I q (congrArg not OL))
  |str j=>obtain⟨t',rfl⟩:=ry;exact PySem.EqMixed.ne_int_str (Ab I q (by simp))
  |_=>exact absurd (show false=true from hs) i5
 |str i=>
  obtain⟨t,rfl⟩:=rx
  cases y with
  |non=>cases ry;exact PySem.EqNone.ne_str_none (Ab I q (by simp))
  |bl j=>cases ry;exact PySem.EqMixed.ne_str_bool (Ab I q (by simp))
  |int j=>obtain⟨t',rfl⟩:=ry;exact PySem.EqMixed.ne_str_int (Ab I q (by simp))
  |str j=>obtain⟨t',rfl⟩:=ry;exact ne_str (Ab I q (congrArg not OM))
  |_=>exact absurd (show false=true from hs) i5
 |byt i=>
  obtain⟨t,rfl⟩:=rx
  cases y with
  |byt j=>obtain⟨t',rfl⟩:=ry;exact PySem.W.ne_bytes (Ab I q (congrArg not ON))
  |_=>exact absurd (show false=true from hs) i5
 |_=>cases y<;>exact absurd (show false=true from hs) i5
theorem RJ:Cb X (kR .Lt) (Um fun i j=> .bl (decide (i<j))):=VA fun _ _ _ _ _ _ _ q=>lt_int q
theorem RL:Cb X (kR .LtE) (Um fun i j=> .bl (decide (i≤j))):=VA fun _ _ _ _ _ _ _ q=>le_int q
theorem br:Cb X (kR .Gt) (Um fun i j=> .bl (decide (j<i))):=VA fun _ _ _ _ _ _ _ q=>gt_int q
theorem XS:Cb X (kR .GtE) (Um fun i j=> .bl (decide (j≤i))):=VA fun _ _ _ _ _ _ _ q=>ge_int q
theorem Yj:Cb X (kR .Is) (fun x y H Q=>y=.non∧Q (.bl (decide (x=.non))) H):=by
 intro pins s σ H x y v u Q I rx ry h
 obtain⟨rfl,q⟩:=h
 cases ry
 refine is_none_gen (Ab I q ?_)
 cases x<;>first
  | (cases rx;rfl)
  | (obtain⟨t,rfl⟩:=rx;rfl)
theorem VC:Cb X (kR .IsNot) (fun x y H Q=>y=.non∧Q (.bl (!decide (x=.non))) H):=by
 intro pins s σ H x y v u Q I rx ry h
 obtain⟨rfl,q⟩:=h
 cases ry
 refine isnot_none_gen (Ab I q ?_)
 cases x<;>first
  | (cases rx;rfl)
  | (obtain⟨t,rfl⟩:=rx;rfl)
theorem Ac(b:Expr){op:CmpOp}(h:op≠.In:=by decide)(h2:op≠.NotIn:=by decide):behindInMarks op b=false:=by
 have e1:(op==CmpOp.In)=false:=by cases op<;>first|rfl|exact absurd rfl h
 have e2:(op==CmpOp.NotIn)=false:=by cases op<;>first|rfl|exact absurd rfl h2
 cases b<;>simp[behindInMarks,e1,e2]
theorem VD{op:CmpOp}{r:R2}(ho:Cb X (kR op) r)(ha:PE X a ta)(hb:PE X b tb)(hm:behindInMarks op b=false):PE X (.Compare a [op] [b] pos) (bb r ta tb):=by
 intro pins s σ H Q I h
 exact wpAny_Compare1 (Yc ha hb I h fun v u s2 x y H2 I2 rx ry q=>ho pins s2 σ H2 x y v u Q I2 rx ry q) hm
noncomputable def bu(t:TE):TT:=fun σ H Q=>t σ H fun x H'=>∃k,x=.bl k∧Q k H'
theorem OO{op:CmpOp}{r:R2}(ho:Cb X (kR op) r)(ha:PE X a ta)(hb:PE X b tb)(hm:behindInMarks op b=false):PT X (.Compare a [op] [b] pos) (bu (bb r ta tb)):=by
 intro pins s σ H Q I h
 refine wpAny_isTrue_Compare1 (Az (ha pins s σ H _ I h) fun v s1 ⟨x,H1,I1,r1,q1⟩=>Az (hb pins s1 σ H1 _ I1 q1) fun u s2 ⟨y,H2,I2,r2,q2⟩=>
  Az (ho pins s2 σ H2 x y v u _ I2 r1 r2 q2) fun c s3 ⟨z,H3,I3,r3,k,e,q3⟩=>?_) hm
 subst e
 cases r3
 exact mB ⟨H3,I3,q3⟩
noncomputable def Yk(r r':R2)(ta tb tc:TE):TE:=fun σ H Q=>ta σ H fun x H1=>tb σ H1 fun y H2=>r x y H2 fun z H3=>∃k,z=.bl k∧
 (if k=true then tc σ H3 fun w' H4=>r' y w' H4 Q else Q (.bl false) H3)
theorem RM{op op':CmpOp}{r r':R2}(ho:Cb X (kR op) r)(ho':Cb X (kR op') r')(ha:PE X a ta)(hb:PE X b tb)(hc:PE X c tc)
  (hm:lastMarks [op,op'] [b,c]=false:=by with_unfolding_all rfl):PE X (.Compare a [op,op'] [b,c] pos) (Yk r r' ta tb tc):=by
 intro pins s σ H Q I h
 refine Compare_chain (Az (ha pins s σ H _ I h) fun v s1 ⟨x,H1,I1,r1,q1⟩=>chain_link (Az (hb pins s1 σ H1 _ I1 q1) fun u s2 ⟨y,H2,I2,r2,q2⟩=>
  Az (ho pins s2 σ H2 x y v u _ I2 r1 r2 q2) fun d s3 ⟨z,H3,I3,r3,k,e,q3⟩=>?_)) hm
 subst e
 cases r3
 refine mB ?_
 cases k with
 |false=>exact ite_ff ⟨.bl false,H3,I3,rfl,q3⟩
 |true=>exact ite_tt (chain_last (Az (hc pins s3 σ H3 _ I3 q3) fun w' s4 ⟨z',H4,I4,r4,q4⟩=>ho' pins s4 σ H4 y z' u w' Q I4 r2 r4 q4))
noncomputable def Yl(K:b9)(x:V)(H:Hp)(k:Bool):Prop:=
 match x with
 | .non=>k=false
 | .bl b=>k=b
 | .int i=>k=(i !=0)
 | .str y=>y.length≤sizeLine∧k=((y.length:Int) !=0)
 | .byt y=>y.size≤sizeLine∧k=((y.size:Int) !=0)
 | .ref p=> (∃xs,CM K H p xs∧k=!xs.isEmpty)∨(∃xs,DN K H p xs∧k=!xs.isEmpty)∨∃kvs,H p=some (.dK kvs)∧k=!kvs.isEmpty
 |_=>False
theorem Mn{κ:Type}{kvs:List (κ×V)}{vs:List (κ×Value)}(r:KV kvs vs):(!vs.isEmpty)=!kvs.isEmpty:=by
 cases r<;>rfl
theorem HA{xs:List V}{its:List Value}(r:Vals xs its):(!its.toArray.isEmpty)=!xs.isEmpty:=by
 cases r<;>simp
theorem FM:(sizeLine:Nat)<2^63:=by rw[lI];decide
theorem Ym:gM X (fun x H Q=>∃k,Yl X.K x H k∧Q k H):=by
 intro pins s σ H x v Q I rx h
 obtain⟨k,e,q⟩:=h
 have hl:=FM
 have hs:sizeLine=16777216:=lI
 cases x with
 |non=>
  cases rx
  have e':k=false:=e
  subst e'
  exact truthy_none ⟨H,I,q⟩
 |bl b=>
  cases rx
  have e':k=b:=e
  subst e'
  exact mB ⟨H,I,q⟩
 |int i=>
  obtain⟨t,rfl⟩:=rx
  have e':k=(i !=0):=e
  subst e'
  exact PySem.P.truthy_int ⟨H,I,q⟩
 |str y=>
  obtain⟨t,rfl⟩:=rx
  obtain⟨hy,e'⟩:y.length≤sizeLine∧k=((y.length:Int) !=0):=e
  subst e'
  exact PySem.P.truthy_str (by omega) ⟨H,I.tok _,q⟩
 |byt y=>
  obtain⟨t,rfl⟩:=rx
  obtain⟨hy,e'⟩:y.size≤sizeLine∧k=((y.size:Int) !=0):=e
  subst e'
  exact PySem.W.truthy_bytes (by omega) ⟨H,I.tok _,q⟩
 |ref p=>
  cases rx
  have e':(∃xs,CM X.K H p xs∧k=!xs.isEmpty)∨(∃xs,DN X.K H p xs∧k=!xs.isEmpty)∨∃kvs,H p=some (.dK kvs)∧k=!kvs.isEmpty:=e
  rcases e' with⟨xs,hx,e'⟩| ⟨xs,hx,e'⟩| ⟨kvs,hx,e'⟩
  ·subst e'
   obtain⟨its,r,pl,hz⟩:=I.list hx
   have hlen:=r.length
   exact wpAny_truthy_list pl.isList (by simp only[ji];omega) ⟨H,I.tok _,by rw[HA r];exact q⟩
  ·subst e'
   obtain⟨its,r,pl,hz⟩:=I.tuple hx
   have hlen:=r.length
   exact truthy_tuple pl (by simp only[ji];omega) ⟨H,I.tok _,by rw[HA r];exact q⟩
  ·subst e'
   obtain⟨hz,hS,vs,r,m⟩:kvs.length≤sizeLine∧(p==sysModules)=false∧∃vs,KV kvs vs∧s.heap.DictOf (JQ X.prog X.w) p vs:=I.hok p _ hx
   have hlen:kvs.length=vs.length:=Paired.length r
   exact wpAny_truthy_dict hS m (by omega) ⟨H,I.tok _,by rw[Mn r];exact q⟩
 |_=>exact(show False from e).elim
theorem RN(ha:PE X a ta)(he:∀whole,isTrue a X.env whole=(do let v←whole;standAt a.pos;holding [v] (truthy v))):
  PT X a (fun σ H Q=>ta σ H fun x H'=>∃k,Yl X.K x H' k∧Q k H'):=by
 intro pins s σ H Q I h
 exact isTrue_plain (Az (ha pins s σ H _ I h) fun v s1 ⟨x,H1,I1,r1,q1⟩=>Ym pins s1 σ H1 x v Q I1 r1 q1) (he _)
theorem Dy{x:V}{us:List Value}(r:Vals [x] us):∃u,us=[u]∧RelV x u:=by
 cases r with
 |cons r1 r2=>cases r2;exact⟨_,rfl,r1⟩
theorem Ia{x y:V}{us:List Value}(r:Vals [x,y] us):∃u w',us=[u,w']∧RelV x u∧RelV y w':=by
 cases r with
 |cons r1 r2=>
  cases r2 with
  |cons r3 r4=>cases r4;exact⟨_,_,rfl,r1,r3⟩
theorem Py(hc:X.calm=true):BJ X (.builtin "max") (fun xs H Q=>∃i j,xs=[.int i,.int j]∧Q (.int (if j>i then j else i)) H):=by
 intro pins s σ H xs us Q I r h
 obtain⟨i,j,rfl,q⟩:=h
 obtain⟨u,w',rfl,⟨t,rfl⟩,⟨t',rfl⟩⟩:=Ia r
 refine max_two_ints (I.ok.hd hc) fun h' tk k=> ⟨_,H,I.kept k,?_,q⟩
 by_cases hj:j>i
 ·rw[if_pos hj,if_pos hj];exact⟨_,rfl⟩
 ·rw[if_neg hj,if_neg hj];exact⟨_,rfl⟩
theorem Pz(hc:X.calm=true):BJ X (.builtin "min") (fun xs H Q=>∃i j,xs=[.int i,.int j]∧Q (.int (if j<i then j else i)) H):=by
 intro pins s σ H xs us Q I r h
 obtain⟨i,j,rfl,q⟩:=h
 obtain⟨u,w',rfl,⟨t,rfl⟩,⟨t',rfl⟩⟩:=Ia r
 refine min_two_ints (I.ok.hd hc) fun h' tk k=> ⟨_,H,I.kept k,?_,q⟩
 by_cases hj:j<i
 ·rw[if_pos hj,if_pos hj];exact⟨_,rfl⟩
 ·rw[if_neg hj,if_neg hj];exact⟨_,rfl⟩
theorem QA:BJ X (.type "int") (fun xs H Q=> (∃i,xs=[.int i]∧Q (.int i) H)∨∃k,xs=[.bl k]∧Q (.int (if k then 1 else 0)) H):=by
 intro pins s σ H xs us Q I r h
 rcases h with⟨i,rfl,q⟩| ⟨k,rfl,q⟩
 ·obtain⟨u,rfl,t,rfl⟩:=Dy r
  exact call_int_int ⟨.int i,H,I,⟨_,rfl⟩,q⟩
 ·obtain⟨u,rfl,r1⟩:=Dy r
  cases r1
  exact call_int_bool ⟨.int (if k then 1 else 0),H,I.tok _,⟨_,rfl⟩,q⟩
end
structure ObjM(h:Heap)(x dx C:Addr)(mA:Str→Option Value):Prop where
 obj:h.get? x=some (rL C dx)
 ns:h.Ns1 dx mA
 ne:dx≠x
theorem QB{h:Heap}{dx:Addr}{mA:Str→Option Value}(n:h.Ns1 dx mA):∃od,h.get? dx=some od∧∀name,rY name od=some (mA name):=by
 obtain⟨o,es,ep,ho,hd,hk,_,hm⟩:=n
 refine⟨o,ho,fun name=>?_⟩
 have e:=hm name
 unfold nsFind findBy at e
 rw[←Array.find?_toList] at e
 unfold rY
 rw[hd]
 dsimp only
 split
 ·rename_i y q
  rw[q] at e
  exact congrArg some e
 ·rename_i q
  rw[q] at e
  have a:es.toList.any (·.refKey)=false:=by
   rw[List.any_eq_false]
   intro y hy
   obtain⟨z,t,hkey⟩:=hk y (Array.mem_toList_iff.mp hy)
   simp[DictEntry.refKey,hkey]
  have a':¬es.toList.any (·.refKey)=true:=by rw[a];exact i5
  rw[if_neg a']
  exact congrArg some e
theorem ObjM.look{h:Heap}{x dx C:Addr}{mA:Str→Option Value}(I:ObjM h x dx C mA):∃od,PySem.W.InstAt h x (rL C dx) C (some od)∧∀name,rY name od=some (mA name):=
 let⟨od,ho,hl⟩:=QB I.ns
 ⟨od,⟨I.obj,rfl,rfl,ho⟩,hl⟩
section
variable{prog:Program}{w:World}{A:js}{E:Value→c9→Prop}{s:c9}{K:b9}{x dx C f:Addr}{mA:Str→Option Value}{name:Str}{v:Value}
end
section
variable{P:Program}{w:World}{H H':Hp}{h h':Heap}{a C dx:Addr}{fs fs':List (Str×V)}
theorem VE(hok:HOk P w H h)(e:H a=some (.ins C dx fs)):∃mA,ObjM h a dx C mA∧(∀f,Us (fs.lookup f) (mA f))∧sS mA (fs.map (·.1))∧fs.length≤1000∧H dx=some (.own a):=by
 obtain⟨d,z,ne,ob,mA,n,r,q⟩:=(show ObjOk P w H h a (.ins C dx fs) from hok a _ e)
 exact⟨mA,⟨ob,n,ne⟩,r,q,z,d⟩
end
structure Cls(K:b9)(C:Addr):Prop where
 pg:PySem.W.plainGet K C Str.empty=true
 hd:PySem.W.hasDictIn K C=true
 po:PySem.W.plainOver K C=true
 sa:pH K (.ref C) "__setattr__" =some (some (.builtin "object.__setattr__"))
theorem Cls.get{K:b9}{C:Addr}(c:Cls K C)(f:Str):PySem.W.plainGet K C f=true:=c.pg
section
variable{X:Cx}{pins:List (Addr×Obj)}{σ:St}{H:Hp}{s:c9}{a C dx:Addr}{fs:List (Str×V)}{f:Str}{v:V}{A:js}{E:Value→c9→Prop}
end
section
variable{X:Cx}{o e value:Expr}{f:Str}{pos pos' tpos:Pos}{ta tv:TE}
end
section
variable{X:Cx}{pins:List (Addr×Obj)}{σ:St}{H:Hp}{s:c9}{A:js}{E:Value→c9→Prop}{Q:Value→c9→Prop}{c:Value}{b:Bool}
inductive TyOf(K:b9)(H:Hp):V→Value→Prop where
 |non:TyOf K H .non (.type "NoneType")
 |bl (x:Bool):TyOf K H (.bl x) (.type "bool")
 |int (i:Int):TyOf K H (.int i) (.type "int")
 |str (x:Str):TyOf K H (.str x) (.type "str")
 |flt (x:UInt64):TyOf K H (.flt x) (.type "float")
 |lst {a:Addr} {xs:List V} (e:H a=some (.lst xs)):TyOf K H (.ref a) (.type "list")
 |frz {a:Addr} {o:Obj} {xs:List V} (e:H a=some (.frz o (.lst xs))):TyOf K H (.ref a) (.type "list")
 |tup {a:Addr} {xs:List V} (e:H a=some (.tup xs)):TyOf K H (.ref a) (.type "tuple")
 |dK {a:Addr} {kvs:List (Ks×V)} (e:H a=some (.dK kvs)):TyOf K H (.ref a) (.type "dict")
 |dT {a:Addr} {kvs:List (List Ks×V)} (e:H a=some (.dT kvs)):TyOf K H (.ref a) (.type "dict")
 |ins {a C dx:Addr} {fs:List (Str×V)} (e:H a=some (.ins C dx fs)) (cl:Cls K C) (ha:pH K (.ref C) "__class__" =some (some (.builtin "object.__class__")))
   (hn:PySem.W.specialIn K (.builtin "object.__class__") "__get__" =some (some (.builtin "getset_descriptor.__get__"))) (htk:PySem.W.takesIn K (.builtin "object.__class__")=some true)
   (hm:qU K C (.type "object")=some true):TyOf K H (.ref a) (.ref C)
theorem QC{x:V}{u t:Value}(I:Inv X pins σ H s)(rx:RelV x u)(ty:TyOf X.K H x t)(e:jZ X.K t c=some b)(h:∀tk,Q (.bool b) {s with toks:=tk}):
  wpAny (model X.prog X.w) A (call (.builtin "isinstance") [u,c]) Q E s:=by
 cases ty with
 |non=>cases(show u=mV from rx);exact lO PySem.W.kitx_none I.kIn rB e (fun z=>nomatch z) h
 |bl y=>cases(show u=o8 y from rx);exact lO PySem.W.kitx_bool I.kIn rB e (fun z=>nomatch z) h
 |int i=>obtain⟨t,q⟩:=(show∃t,u=sv i t from rx);cases q;exact lO PySem.W.kitx_int I.kIn rB e (fun z=>nomatch z) h
 |str y=>obtain⟨t,q⟩:=(show∃t,u=tw y t from rx);cases q;exact lO PySem.W.kitx_str I.kIn rB e (fun z=>nomatch z) h
 |flt y=>obtain⟨t,q⟩:=(show∃t,u=Value.float y t from rx);cases q;exact lO PySem.W.kitx_float I.kIn rB e (fun z=>nomatch z) h
 | @lst a xs ea=>
  cases(show u=Value.ref a from rx)
  obtain⟨_,_,n,_,h1⟩:=(show ObjOk X.prog X.w H s.heap a (.lst xs) from I.hok a _ ea)
  exact lO PySem.W.kitx_list I.kIn ⟨_,h1,rfl⟩ e (fun z=>nomatch z) h
 | @frz a ob xs ea=>
  cases(show u=Value.ref a from rx)
  obtain⟨_,_,_,n,_,h1⟩:=(show ObjOk X.prog X.w H s.heap a (.frz ob (.lst xs)) from I.hok a _ ea)
  exact lO PySem.W.kitx_list I.kIn ⟨_,h1,rfl⟩ e (fun z=>nomatch z) h
 | @tup a xs ea=>
  cases(show u=Value.ref a from rx)
  obtain⟨_,_,_,p⟩:=(show ObjOk X.prog X.w H s.heap a (.tup xs) from I.hok a _ ea)
  obtain⟨o,h1,h2,_⟩:=p
  exact lO PySem.W.kitx_tuple I.kIn ⟨o,h1,h2⟩ e (fun z=>nomatch z) h
 | @dK a kvs ea=>
  cases(show u=Value.ref a from rx)
  obtain⟨_,_,vs,_,p⟩:=(show ObjOk X.prog X.w H s.heap a (.dK kvs) from I.hok a _ ea)
  obtain⟨o,es,ep,h1,h2,_⟩:=p
  exact lO PySem.W.kitx_dict I.kIn ⟨o,h1,h2.1⟩ e (fun z=>nomatch z) h
 | @dT a kvs ea=>
  cases(show u=Value.ref a from rx)
  obtain⟨_,_,xs,_,o,es,ep,h1,h2,_⟩:=(show ObjOk X.prog X.w H s.heap a (.dT kvs) from I.hok a _ ea)
  exact lO PySem.W.kitx_dict I.kIn ⟨o,h1,h2.1⟩ e (fun z=>nomatch z) h
 | @ins a C dx fs ea cl ha hn htk hm=>
  cases(show u=Value.ref a from rx)
  obtain⟨mA,O,_⟩:=VE I.hok ea
  obtain⟨od,J,_⟩:=O.look
  exact lO (PySem.W.kitx_own (cl.get _) cl.hd ha hn htk hm) I.kIn J e (fun z=>nomatch z) h
end
structure Room(k:Nat)(A:js):Prop where
 hd:A.handled=none
 dp:A.depth+3*k+5<recursionLimit
 un:A.units+16*k+200<cLine
 gd:A.guards=some []
theorem Room.mono{j k:Nat}{A:js}(r:Room k A)(h:j≤k):Room j A:=⟨r.hd,by have:=r.dp;omega,by have:=r.un;omega,r.gd⟩
theorem Room.deeper{k:Nat}{A:js}(r:Room (k+1) A)(env:Env):Room k (A.deeper env):=
 ⟨r.hd,by have:=r.dp;show A.depth+1+3*k+5<_;omega,by have:=r.un;show A.units+3+16*k+200<_;omega,r.gd⟩
theorem Room.depth{k:Nat}{A:js}(r:Room k A):A.depth<recursionLimit:=by have:=r.dp;omega
noncomputable def gN:TA:=fun _ H Q=>Q [] H
noncomputable def bw(ta:TE)(tr:TA):TA:=fun σ H Q=>ta σ H fun x H1=>tr σ H1 fun xs H2=>Q (x::xs) H2
section
variable{X:Cx}{e:Expr}{es:List Expr}{te:TE}{t:TA}{pos:Pos}
theorem JU:PA X [] gN:=fun _ _ _ _ H Q I h=>Calls.spliced_nil ⟨[],H,I,.nil,h⟩
theorem GG(ha:PE X e te)(hr:PA X es t)(hs:i7 (e::es) X.env=(false,eval e X.env)::i7 es X.env:=by rfl):PA X (e::es) (bw te t):=by
 intro pos pins s σ H Q I h
 rw[hs]
 show wpAny _ _ (spliced ((false,eval e X.env)::mM pos (i7 es X.env))) _ _ s
 refine Calls.spliced_cons (Az (ha pins s σ H _ I h) fun u s1 ⟨x,H1,I1,r1,q1⟩=>?_)
 exact Az (hr pos pins s1 σ H1 _ I1 q1) fun us s2 ⟨xs,H2,I2,r2,q2⟩=> ⟨x::xs,H2,I2,.cons r1 r2,q2⟩
noncomputable def gO(t:TA):TE:=fun σ H Q=>t σ H fun xs H1=>xs.length≤sizeLine∧∀p,H1 p=none→Q (.ref p) (upd H1 p (.tup xs))
noncomputable def gP(t:TA):TE:=fun σ H Q=>t σ H fun xs H1=>xs.length≤sizeLine∧∀p,H1 p=none→Q (.ref p) (upd H1 p (.lst xs))
theorem Yn{x1}(h:PA X es t):PE X (.Tuple es x1 pos) (gO t):=by
 intro pins s σ H Q I hq
 refine wpAny_Tuple_spliced (Az (h pos pins s σ H _ I hq) fun us s1 ⟨xs,H1,I1,r,z,q⟩=> ⟨by rw[←r.length];exact z,?_⟩)
 have hf:H1 s1.heap.objs.size=none:=I1.hok.fresh (jb _)
 refine⟨.ref s1.heap.objs.size,upd H1 s1.heap.objs.size (.tup xs),I1.laid (t':=s1.toks) (fun b u e=>e8 _ e) (jb _) ?_,rfl,q _ hf⟩
 exact⟨z,us,r,⟨_,jq _ rfl,rfl,_,rfl⟩⟩
theorem RO(h:PA X es t):PE X (.List es pos) (gP t):=by
 intro pins s σ H Q I hq
 refine wpAny_List_spliced (Az (h pos pins s σ H _ I hq) fun us s1 ⟨xs,H1,I1,r,z,q⟩=> ⟨by rw[←r.length];exact z,?_⟩)
 have hf:H1 s1.heap.objs.size=none:=I1.hok.fresh (jb _)
 refine⟨.ref s1.heap.objs.size,upd H1 s1.heap.objs.size (.lst xs),I1.laid (t':=s1.toks) (fun b u e=>e8 _ e) (jb _) ?_,rfl,q _ hf⟩
 exact⟨z,us,0,r,jq _ rfl⟩
end
noncomputable abbrev Sp:=List V→Hp→VK→XK→Prop
noncomputable abbrev RQ:=List Env→Hp→c9→XK→Value→c9→Prop
structure Env0(P:Program)(w:World)(K:b9)(mg:Str→Option Value)(base:Heap)(A:js)(outer:List Env)(s:c9)(H:Hp):Prop where
 frames:A.frames=some outer
 mod:Mod K mg base
 bs:∀b o,base.get? b=some o→s.heap.get? b=some o∧H b=none
 bsz:base.objs.size≤s.heap.objs.size
 funs:s.heap.FunFrames base outer
 frf:∀b∈IJ outer,H b=none
 hok:HOk P w H s.heap
 bare:qw s.gens
noncomputable def CE(outer:List Env)(P:Program)(w:World)(H:Hp)(s:c9)(Q:VK)(u:Value)(s':c9):Prop:=
 ∃v H',s'.os=s.os∧qw s'.gens∧Un (IJ outer) [] H H' s.heap s'.heap∧HOk P w H' s'.heap∧RelV v u∧Q v H'
noncomputable def CR(CX:RQ)(outer:List Env)(P:Program)(w:World)(H:Hp)(s:c9)(Q:VK)(E:XK)(r:tB)(s':c9):Prop:=
 match r with
 | .ok (.ret u)=>CE outer P w H s Q u s'
 | .ok _=>False
 | .error e=>CX outer H s E e s'
structure FnOk(P:Program)(w:World)(K:b9)(mg:Str→Option Value)(base:Heap)(CX:RQ)(k:Nat)(f:Addr)(fd:jv)(ps:List Str)(sp:Sp):Prop where
 len:∀vs H Q E,sp vs H Q E→vs.length=ps.length
 run:∀(A:js) (outer:List Env) (s:c9) (H:Hp) (args:Args) (us:List Value) (vs:List V) (Q:VK) (E:XK),Room k A→Env0 P w K mg base A outer s H→tq s fd args (ps.zip us)→Vals vs us→sp vs H Q E→
  oG (model P w) A (.call (.ref f) args) (CR CX outer P w H s Q E) s
theorem FnOk.mono{P:Program}{w:World}{K:b9}{mg:Str→Option Value}{base:Heap}{CX:RQ}{j k:Nat}{f:Addr}{fd:jv}{ps:List Str}{sp:Sp}(F:FnOk P w K mg base CX j f fd ps sp)(h:j≤k):
  FnOk P w K mg base CX k f fd ps sp:=⟨F.len,fun A outer s H args us vs Q E hr=>F.run A outer s H args us vs Q E (hr.mono h)⟩
section
variable{X:Cx}{pins:List (Addr×Obj)}{σ:St}{H:Hp}{s s':c9}
theorem Inv.env0(I:Inv X pins σ H s):Env0 X.prog X.w X.K X.mg X.base X.A X.stack s H:=
 ⟨I.ok.frames,I.ok.mod,I.bs,kG I.ok.bsz I.sz,I.stack,I.stkFree,I.hok,I.bare⟩
theorem Inv.after{Q:VK}{u:Value}(I:Inv X pins σ H s)(h:CE X.stack X.prog X.w H s Q u s'):EP X pins σ Q u s':=by
 obtain⟨v,H',os,bare,un,hok,r,q⟩:=h
 obtain⟨hh,g,d,t,os'⟩:=s'
 obtain rfl:os'=s.os:=os
 exact⟨v,H',I.call (h':=hh) (g':=g) (d':=d) (t':=t) (ch:=[]) un hok bare (fun b z=>absurd z (by simp)),r,q⟩
end
noncomputable def Binds(K:b9)(fd:jv)(ps:List Str)(ds:List Value):Prop:=
 ∀(s:c9) (us:List Value),K.In s.heap→(us++ds).length=ps.length→tq s fd ⟨us,[]⟩ (ps.zip (us++ds))
theorem Binds.all{K:b9}{fd:jv}{ps:List Str}(h:∀us:List Value,us.length=ps.length→bindArgs fd ⟨us,[]⟩=pure (ps.zip us)):Binds K fd ps []:=fun s us _ hl=>by
 rw[mj] at hl ⊢
 exact .of_eq (h us hl)
section
variable{X:Cx}{CX:RQ}{k:Nat}{f C:Addr}{fd:jv}{ps:List Str}{sp:Sp}{dvs:List V}{ds:List Value}{E:XK}{x m:Str}{p pos apos:Pos}{e o:Expr}{es:List Expr}{ta:TE}{t:TA}
end
section
variable{X:Cx}{CX:RQ}{k:Nat}{f C:Addr}{fd:jv}{ps ks:List Str}{sp:Sp}{E:XK}{x m:Str}{p pos apos kpos:Pos}{e o:Expr}{es:List Expr}{kws:List p9}{te ta:TE}{t tk:TA}{nm:Option Str}
variable{g:List Value→List Value→List Value}{gV:List V→List V→List V}
end
structure FnScope(N P:List Str)(sc:Scope):Prop where
 kind:sc.kind=.function
 co:sc.isCoroutine=false
 gen:sc.isGenerator=false
 nd:N.Nodup
 pre:N.take P.length=P
 par:∀x∈P,sc.names.lookup x=some .local∨sc.names.lookup x=some .cell
 nofree:∀y∈sc.names,y.2≠.free
theorem Ib{kindOf:Str→Option NameKind}{x:Str}:∀{binds:List (Str×Value)} {m:Str→Option Value},(∀v,(x,v)∉binds)→bindL kindOf binds m x=m x
 | [],_,_=>rfl
 | (n,v)::r,m,h=>by
  unfold bindL
  rw[Ib fun w hw=>h w (jn _ hw)]
  split
  ·have:x≠n:=by rintro rfl;exact h v j9
   simp[this]
  ·rfl
theorem Ic{kindOf:Str→Option NameKind}{x:Str}:∀{binds:List (Str×Value)} {m:Str→Option Value},(∀v,(x,v)∉binds)→bindC kindOf binds m x=m x
 | [],_,_=>rfl
 | (n,v)::r,m,h=>by
  unfold bindC
  rw[Ic fun w hw=>h w (jn _ hw)]
  split
  ·rfl
  ·have:x≠n:=by rintro rfl;exact h v j9
   simp[this]
theorem Ie{kindOf:Str→Option NameKind}{x:Str}{v:Value}:∀{P:List Str} {vs:List Value} {i:Nat} {m:Str→Option Value},P.Nodup→P[i]?=some x→vs[i]?=some v→kindOf x=some .local→
  bindL kindOf (P.zip vs) m x=some v
 | [],_,_,_,_,h,_,_=>by simp at h
 |_::_,[],_,_,_,_,h,_=>by simp at h
 |p::P,w::vs,0,m,nd,h1,h2,hk=>by
  simp at h1 h2;subst h1;subst h2
  show bindL kindOf ((p,w)::P.zip vs) m p=_
  unfold bindL
  rw[Ib fun v hv=> (kg.mp nd).1 (rO hv).1,if_pos hk]
  simp
 |p::P,w::vs,i+1,m,nd,h1,h2,hk=>by
  show bindL kindOf ((p,w)::P.zip vs) m x=_
  unfold bindL
  exact Ie (i:=i) (kg.mp nd).2 (by simpa using h1) (by simpa using h2) hk
theorem Ig{kindOf:Str→Option NameKind}{x:Str}{v:Value}:∀{P:List Str} {vs:List Value} {i:Nat} {m:Str→Option Value},P.Nodup→P[i]?=some x→vs[i]?=some v→kindOf x≠some .local→
  bindC kindOf (P.zip vs) m x=some v
 | [],_,_,_,_,h,_,_=>by simp at h
 |_::_,[],_,_,_,_,h,_=>by simp at h
 |p::P,w::vs,0,m,nd,h1,h2,hk=>by
  simp at h1 h2;subst h1;subst h2
  show bindC kindOf ((p,w)::P.zip vs) m p=_
  unfold bindC
  rw[Ic fun v hv=> (kg.mp nd).1 (rO hv).1,if_neg hk]
  simp
 |p::P,w::vs,i+1,m,nd,h1,h2,hk=>by
  show bindC kindOf ((p,w)::P.zip vs) m x=_
  unfold bindC
  exact Ig (i:=i) (kg.mp nd).2 (by simpa using h1) (by simpa using h2) hk
noncomputable def start(N:List Str)(vs:List V):St:=vs.map some++kX (N.length-vs.length) none
noncomputable def CU(CX:RQ)(P:Program)(w:World)(K:b9)(mg:Str→Option Value)(base:Heap)(N:List Str)(qual:Str)(scope:Scope)(f:Addr)(cd:Value)(A:js)(outer:List Env)(s:c9)(H:Hp)(E:XK):Cx where
 prog:=P
 w:=w
 K:=K
 mg:=mg
 base:=base
 A:=A.deeper (m9 qual scope s.heap.objs.size f cd)
 N:=N
 s₀:=s
 H₀:=H
 env:=m9 qual scope s.heap.objs.size f cd
 outer:=outer
 stack:=m9 qual scope s.heap.objs.size f cd::outer
 ex:=[]
 calm:=true
 fn:=fun _=>true
 pn:=[]
 xe:=fun e s'=>wpAny (model P w) (A.deeper (m9 qual scope s.heap.objs.size f cd)) (leaving (m9 qual scope s.heap.objs.size f cd) e) (fun _ s''=>CX outer H s E e s'') (fun e' s''=>CX outer H s E e' s'') s'
theorem Kz{sc:Scope}{n:Nat}{x:Str}(h:sc.names.lookup x=some .cell):∃c,(mf n sc.names []).lookup x=some c:=by
 have q:=PySem.W.cellsFrom_some sc.names n [] (.inl h)
 exact Option.isSome_iff_exists.mp q
theorem QD{CX:RQ}{P:Program}{w:World}{K:b9}{mg:Str→Option Value}{base:Heap}{N ps:List Str}{qual:Str}{scope:Scope}{f:Addr}{cd:Value}{A:js}{outer:List Env}{s s1:c9}{H:Hp}{E:XK}{us:List Value}{vs:List V}
  (S:FnScope N ps scope) (hd:A.handled=none) (e0:Env0 P w K mg base A outer s H) (hl:vs.length=ps.length) (r:Vals vs us)
  (x:InCallC s s.heap.objs.size (bindL (m9 qual scope s.heap.objs.size f cd).kindOf (ps.zip us) fun _=>none) (mf (s.heap.objs.size+1) scope.names []) (bindC (m9 qual scope s.heap.objs.size f cd).kindOf (ps.zip us) fun _=>none) s1):
  Inv (CU CX P w K mg base N qual scope f cd A outer s H E) [] (start N vs) H s1:=by
 have hpl:ps.length≤N.length:=by have:=congrArg List.length S.pre;rw[j8] at this;omega
 obtain⟨h1,tk,rfl,hk⟩:=x.done
 have noA:∀b:Addr,b∉(CU CX P w K mg base N qual scope f cd A outer s H E).ex:=fun b z=>absurd (show b∈([]:List Addr) from z) (by simp)
 refine⟨⟨e0.mod,S.kind,rfl,rfl,jb _,fun y z c h1 h2=>?_,fun y hy=>?_,fun y c _ h=>?_,fun _=>hd,js.frames_deeper e0.frames,.inr ⟨rfl,rfl⟩,fun b z=>absurd z (noA b),e0.bs,e0.bsz,fun b _ _=>noA b,fun b z=>absurd z (noA b),e0.funs,e0.frf⟩,
  rfl,e0.bare,Un.kept hk,⟨_,x.toInCall.ns,fun i y v h1 h2 h3=>?_⟩,fun y c h=> ⟨_,x.cell y c h⟩,e0.hok.fresh (jb _),fun y c h=>?_,fun p hp=>absurd (show p∈([]:List (Addr×Obj)) from hp) (by simp),e0.hok.kept hk,?_⟩
 ·exact name_of_addr x.apart (nO h1) (nO h2)
 ·have hy:scope.names.lookup y=some .cell∨scope.names.lookup y=some .free:=hy
  rcases hy with hy|hy
  ·exact Kz hy
  ·exact absurd rfl (S.nofree _ (nO hy))
 ·exact pK (x.above y c (nO h))
 ·have hi:i<vs.length:=by
   unfold start at h2
   by_cases hi:i<vs.length
   ·exact hi
   ·rw[jw (by simpa using hi)] at h2
    rw[mx] at h2
    split at h2<;>cases h2
  have ha:vs[i]?=some v:=by
   unfold start at h2
   rw[jz (by simpa using hi),e9] at h2
   cases e:vs[i]? with
   |none=>rw[e] at h2;cases h2
   |some a=>rw[e] at h2;cases h2;rfl
  obtain⟨u,hu,rv⟩:=r.get ha
  have hp:ps[i]?=some y:=by
   rw[←S.pre,nK (by omega)];exact h1
  have ndP:ps.Nodup:=by rw[←S.pre];exact S.nd.sublist (nH _ _)
  refine⟨u,rv,?_⟩
  rcases S.par y (i9 hp) with k|k
  ·exact .inl ⟨k,Ie ndP hp hu k⟩
  ·obtain⟨c,e⟩:=Kz (n:=s.heap.objs.size+1) k
   refine .inr ⟨.inl k,c,e,?_⟩
   have q:=x.cell y c e
   rw[Ig ndP hp hu (by show scope.names.lookup y≠_;rw[k];decide)] at q
   exact q
 ·exact e0.hok.fresh (pK (x.above y c (nO h)))
 ·unfold start
  show _=N.length
  rw[jf,e7,lS]
  omega
theorem bx{CX:RQ}{P:Program}{w:World}{K:b9}{mg:Str→Option Value}{base:Heap}{k:Nat}{f:Addr}{name qual:Str}{params:Arguments}{body:List Stmt}{scope:Scope}{dV kV doc pm cdv ct oc:Value}{an od:Option Addr}
  {osl:Array (Option Value)} {N ps:List Str} {sp:Sp} (lk:K.lookup f=some ⟨oc,od,.func (oI name qual params body scope dV kV doc pm an cdv ct),osl⟩) (hcd:rZ K cdv qual=true) (S:FnScope N ps scope)
  (len:∀vs H Q E,sp vs H Q E→vs.length=ps.length)
  (hbody:∀(A:js) (outer:List Env) (s:c9) (H:Hp) (vs:List V) (Q:VK) (E:XK),Room k (A.deeper (m9 qual scope s.heap.objs.size f cdv))→sp vs H Q E→
   ∃t,PSs (CU CX P w K mg base N qual scope f cdv A outer s H E) body t∧t {nx:=fun _ H'=>Q .non H',rt:=Q} (start N vs) H):
  FnOk P w K mg base CX (k+1) f (oI name qual params body scope dV kV doc pm an cdv ct) ps sp:=by
 refine⟨len,fun A outer s H args us vs Q E hr e0 hb r hsp=>?_⟩
 have hl:=len _ _ _ _ hsp
 have KX:K.In s.heap:=e0.mod.kin.keeps fun b o e=> (e0.bs b o e).1
 have lim:s.heap.NoLimit:=e0.mod.nolimit.keeps fun b o e=> (e0.bs b o e).1
 have hkind:∀y∈ps.zip us,scope.names.lookup y.1=some .local∨(scope.names.lookup y.1=some .cell∧((mf (s.heap.objs.size+1) scope.names []).lookup y.1).isSome=true):=fun⟨n,v⟩ hy=>by
  rcases S.par n (rO hy).1 with q|q
  ·exact .inl q
  ·exact .inr ⟨q,PySem.W.cellsFrom_some _ _ _ (.inl q)⟩
 refine codeAny_call_function hr.depth (KX _ _ lk) rfl S.co S.gen rfl (PySem.W.codeRec_of KX hcd) (hb _ _ _ _ ?_)
 refine wpAny_newFunctionEnv_cells S.kind hkind fun env he s1 x=>?_
 subst he
 refine⟨lim.keeps x.toInCall.keep,codeAny_func ?_⟩
 obtain⟨t,ht,hq⟩:=hbody A outer s H vs Q E (hr.deeper _) hsp
 have I:Inv (CU CX P w K mg base N qual scope f cdv A outer s H E) [] (start N vs) H s1:=QD S hr.hd e0 hl r x
 refine nY (ht [] s1 (start N vs) H _ I hq) (fun fl s' hs=>?_) fun e s' hs=>hs
 have fin:∀{σ':St} {H':Hp} {v:V} {u:Value},Inv (CU CX P w K mg base N qual scope f cdv A outer s H E) [] σ' H' s'→RelV v u→Q v H'→CE outer P w H s Q u s':=
  fun{σ' H' v u} J rv q=> ⟨v,H',J.os,J.bare,J.base,J.hok,rv,q⟩
 cases fl with
 |ret u=>
  obtain⟨v,σ',H',J,rv,q⟩:=hs
  exact fin J rv q
 |next=>
  obtain⟨σ',H',J,q⟩:=hs
  exact fin (v:=V.non) (u:=mV) J rfl q
 |brk=>
  obtain⟨_,_,_,q⟩:=hs
  exact nL q
 |cont=>
  obtain⟨_,_,_,q⟩:=hs
  exact nL q
section
variable{X:Cx}{x:Str}{p pos:Pos}{e:Expr}{es:List Expr}{t:TA}{id T:String}{r:List V→Hp→VK→Prop}
noncomputable def iL(r:List V→Hp→VK→Prop)(t:TA):TE:=fun σ H Q=>t σ H fun vs H1=>r vs H1 Q
theorem EZ(hc:BJ X (.builtin id) r)(hg:Gl X x)(hm:X.mg x=none)(hv:ku x=some (.builtin id))(ha:PA X (e::es) t)(hn:x≠"__name__":=by decide)(hdb:(x==("__debug__" :Str))=false:=by decide)
  (he:i7 (e::es) X.env=(false,eval e X.env)::i7 es X.env:=by rfl) (hpl:(mM pos (i7 es X.env)).any (·.1)=false:=by rfl):PE X (.Call (.Name x p) (e::es) [] pos) (iL r t):=by
 intro pins s σ H Q I h
 refine o6 (DQ I hg hm hv ?_ hn hdb)
 exact PyProof.Rows.callWith_builtin1 (Az (ha pos pins s σ H _ I h) fun us s1 ⟨vs,H1,I1,r1,q1⟩=>hc pins s1 σ H1 vs us Q I1 r1 q1) he hpl
theorem FN(hc:BJ X (.type T) r)(hg:Gl X x)(hm:X.mg x=none)(hv:ku x=some (.type T))(ha:PA X (e::es) t)(hn:x≠"__name__":=by decide)(hdb:(x==("__debug__" :Str))=false:=by decide)
  (he:i7 (e::es) X.env=(false,eval e X.env)::i7 es X.env:=by rfl) (hpl:(mM pos (i7 es X.env)).any (·.1)=false:=by rfl):PE X (.Call (.Name x p) (e::es) [] pos) (iL r t):=by
 intro pins s σ H Q I h
 refine o6 (DQ I hg hm hv ?_ hn hdb)
 exact my (Az (ha pos pins s σ H _ I h) fun us s1 ⟨vs,H1,I1,r1,q1⟩=>hc pins s1 σ H1 vs us Q I1 r1 q1) he hpl
end
end L2
namespace HT
open PySem PyProof.Rows
noncomputable def Bo:List Int→List Int→Bool
 | [],[]=>false
 | [],_::_=>true
 |_::_,[]=>false
 |x::xs,y::ys=>if x=y then Bo xs ys else decide (x<y)
theorem Mo(x y:Int)(xs ys:List Int):Bo (x::xs) (y::ys)=if x=y then Bo xs ys else decide (x<y):=rfl
theorem IL:Bo [] []=false:=rfl
theorem HB(y:Int)(ys:List Int):Bo [] (y::ys)=true:=rfl
theorem HC(x:Int)(xs:List Int):Bo (x::xs) []=false:=rfl
theorem LA(A:js)(s:c9)(a:Int)(t:Tok)(c:Int)(u:Tok):∃e,k9 A s (.int a t) (.int c u) e∧(e=true↔a=c):=
 ⟨(a==c),k9.int_int a t c u,by simp⟩
theorem RS(A:js)(s:c9)(a:Int)(t:Tok)(c:Int)(u:Tok)(prog:Program)(w:World)(E:Value→c9→Prop)(Q:Value→c9→Prop)(h:Q (.bool (decide (a<c))) s):
  wpAny (model prog w) A (tF .Lt (.int a t) (.int c u)) Q E s:=
 (PyProof.Rows.lt_int h:wpAny (model prog w) A (kR .Lt (.int a t) (.int c u)) Q E s)
section
open PySem.SeqAt
open PySem.AutoSeq1 (wpAny_loadPart')
open PySem.MeetsSeq PySem.MeetsSeq2 PySem.MeetsSeq3
theorem IM(l b:Addr)(items items2:Array Value)(n n2:Nat)(dd dd2:Option Addr)(sl sl2:Array (Option Value))(ns ms:List Int)(hi:mQ items.toList ns)(hj:mQ items2.toList ms):
  Meets (Builtin.«tuple.__lt__» ⟨[.ref l,.ref b],[]⟩)
   (fun _ R s=>s.heap.get? l=some {cls:=.type "tuple",dict:=dd,data:=.seq items n,slots:=sl}∧s.heap.get? b=some {cls:=.type "tuple",dict:=dd2,data:=.seq items2 n2,slots:=sl2}∧
    R (.ok (.ret (.bool (Bo ns ms)))) s):=
 .of_wp fun prog w A R s h=>by
  obtain⟨hp,g,d,tk,os⟩:=s;obtain⟨hl,hb,h⟩:=h
  have f2:=oV
  have z1:items.size=ns.length:=by rw[←hi.length];simp
  have z2:items2.size=ms.length:=by rw[←hj.length];simp
  wp_walk using nz hl,nz hb,oF _ (fun rest b s'=>b.1=none∧s'=⟨hp,g,d,tk,os⟩∧∃(vs ws:List Value) (ns' ms':List Int),rest=vs.zip ws∧
   mQ vs ns'∧mQ ws ms'∧ns'.length+items2.size=ms'.length+items.size∧R (.ok (.ret (.bool (Bo ns' ms')))) ⟨hp,g,d,tk,os⟩) _
  case turn=>
   rintro⟨y,x⟩ rest b s' ⟨hb',rfl,vs,ws,ns',ms',hz,hvi,hwi,hlen,hR⟩
   cases hvi with
   |nil=>rw[List.zip_nil_left] at hz;cases hz
   |cons a t hvi'=>
    cases hwi with
    |nil=>rw[List.zip_nil_right] at hz;cases hz
    |cons c u hwi'=>
     rw[n9] at hz
     injection hz with hyx hrest
     injection hyx with hy hx
     subst hy hx
     rw[Mo] at hR
     simp only[jm] at hlen
     obtain⟨e,he,hiff⟩:=LA A.in1 ⟨hp,g,d,tk,os⟩ a t c u
     refine b6 (he prog w _ _ ?_)
     cases e with
     |true=>
      rw[if_pos (hiff.mp rfl)] at hR
      wp_walk
      exact⟨rfl,rfl,_,_,_,_,hrest,hvi',hwi',by omega,hR⟩
     |false=>
      rw[if_neg (fun q=>absurd (hiff.mpr q) i5)] at hR
      have hri:=RS A.in1 ⟨hp,g,d,tk,os⟩ a t c u prog w
      wp_walk using hri
      exact⟨_,rfl,by simpa using hR⟩
  case fin=>
   rintro⟨b1,b2⟩ s' ⟨hb',rfl,vs,ws,ns',ms',hz,hvi,hwi,hlen,hR⟩
   simp only at hb'
   subst hb'
   have hv:Bo ns' ms'=decide (items.size<items2.size):=by
    cases hvi with
    |nil=>
     cases hwi with
     |nil=>
      simp only[lB] at hlen
      rw[IL]
      exact(decide_eq_false (by omega)).symm
     |cons c u hw=>
      simp only[lB,jm] at hlen
      rw[HB]
      exact(decide_eq_true (by omega)).symm
    |cons a t hv=>
     cases hwi with
     |nil=>
      simp only[lB,jm] at hlen
      rw[HC]
      exact(decide_eq_false (by omega)).symm
     |cons c u hw=>
      rw[n9] at hz
      cases hz
   rw[hv] at hR
   wp_walk
   exact⟨_,rfl,by simpa[Builtin.Tuple.tupleCompareSizes] using hR⟩
  case h=>
   exact⟨rfl,rfl,items.toList,items2.toList,ns,ms,rfl,hi,hj,by omega,h⟩
end
section
variable{prog:Program}{w:World}{A:js}{E:Value→c9→Prop}{s:c9}
theorem Mp{l b:Addr}{items items2:Array Value}{ns ms:List Int}{Q:Value→c9→Prop}(hl:IsTup s.heap l items)(hb:IsTup s.heap b items2)(hi:mQ items.toList ns)(hj:mQ items2.toList ms)
  (hu:A.units<cLine) (h:Q (.bool (Bo ns ms)) s):wpAny (model prog w) A (kR .Lt (.ref l) (.ref b)) Q E s:=by
 obtain⟨⟨cls,dd,data,sl⟩,ho,hc,n,hd⟩:=id hl
 obtain⟨⟨cls2,dd2,data2,sl2⟩,ho2,hc2,n2,hd2⟩:=id hb
 simp only at hc hd hc2 hd2
 subst hc hd hc2 hd2
 exact richCompare_meets_room (op:=.Lt) ⟨_,ho,rfl⟩ ⟨_,ho2,rfl⟩ PySem.F.slot_tuple_lt PySem.F.entry_tuple_lt (PySem.F.args_tuple_lt_2 _ _) (IM l b items items2 n n2 dd dd2 sl sl2 ns ms hi hj)
  ⟨ho,ho2,show o8 (Bo ns ms)≠Value.notImplemented∧Q (.bool (Bo ns ms)) s from⟨(fun x=>nomatch x),h⟩⟩ hu
theorem VF{t b:Addr}{vs ws:List Value}{Q:Value→c9→Prop}(ht:IsTup s.heap t vs.toArray)(hb:IsTup s.heap b ws.toArray)(hv:vs≠[])
  (h1:ws=[]→Q (.ref t) s) (h2:ws≠[]→Q (.ref s.heap.objs.size) {s with heap:=s.heap.push {cls:=.type "tuple",data:=.seq (vs++ws).toArray}})
  (hsz:vs.length+ws.length≤sizeLine):wpAny (model prog w) A (nF .Add (.ref t) (.ref b)) Q E s:=by
 obtain⟨⟨cls,dd,data,sl⟩,ho,hc,n,hd⟩:=id ht
 obtain⟨⟨cls2,dd2,data2,sl2⟩,ho2,hc2,n2,hd2⟩:=id hb
 simp only at hc hd hc2 hd2
 subst hc hd hc2 hd2
 have e:vs.toArray++ws.toArray=(vs++ws).toArray:=by simp
 by_cases hw:ws=[]
 ·exact sP ⟨_,ho,rfl⟩ ⟨_,ho2,rfl⟩ qZ sC pI pB (oR _ _)
   (tuple_addW1 t b vs.toArray ws.toArray n n2 dd dd2 sl sl2 (by simpa using hv) (by simp[hw])) ⟨ho,ho2,h1 hw⟩
 ·refine sP ⟨_,ho,rfl⟩ ⟨_,ho2,rfl⟩ qZ sC pI pB (oR _ _)
   (tuple_addW2 t b vs.toArray ws.toArray n n2 dd dd2 sl sl2 (by simpa using hv) (by simpa using hw) (by rw[ji,ji];exact hsz)) ⟨ho,ho2,?_⟩
  rw[e]
  exact h2 hw
noncomputable def BO(n d:Nat):Option Int→Nat
 |none=>d
 |some v=>if v<0 then(v+(n:Int)).toNat else min v.toNat n
theorem LB(n d:Nat):BO n d none=d:=rfl
theorem OP(n d k:Nat):BO n d (some (k:Int))=min k n:=by
 show(if(k:Int)<0 then((k:Int)+(n:Int)).toNat else min (k:Int).toNat n)=min k n
 rw[if_neg (by omega),kH]
theorem Yo(n d:Nat)(hd:d≤n)(o:Option Int):BO n d o≤n:=by
 cases o with
 |none=>exact hd
 |some v=>
  show(if v<0 then(v+(n:Int)).toNat else min v.toNat n)≤n
  by_cases hv:v<0
  ·rw[if_pos hv];omega
  ·rw[if_neg hv];exact Nat.min_le_right _ _
theorem OQ(v:Int)(n d:Nat):(if v<0 then max (v+(n:Int)) 0 else min v (n:Int))=((BO n d (some v):Nat):Int):=by
 show(if v<0 then max (v+(n:Int)) 0 else min v (n:Int))=(((if v<0 then(v+(n:Int)).toNat else min v.toNat n):Nat):Int)
 by_cases hv:v<0
 ·simp only[if_pos hv];omega
 ·simp only[if_neg hv];omega
theorem Mq(lo hi:Option Int)(n:Nat):oM lo hi 1 (n:Int)=(((BO n 0 lo:Nat):Int),((BO n n hi:Nat):Int)):=by
 have h1:¬((1:Int)<0):=by omega
 unfold oM
 simp only[h1,if_false]
 refine kW ?_ ?_
 ·cases lo with
  |none=>rfl
  |some v=>exact OQ v n 0
 ·cases hi with
  |none=>rfl
  |some v=>exact OQ v n n
theorem Mr(i j:Nat):nv (i:Int) (j:Int) 1=j-i:=by
 unfold nv
 have h1:(1:Int)>0:=by omega
 simp only[h1,if_true,Int.ediv_one]
 split<;>omega
theorem HD{v:Value}{o:Option Int}{Q:Option Int→c9→Prop}(p:rH v o)(h:Q o s):wpAny (model prog w) A (Builtin.Slice.slicePartIndex v) Q E s:=by
 cases p with
 |none=>exact slicePart_none h
 |int i t=>exact slicePart_int h
theorem Cc{sl:Addr}{vl vu:Value}{lo hi:Option Int}{n:Nat}{Q:Int×Int×Nat→c9→Prop}(hs:s.heap.IsSliceOf sl vl vu .none)(pl:rH vl lo)(pu:rH vu hi)
  (h:Q (((BO n 0 lo:Nat):Int),1,BO n n hi-BO n 0 lo) s):wpAny (model prog w) A (Builtin.Slice.sliceApplied (.ref sl) (pure (n:Int))) Q E s:=by
 obtain⟨os,hos,hcs,hds⟩:=id hs
 unfold Builtin.Slice.sliceApplied Builtin.Slice.sliceFields
 refine b6 (b6 (ma hos hds (x:=vl) rfl (b6 (ma hos hds (x:=vu) rfl (b6 (ma hos hds (x:=.none) rfl (e6 ?_)))))))
 refine b6 (slicePart_none ?_)
 show wpAny _ _ (if((1:Int)==0)=true then _ else _) _ _ s
 rw[if_neg (by decide)]
 refine b6 (HD pl (b6 (HD pu (b6 (e6 ?_)))))
 show wpAny _ _ (match oM lo hi 1 (n:Int) with| (lo,hi)=>pure (lo,(1:Int),nv lo hi 1)) _ _ s
 rw[Mq lo hi n]
 show wpAny _ _ (pure (((BO n 0 lo:Nat):Int),(1:Int),nv ((BO n 0 lo:Nat):Int) ((BO n n hi:Nat):Int) 1)) _ _ s
 rw[Mr]
 exact e6 h
theorem RU(xs:Array Value)(i k:Nat):((j6 k).filterMap fun(m:Nat)=>xs[((i:Int)+(m:Int)*1).toNat]?).toArray=((xs.toList.drop i).take k).toArray:=by
 have e:(fun(m:Nat)=>xs[((i:Int)+(m:Int)*1).toNat]?)=fun m=>xs[i+m]?:=by
  funext m
  have:((i:Int)+(m:Int)*1).toNat=i+m:=by omega
  rw[this]
 rw[e]
 have:=pick_run xs i k
 rw[List.filterMap_map] at this
 have e2:((fun x=>xs[x]?)∘fun x=>i+x)=fun m=>xs[i+m]?:=rfl
 rw[e2] at this
 rw[this]
theorem Ea{t sl:Addr}{items:Array Value}{vl vu:Value}{lo hi:Option Int}{Q:Value→c9→Prop}(ht:IsTup s.heap t items)(hs:s.heap.IsSliceOf sl vl vu .none)(pl:rH vl lo)(pu:rH vu hi)
  (hw:¬(BO items.size 0 lo=0∧BO items.size items.size hi=items.size))
  (h:Q (.ref s.heap.objs.size) {s with heap:=s.heap.push {cls:=.type "tuple",data:=.seq ((items.toList.drop (BO items.size 0 lo)).take (BO items.size items.size hi-BO items.size 0 lo)).toArray}})
  (hsz:items.size≤sizeLine):wpAny (model prog w) A (sr (.ref t) (.ref sl)) Q E s:=by
 have htake:sizeOk (.seq ((items.toList.drop (BO items.size 0 lo)).take (BO items.size items.size hi-BO items.size 0 lo)).toArray):=by
  show((items.toList.drop (BO items.size 0 lo)).take (BO items.size items.size hi-BO items.size 0 lo)).toArray.size≤sizeLine
  rw[ji,j8,mN,jg]
  omega
 have hj:BO items.size items.size hi≤items.size:=Yo _ _ (jb _) hi
 obtain⟨os,hos,hcs,hds⟩:=id hs
 have hTs:s.TypeIs (.ref sl) "slice":=⟨os,hos,hcs⟩
 unfold sr
 try with_reducible refine kh ?_
 first|refine b6 (e6 ?_)|skip
 refine b6 (wpAny_sequenceKey ht.typeIs (by decide) ?_)
 refine b6 (lE (name:=nZ "__getitem__") ht.typeIs ly
  (lD ly ht.typeIs entry_tuple_getitem ?_ (args_tuple_getitem _ _)))
 show wpAny _ _ (Builtin.Tuple.tupleItemsOf (.ref t)>>=_) _ _ s
 refine b6 (tupleItemsOf_ ht ?_)
 refine b6 (qt hTs ?_)
 rw[if_pos (by decide)]
 refine b6 (Cc hs pl pu ?_)
 have hno:¬((((BO items.size 0 lo:Nat):Int)==0&&(1:Int)==1&&(BO items.size items.size hi-BO items.size 0 lo)==items.size)=true):=by
  intro q
  rw[km,km] at q
  have q1:((BO items.size 0 lo:Nat):Int)=0:=eq_of_beq q.1.1
  have q2:BO items.size items.size hi-BO items.size 0 lo=items.size:=eq_of_beq q.2
  exact hw ⟨by omega,by omega⟩
 show wpAny _ _ (if(((BO items.size 0 lo:Nat):Int)==0&&(1:Int)==1&&(BO items.size items.size hi-BO items.size 0 lo)==items.size)=true then _ else _) _ _ s
 rw[if_neg hno,RU]
 first
  |exact b6 (m:=nM _) (lh (e6 ⟨_,rfl,e6 h⟩) htake)
  |exact b6 (m:=nM _) (lh (b6 (e6 (e6 ⟨_,rfl,e6 h⟩))) htake)
  |exact b6 (b6 (m:=nM _) (lh (e6 (e6 ⟨_,rfl,e6 h⟩)) htake))
  |exact b6 (b6 (m:=nM _) (lh (e6 ⟨_,rfl,e6 h⟩) htake))
end
end HT
namespace L2
open PySem PySem.Spec PyProof.Rows
noncomputable abbrev TO:=St→Hp→(Option Int→Hp→Prop)→Prop
noncomputable def PO(X:Cx)(e:Option Expr)(t:TO):Prop:=
 ∀(pins:List (Addr×Obj)) (s:c9) (σ:St) (H:Hp) (Q:Option Int→Hp→Prop),Inv X pins σ H s→t σ H Q→
  wpAny (model X.prog X.w) X.A (evalPart e X.env) (fun u s'=>∃o H',Inv X pins σ H' s'∧rH u o∧Q o H') X.xe s
noncomputable def VG:TO:=fun _ H Q=>Q none H
noncomputable def bz(t:TE):TO:=fun σ H Q=>t σ H fun x H1=>∃i,x=.int i∧Q (some i) H1
theorem Bj{ns:List Int}:∀{us:List Value},Vals (ns.map V.int) us→mQ us ns:=by
 induction ns with
 |nil=>intro us r;rw[mP] at r;cases r;exact .nil
 |cons n ns ih=>
  intro us r
  rw[jr] at r
  cases r with
  |cons r1 r2=>
   obtain⟨t,e⟩:=r1
   subst e
   exact .cons n t (ih r2)
section
variable{X:Cx}{e:Expr}{te:TE}{lo hi:Option Expr}{tl th:TO}{pos p2:Pos}
theorem JV:PO X none VG:=by
 intro pins s σ H Q I h
 rw[evalPart_none]
 exact e6 ⟨none,H,I,.none,h⟩
theorem Eb(h:PE X e te):PO X (some e) (bz te):=by
 intro pins s σ H Q I hw
 rw[evalPart_some]
 refine Az (h pins s σ H _ I hw) fun u s1 ⟨x,H1,I1,r1,q1⟩=>?_
 obtain⟨i,rfl,q⟩:=q1
 obtain⟨t,rfl⟩:=r1
 exact⟨some i,H1,I1,.int i t,q⟩
noncomputable def fY(X:Cx)(r:V→Option Int→Option Int→Hp→VK→Prop):Prop:=
 ∀(pins:List (Addr×Obj)) (s:c9) (σ:St) (H:Hp) (x:V) (v vl vu:Value) (lo hi:Option Int) (sl:Addr) (Q:VK),Inv X pins σ H s→RelV x v→s.heap.IsSliceOf sl vl vu .none→rH vl lo→rH vu hi→r x lo hi H Q→
  ∃T id,typeLookup (.type T) "__getitem__" =pure (some (.builtin id))∧s.TypeIs v T∧wpAny (model X.prog X.w) X.A (sr v (.ref sl)) (EP X pins σ Q) X.xe s
noncomputable def ig(r:V→Option Int→Option Int→Hp→VK→Prop)(te:TE)(tl th:TO):TE:=fun σ H Q=>te σ H fun x H1=>tl σ H1 fun l H2=>th σ H2 fun u H3=>r x l u H3 Q
theorem Ec{r:V→Option Int→Option Int→Hp→VK→Prop}(hr:fY X r)(he:PE X e te)(hl:PO X lo tl)(hu:PO X hi th):PE X (.Subscript e (.Slice lo hi none p2) pos) (ig r te tl th):=by
 intro pins s σ H Q I h
 refine Subscript_ (Az (he pins s σ H _ I h) fun v s1 ⟨x,H1,I1,r1,q1⟩=>?_)
 refine wpAny_Slice (Az (hl pins s1 σ H1 _ I1 q1) fun vl s2 ⟨l,H2,I2,pl,q2⟩=>Az (hu pins s2 σ H2 _ I2 q2) fun vu s3 ⟨u,H3,I3,pu,q3⟩=>?_)
 rw[evalPart_none]
 refine e6 ?_
 have I4:Inv X pins σ H3 {s3 with heap:=s3.heap.push {cls:=.type "slice",data:=.fields #[vl,vu,.none]}}:=I3.kept (t':=s3.toks) fun b ob q=>e8 _ q
 obtain⟨T,id,hT,ht,hg⟩:=hr pins {s3 with heap:=s3.heap.push {cls:=.type "slice",data:=.fields #[vl,vu,.none]}} σ H3 x v vl vu l u s3.heap.objs.size Q I4 r1 (Heap.IsSliceOf.new ..) pl pu q3
 show wpAny (model X.prog X.w) X.A (subscriptTail e (.Slice lo hi none p2) v (.ref s3.heap.objs.size)) (EP X pins σ Q) X.xe {s3 with heap:=s3.heap.push {cls:=.type "slice",data:=.fields #[vl,vu,.none]}}
 exact tail_any (ops:=[.ref s3.heap.objs.size,v]) ht hT hg (by with_unfolding_all rfl)
noncomputable def FO(xs:List V)(lo hi:Option Int):List V:=(xs.drop (HT.BO xs.length 0 lo)).take (HT.BO xs.length xs.length hi-HT.BO xs.length 0 lo)
theorem Fp(xs:List V)(lo hi:Option Int):(FO xs lo hi).length≤xs.length:=by
 unfold FO
 rw[j8,mN]
 omega
noncomputable def gQ(K:b9):V→Option Int→Option Int→Hp→VK→Prop:=fun x lo hi H Q=>∃a xs,x=.ref a∧DN K H a xs∧
 ¬(HT.BO xs.length 0 lo=0∧HT.BO xs.length xs.length hi=xs.length)∧∀p,H p=none→Q (.ref p) (upd H p (.tup (FO xs lo hi)))
theorem Yp:fY X (gQ X.K):=by
 intro pins s σ H x v vl vu lo hi sl Q I rx hs pl pu h
 obtain⟨a,xs,rfl,hx,hw,q⟩:=h
 cases rx
 obtain⟨its,r,ht,hz⟩:=I.tuple hx
 have hlen:its.toArray.size=xs.length:=by rw[ji];exact r.length.symm
 refine⟨"tuple",_,ly.lookup,ht.typeIs,?_⟩
 refine HT.Ea ht hs pl pu (by rw[hlen];exact hw) ?_ (by rw[hlen];exact hz)
 rw[hlen]
 refine⟨.ref s.heap.objs.size,_,I.laid (t':=s.toks) (o:=.tup (FO xs lo hi)) (fun b ob q=>e8 _ q) (jb _) ?_,rfl,q _ (I.hok.fresh (jb _))⟩
 exact⟨kG (Fp xs lo hi) hz,_,(r.drop (HT.BO xs.length 0 lo)).take (HT.BO xs.length xs.length hi-HT.BO xs.length 0 lo),IsTup.new _ _⟩
noncomputable def cA(K:b9):R2:=fun x y H Q=>∃a b ns ms,x=.ref a∧y=.ref b∧DN K H a (ns.map V.int)∧DN K H b (ms.map V.int)∧Q (.bl (HT.Bo ns ms)) H
theorem Yq(hu:X.A.units<cLine):Cb X (kR .Lt) (cA X.K):=by
 intro pins s σ H x y v u Q I rx ry h
 obtain⟨a,b,ns,ms,rfl,rfl,ha,hb,q⟩:=h
 cases rx
 cases ry
 obtain⟨its,r1,p1,_⟩:=I.tuple ha
 obtain⟨its2,r2,p2,_⟩:=I.tuple hb
 have i1:mQ its.toArray.toList ns:=Bj r1
 have i2:mQ its2.toArray.toList ms:=Bj r2
 exact HT.Mp p1 p2 i1 i2 hu ⟨.bl (HT.Bo ns ms),H,I,rfl,q⟩
noncomputable def cB(K:b9):R2:=fun x y H Q=>∃a b xs ys,x=.ref a∧y=.ref b∧DN K H a xs∧DN K H b ys∧xs≠[]∧xs.length+ys.length≤sizeLine∧
 (ys=[]→Q (.ref a) H)∧(ys≠[]→∀p,H p=none→Q (.ref p) (upd H p (.tup (xs++ys))))
theorem Vals.nil_iff{xs:List V}{us:List Value}(r:Vals xs us):us=[]↔xs=[]:=by
 cases r with
 |nil=>simp
 |cons _ _=>simp
theorem VH:Cb X (nF .Add) (cB X.K):=by
 intro pins s σ H x y v u Q I rx ry h
 obtain⟨a,b,xs,ys,rfl,rfl,ha,hb,hx,hz,q1,q2⟩:=h
 cases rx
 cases ry
 obtain⟨its,r1,p1,_⟩:=I.tuple ha
 obtain⟨its2,r2,p2,_⟩:=I.tuple hb
 refine HT.VF p1 p2 (fun z=>hx (r1.nil_iff.mp z)) (fun z=> ⟨.ref a,H,I,rfl,q1 (r2.nil_iff.mp z)⟩) (fun z=>?_) (by rw[←r1.length,←r2.length];exact hz)
 refine⟨.ref s.heap.objs.size,_,I.laid (t':=s.toks) (o:=.tup (xs++ys)) (fun b ob q=>e8 _ q) (jb _) ?_,rfl,q2 (fun w=>z (r2.nil_iff.mpr w)) _ (I.hok.fresh (jb _))⟩
 exact⟨by rw[jf];exact hz,_,r1.append r2,IsTup.new _ _⟩
end
noncomputable def QE(n:Nat)(i:Int):Option Nat:=if 0≤i then(if i<n then some i.toNat else none) else if-(n:Int)≤i then some (i+n).toNat else none
noncomputable def atI{α:Type}(xs:List α)(i:Int):Option α:=(QE xs.length i).bind fun j=>xs[j]?
theorem OR{n:Nat}{i:Int}{j:Nat}(h:QE n i=some j):seqIndex? i n=some j∧j<n∧-(n:Int)≤i∧i<n:=by
 unfold QE at h
 by_cases h0:0≤i
 ·rw[if_pos h0] at h
  by_cases h1:i<n
  ·rw[if_pos h1] at h
   have e:i.toNat=j:=ki.inj h
   exact⟨by rw[tE h0 h1,e],by omega,by omega,h1⟩
  ·rw[if_neg h1] at h;cases h
 ·rw[if_neg h0] at h
  by_cases h1: -(n:Int)≤i
  ·rw[if_pos h1] at h
   have e:(i+n).toNat=j:=ki.inj h
   exact⟨by rw[seqIndex_neg (by omega) h1,e],by omega,h1,by omega⟩
  ·rw[if_neg h1] at h;cases h
theorem OS{α:Type}{xs:List α}{i:Int}{v:α}(h:atI xs i=some v):∃j,seqIndex? i xs.length=some j∧xs[j]?=some v∧j<xs.length∧-(xs.length:Int)≤i∧i<xs.length:=by
 unfold atI at h
 cases e:QE xs.length i with
 |none=>rw[e] at h;cases h
 |some j=>
  rw[e] at h
  obtain⟨h1,h2,h3,h4⟩:=OR e
  exact⟨j,h1,h,h2,h3,h4⟩
theorem BP{α:Type}{xs:List α}{j:Nat}{v:α}(h:xs[j]?=some v):atI xs (j:Int)=some v:=by
 have hj:j<xs.length:=(jc.mp h).1
 have e:QE xs.length (j:Int)=some j:=by
  unfold QE
  rw[if_pos (by omega),if_pos (by omega)];simp
 unfold atI;rw[e];exact h
theorem LD{α:Type}(xs:List α)(v:α):atI (xs++[v]) (-1)=some v:=by
 have hl:(xs++[v]).length=xs.length+1:=by simp
 have e:QE (xs++[v]).length (-1)=some xs.length:=by
  unfold QE
  rw[hl,if_neg (by decide),if_pos (by omega)]
  congr 1
  omega
 unfold atI
 rw[e]
 show(xs++[v])[xs.length]?=some v
 simp
noncomputable def Dk(b:Expr):Prop:=∀o i,subscripted b false o i=operate [o,i] (sr o i)
noncomputable def cC(X:Cx)(r:R2):Prop:=
 ∀(value slice:Expr) (pins:List (Addr×Obj)) (s:c9) (σ:St) (H:Hp) (x y:V) (v u:Value) (Q:VK),Inv X pins σ H s→RelV x v→RelV y u→r x y H Q→
  subscripted slice false v u=operate [v,u] (sr v u)→wpAny (model X.prog X.w) X.A (subscriptTail value slice v u) (EP X pins σ Q) X.xe s
noncomputable def iM(X:Cx)(id:String)(r:V→List V→Hp→VK→Prop):Prop:=
 ∀(pins:List (Addr×Obj)) (s:c9) (σ:St) (H:Hp) (x:V) (xs:List V) (v:Value) (us:List Value) (Q:VK),Inv X pins σ H s→RelV x v→Vals xs us→r x xs H Q→
  wpAny (model X.prog X.w) X.A (call (.builtin id) (v::us)) (EP X pins σ Q) X.xe s
section
variable{X:Cx}{a b:Expr}{ta tb:TE}{pos:Pos}
theorem XT{r:R2}(hr:cC X r)(ha:PE X a ta)(hb:PE X b tb)(hs:Dk b):PE X (.Subscript a b pos) (bb r ta tb):=by
 intro pins s σ H Q I h
 exact Subscript_ (Yc ha hb I h fun v u s2 x y H2 I2 rx ry q=>hr a b pins s2 σ H2 x y v u Q I2 rx ry q (hs _ _))
noncomputable def Yr(K:b9):R2:=fun x y H Q=>∃p xs i v,x=.ref p∧y=.int i∧CM K H p xs∧atI xs i=some v∧Q v H
noncomputable def cD(K:b9):R2:=fun x y H Q=>∃p xs i v,x=.ref p∧y=.int i∧DN K H p xs∧atI xs i=some v∧Q v H
theorem Ed:cC X (Yr X.K):=by
 intro value slice pins s σ H x y v u Q I rx ry h hs
 obtain⟨p,xs,i,z,rfl,rfl,hq,he,q⟩:=h
 cases rx
 obtain⟨t,rfl⟩:=ry
 obtain⟨its,r,pl,hz⟩:=I.list hq
 obtain⟨j,h1,h2,h3,h4,h5⟩:=OS he
 obtain⟨w,ew,rw'⟩:=r.get h2
 have hl:=r.length
 have hn:=FM
 have fin:EP X pins σ Q w s:=⟨z,H,I,rw',q⟩
 by_cases h0:0≤i
 ·have hj:i.toNat=j:=by
   rw[tE h0 h5] at h1
   exact ki.inj h1
  exact item_listR pl.isList h0 (by omega) (by rw[hj];simpa using ew) fin hs
 ·have hj:(i+(its.toArray.size:Int)).toNat=j:=by
   rw[seqIndex_neg (by omega) h4] at h1
   rw[ji,←hl]
   exact ki.inj h1
  exact subscriptTail_builtinR (x:=w) pl.isList.typeIs slot_list_getitem.lookup
   (wpAny_getItem_list_neg (Q:=fun r s'=>r=w∧EP X pins σ Q r s') pl.isList (by omega) (by rw[ji]<;>omega) (by omega) (by rw[hj];simpa using ew) ⟨rfl,fin⟩) hs
theorem RV:cC X (cD X.K):=by
 intro value slice pins s σ H x y v u Q I rx ry h hs
 obtain⟨p,xs,i,z,rfl,rfl,hq,he,q⟩:=h
 cases rx
 obtain⟨t,rfl⟩:=ry
 obtain⟨its,r,pl,hz⟩:=I.tuple hq
 obtain⟨j,h1,h2,h3,h4,h5⟩:=OS he
 obtain⟨w,ew,rw'⟩:=r.get h2
 have hl:=r.length
 have hn:=FM
 have fin:EP X pins σ Q w s:=⟨z,H,I,rw',q⟩
 exact subscriptTail_builtinR (x:=w) pl.typeIs slot_tuple_getitem.lookup
  (getItem_tuple (j:=j) (Q:=fun r s'=>r=w∧EP X pins σ Q r s') pl (by omega) (by omega) (by rw[ji,←hl];exact h1) (by simpa using ew) ⟨rfl,fin⟩) hs
theorem Ms(its:List Value)(n j:Nat)(u:Value):lW (·.setIfInBounds j u) {cls:=.type "list",data:=.seq its.toArray n}={cls:=.type "list",data:=.seq (its.set j u).toArray n}:=by
 simp[lW]
theorem Inv.lst{pins:List (Addr×Obj)}{σ:St}{H:Hp}{s:c9}{p:Addr}{xs:List V}(I:Inv X pins σ H s)(h:H p=some (.lst xs)):
  ∃(its:List Value) (n:Nat),Vals xs its∧s.heap.get? p=some {cls:=.type "list",data:=.seq its.toArray n}∧xs.length≤sizeLine:=by
 obtain⟨z,its,n,r,e⟩:=I.hok p _ h
 exact⟨its,n,r,e,z⟩
theorem Inv.lstUpd{pins:List (Addr×Obj)}{σ:St}{H:Hp}{s:c9}{p:Addr}{xs ys:List V}{its its':List Value}{n n':Nat}{f:Obj→Obj}(I:Inv X pins σ H s)(h:H p=some (.lst xs))
  (ho:s.heap.get? p=some {cls:=.type "list",data:=.seq its.toArray n}) (hf:f {cls:=.type "list",data:=.seq its.toArray n}={cls:=.type "list",data:=.seq its'.toArray n'}) (r:Vals ys its') (hz:ys.length≤sizeLine) (t:Nat):
  Inv X pins σ (upd H p (.lst ys)) {s with heap:=s.heap.update p f,toks:=t}:=by
 have e:(s.heap.update p f).get? p=some {cls:=.type "list",data:=.seq its'.toArray n'}:=by
  rw[nu f ho (by rw[hf]<;>rfl),hf]
 refine I.write (x:=p) (e:=p) (by rw[h];trivial) (.inl rfl) (fun b u hb q=> (lY _ _ (Ne.symm hb)).trans q) ⟨_,e⟩ ?_
 exact⟨hz,its',n',r,e⟩
noncomputable def cE:V→V→V→Hp→(Hp→Prop)→Prop:=fun o i v H Q=>∃p xs k j,o=.ref p∧i=.int k∧H p=some (.lst xs)∧QE xs.length k=some j∧Q (upd H p (.lst (xs.set j v)))
theorem RW:bT X cE:=by
 intro pins s σ H o i v ov iv u Q I ro ri rv h
 obtain⟨p,xs,k,j,rfl,rfl,hp,hj,q⟩:=h
 cases ro
 obtain⟨t,rfl⟩:=ri
 obtain⟨its,n,r,ho,hz⟩:=I.lst hp
 obtain⟨h1,h2,h3,h4⟩:=OR hj
 have hl:=r.length
 have hn:=FM
 have I':Inv X pins σ (upd H p (.lst (xs.set j v))) {s with heap:=s.heap.update p (lW (·.setIfInBounds j u))}:=
  I.lstUpd hp ho (Ms its n j u) (r.set rv j) (by rw[nA];exact hz) s.toks
 by_cases h0:0≤k
 ·have hk:k.toNat=j:=by
   rw[tE h0 h4] at h1
   exact ki.inj h1
  exact PySem.W.ki_setAt ho h0 (by omega) (by rw[ji,←hl];exact h4) (by rw[hk];exact⟨_,I',q⟩)
 ·have hk:(k+(its.toArray.size:Int)).toNat=j:=by
   rw[seqIndex_neg (by omega) h3] at h1
   rw[ji,←hl]
   exact ki.inj h1
  exact PySem.W.ki_setBack ho (by omega) (by rw[ji,←hl];exact h3) (by omega) (by rw[hk];exact⟨_,I',q⟩)
theorem JW(lo hi:Option Int)(n:Nat):(pq lo hi none n).1=((HT.BO n 0 lo:Nat):Int)∧(pq lo hi none n).2.1=((HT.BO n n hi:Nat):Int)∧(pq lo hi none n).2.2=1:=by
 refine⟨?_,?_,rfl⟩
 ·cases lo with
  |none=>simp[pq,HT.BO]
  |some i=>
   simp only[pq,HT.BO,Option.getD_none,show(1:Int)>0 by decide,if_true]
   by_cases h:i<0
   ·simp only[h,if_true]<;>omega
   ·simp only[h,if_false]<;>omega
 ·cases hi with
  |none=>simp[pq,HT.BO]
  |some i=>
   simp only[pq,HT.BO,Option.getD_none,show(1:Int)>0 by decide,if_true]
   by_cases h:i<0
   ·simp only[h,if_true]<;>omega
   ·simp only[h,if_false]<;>omega
theorem IP(its:List Value)(lo hi:Option Int):slicePick its.toArray lo hi none=((its.drop (HT.BO its.length 0 lo)).take (HT.BO its.length its.length hi-HT.BO its.length 0 lo)).toArray:=by
 obtain⟨h1,h2,h3⟩:=JW lo hi its.toArray.size
 unfold slicePick
 rw[h1,h2,h3]
 simp only[sliceRange_one,pick_run,ji]<;>rfl
noncomputable def gR(K:b9):V→Option Int→Option Int→Hp→VK→Prop:=fun x lo hi H Q=>∃a xs,x=.ref a∧CM K H a xs∧∀p,H p=none→Q (.ref p) (upd H p (.lst (FO xs lo hi)))
theorem OT:fY X (gR X.K):=by
 intro pins s σ H x v vl vu lo hi sl Q I rx hs pl pu h
 obtain⟨a,xs,rfl,hx,q⟩:=h
 cases rx
 obtain⟨its,r,ht,hz⟩:=I.list hx
 have hlen:=r.length
 refine⟨"list",_,slot_list_getitem.lookup,ht.isList.typeIs,?_⟩
 refine wpAny_getItem_list_slice ht.isList hs pl pu .none (by simp) ?_ (by rw[ji]<;>omega)
 rw[IP,←hlen]
 refine⟨.ref s.heap.objs.size,_,I.laid (t':=s.toks) (o:=.lst (FO xs lo hi)) (fun b ob q=>e8 _ q) (jb _) ?_,rfl,q _ (I.hok.fresh (jb _))⟩
 exact⟨kG (Fp xs lo hi) hz,_,0,(r.drop (HT.BO xs.length 0 lo)).take (HT.BO xs.length xs.length hi-HT.BO xs.length 0 lo),jq _ rfl⟩
noncomputable def DH:V→Bool
 | .non=>true
 | .bl _=>true
 | .int _=>true
 | .str _=>true
 |_=>false
noncomputable def Kt:V→V→Bool
 | .non,.non=>true
 | .bl a,.bl b=>a==b
 | .bl a,.int b=> (if a then 1 else 0)==b
 | .int a,.bl b=>a==(if b then 1 else 0)
 | .int a,.int b=>a==b
 | .str a,.str b=>a==b
 |_,_=>false
theorem RX{A:js}{s:c9}{y x:V}{u v:Value}(ry:RelV y u)(rx:RelV x v)(fy:DH y=true)(fx:DH x=true):k9 A s u v (Kt y x):=by
 cases y with
 |non=>
  cases ry
  cases x with
  |non=>cases rx;exact k9.same _
  |bl b=>cases rx;exact k9.none_bool b
  |int b=>obtain⟨t,rfl⟩:=rx;exact k9.none_int b t
  |str b=>obtain⟨t,rfl⟩:=rx;exact k9.none_str b t
  |_=>exact absurd (show false=true from fx) i5
 |bl a=>
  cases ry
  cases x with
  |non=>cases rx;exact k9.bool_none a
  |bl b=>cases rx;exact k9.bool_bool a b
  |int b=>obtain⟨t,rfl⟩:=rx;exact k9.bool_int a b t
  |str b=>obtain⟨t,rfl⟩:=rx;exact k9.bool_str a b t
  |_=>exact absurd (show false=true from fx) i5
 |int a=>
  obtain⟨t',rfl⟩:=ry
  cases x with
  |non=>cases rx;exact k9.int_none a t'
  |bl b=>cases rx;exact k9.int_bool a t' b
  |int b=>obtain⟨t,rfl⟩:=rx;exact k9.int_int a t' b t
  |str b=>obtain⟨t,rfl⟩:=rx;exact k9.int_str a t' b t
  |_=>exact absurd (show false=true from fx) i5
 |str a=>
  obtain⟨t',rfl⟩:=ry
  cases x with
  |non=>cases rx;exact k9.str_none a t'
  |bl b=>cases rx;exact k9.str_bool a t' b
  |int b=>obtain⟨t,rfl⟩:=rx;exact k9.str_int a t' b t
  |str b=>obtain⟨t,rfl⟩:=rx;exact k9.str_str a t' b t
  |_=>exact absurd (show false=true from fx) i5
 |_=>exact absurd (show false=true from fy) i5
noncomputable def fZ(x:V)(u:Value):Bool:=match u with
 | .none=>Kt .non x
 | .bool b=>Kt (.bl b) x
 | .int i _=>Kt (.int i) x
 | .str z _=>Kt (.str z) x
 |_=>false
theorem RY{x y:V}{u:Value}(r:RelV y u)(f:DH y=true):fZ x u=Kt y x:=by
 cases y with
 |non=>cases r;rfl
 |bl b=>cases r;rfl
 |int i=>obtain⟨t,rfl⟩:=r;rfl
 |str z=>obtain⟨t,rfl⟩:=r;rfl
 |_=>exact absurd (show false=true from f) i5
theorem LF{A:js}{s:c9}{x:V}{v:Value}(rx:RelV x v)(fx:DH x=true):∀{xs:List V} {us:List Value},Vals xs us→xs.all DH=true→∀u∈us,k9 A s u v (fZ x u)
 |_,_,.nil,_=>fun u hu=>by cases hu
 |y::xs,u::us,.cons r t,f=>fun u' hu=>by
  rw[List.all_cons,km] at f
  rcases i6.mp hu with rfl|hu
  ·rw[RY r f.1];exact RX r rx f.1 fx
  ·exact LF rx fx t f.2 u' hu
theorem Cq:BJ X (.builtin "len") (fun xs H Q=>∃p ys,xs=[.ref p]∧(CM X.K H p ys∨DN X.K H p ys)∧Q (.int ys.length) H):=by
 intro pins s σ H xs us Q I r h
 obtain⟨p,ys,rfl,hq,q⟩:=h
 obtain⟨u,rfl,rx⟩:=Dy r
 cases rx
 have hn:=FM
 rcases hq with hq|hq
 ·obtain⟨its,r',pl,hz⟩:=I.list hq
  have hlen:=r'.length
  exact Calls.call_len_list pl.isList (by simp only[ji]<;>omega) ⟨.int ys.length,H,I.tok _,⟨s.toks+1,by rw[ji,hlen]⟩,q⟩
 ·obtain⟨its,r',pl,hz⟩:=I.tuple hq
  have hlen:=r'.length
  exact len_tuple pl (by simp only[ji]<;>omega) ⟨.int ys.length,H,I.tok _,⟨s.toks+1,by rw[ji,hlen]⟩,q⟩
noncomputable def gS(K:b9)(T:String)(x:V)(H:Hp):Prop:=match x with
 | .str _=>T= "str"
 | .int _=>T= "int"
 | .ref p=> (T= "list"∧∃xs,CM K H p xs)∨(T= "tuple"∧∃o,K.lookup p=some o∧o.cls=.type "tuple"∧o.dict=none)∨
   (T= "dict"∧((∃kvs,H p=some (.dK kvs))∨∃kvs,H p=some (.dT kvs)))∨(T= "set"∧∃S n,H p=some (.set S n))
 |_=>False
theorem Ys{pins:List (Addr×Obj)}{σ:St}{H:Hp}{s:c9}{T:String}{x:V}{v:Value}(I:Inv X pins σ H s)(r:RelV x v)(ty:gS X.K T x H):
  s.TypeIs v T∧∀a,v=.ref a→∃ob,s.heap.get? a=some ob∧ob.dict=none:=by
 cases x with
 |str z=>
  obtain⟨t,rfl⟩:=r
  cases(show T= "str" from ty)
  exact⟨typeIs_str s z t,fun _ e=>nomatch e⟩
 |int i=>
  obtain⟨t,rfl⟩:=r
  cases(show T= "int" from ty)
  exact⟨typeIs_int s i t,fun _ e=>nomatch e⟩
 |ref p=>
  cases r
  rcases ty with⟨rfl,xs,hq⟩| ⟨rfl,o,hk,hc,hd⟩| ⟨rfl,hk⟩| ⟨rfl,S,n,hk⟩
  ·obtain⟨its,_,pl,_⟩:=I.list hq
   refine⟨pl.isList.typeIs,fun a e=>?_⟩
   cases e
   obtain⟨o,n,e,c,hd,_⟩:=pl
   exact⟨o,e,hd⟩
  ·refine⟨⟨o,I.kIn p o hk,hc⟩,fun a e=>?_⟩
   cases e
   exact⟨o,I.kIn _ o hk,hd⟩
  ·have z:∃o,s.heap.get? p=some o∧o.ExactDict:=by
    rcases hk with⟨kvs,hk⟩| ⟨kvs,hk⟩
    ·obtain⟨_,_,_,_,o,_,_,e,ex,_⟩:=I.hok p _ hk
     exact⟨o,e,ex⟩
    ·obtain⟨_,_,_,_,o,_,_,e,ex,_⟩:=I.hok p _ hk
     exact⟨o,e,ex⟩
   obtain⟨o,e,ex⟩:=z
   refine⟨⟨o,e,ex.1⟩,fun a e2=>?_⟩
   cases e2
   exact⟨o,e,ex.2.1⟩
  ·obtain⟨o,_,_,_,e,ex,_⟩:=I.hok p _ hk
   refine⟨⟨o,e,ex.1⟩,fun a e2=>?_⟩
   cases e2
   exact⟨o,e,ex.2.1⟩
 |_=>exact nL ty
noncomputable def il(K:b9)(T:String)(r:V→List V→Hp→VK→Prop)(to:TE)(t:TA):TE:=fun σ H Q=>to σ H fun x H1=>gS K T x H1∧t σ H1 fun xs H2=>r x xs H2 Q
variable{o e:Expr}{es:List Expr}{to:TE}{t:TA}{name:Str}{apos cpos:Pos}{T id:String}{r:V→List V→Hp→VK→Prop}
theorem cG(pa:PlainAttrs T)(slot:Slot T name id)(hty:typeOf (.builtin id)=pure (.type "method_descriptor"))(hm:iM X id r)(ho:PE X o to)(ha:PA X (e::es) t)
  (hbase:p7 o name X.env (eval o X.env)=eval o X.env:=by rfl)
  (hfew:((mM cpos (i7 (e::es) X.env)).all (fun x=>!x.1)&&(sR cpos (qL [] X.env)).all (fun x=>x.1.isSome)
   &&decide ((e::es).length+([]:List p9).length+(if([]:List p9).isEmpty then 0 else 1)<30))=true:=by rfl)
  (hline:(apos.endLine==cpos.line)=true:=by rfl) (hs:i7 (e::es) X.env=(false,eval e X.env)::i7 es X.env:=by rfl) (hplain:(mM cpos (i7 es X.env)).any (·.1)=false:=by rfl):
  PE X (.Call (.Attribute o name apos) (e::es) [] cpos) (il X.K T r to t):=by
 intro pins s σ H Q I h
 refine wpAny_Call_method_late hbase hfew hline rfl (Az (ho pins s σ H _ I h) fun v s1 ⟨x,H1,I1,r1,ty,q1⟩=>?_)
 obtain⟨h1,h2⟩:=Ys I1 r1 ty
 refine⟨T,id,pa,slot,hty,h1,h2,?_⟩
 have hA:=ha cpos pins s1 σ H1 _ I1 q1
 rw[hs] at hA ⊢
 refine Calls.callWith_builtin (by show(false|| (mM cpos (i7 es X.env)).any (·.1))=false;rw[hplain]<;>rfl) (Calls.evalArgs_plain ?_)
 exact Az hA fun us s2 ⟨vs,H2,I2,r2,q2⟩=>hm pins s2 σ H2 x vs v us Q I2 r1 r2 q2
end
noncomputable def gT(X:Cx)(id:String)(r:V→List V→Hp→VK→Prop):Prop:=
 ∀(pins:List (Addr×Obj)) (s:c9) (σ:St) (H:Hp) (x:V) (xs:List V) (v:Value) (us:List Value) (Q:VK),Inv X pins σ H s→RelV x v→Vals xs us→r x xs H Q→
  wpAny (model X.prog X.w) X.A (call (.builtin id) (v::us)) (EP X pins σ Q) X.xe s
theorem Vals.one:∀{x:V} {us:List Value},Vals [x] us→∃u,us=[u]∧RelV x u
 |_,_,.cons r .nil=> ⟨_,rfl,r⟩
section
variable{X:Cx}{pins:List (Addr×Obj)}{σ:St}{H:Hp}{s:c9}{l b:Addr}{xs ys zs:List V}
theorem Inv.lset{its its':List Value}{n:Nat}{f:Array Value→Array Value}{t':Nat}(I:Inv X pins σ H s)(hH:H l=some (.lst xs))
  (e:s.heap.get? l=some {cls:=.type "list",data:=.seq its.toArray n}) (hf:f its.toArray=its'.toArray) (hv:Vals ys its') (hz:ys.length≤sizeLine):
  Inv X pins σ (upd H l (.lst ys)) {s with heap:=s.heap.update l (lW f),toks:=t'}:=by
 have q:=PySem.IsL.update e f
 rw[hf] at q
 refine I.write (x:=l) (e:=l) (by rw[hH];exact trivial) (.inl rfl) (fun b' u hb hu=> (lY s.heap (lW f) (Ne.symm hb)).trans hu) ⟨_,q⟩ ?_
 exact⟨hz,its',_,hv,q⟩
theorem Inv.lnew{its:List Value}{t':Nat}(I:Inv X pins σ H s)(hv:Vals ys its)(hz:ys.length≤sizeLine):
  Inv X pins σ (upd H s.heap.objs.size (.lst ys)) {s with heap:=s.heap.push {cls:=.type "list",data:=.seq its.toArray},toks:=t'}:=
 I.laid (fun _ _ q=>e8 _ q) (jb _) ⟨hz,its,0,hv,jq _ rfl⟩
theorem Inv.fresh(I:Inv X pins σ H s):H s.heap.objs.size=none:=I.hok.fresh (jb _)
theorem Inv.lstM(I:Inv X pins σ H s)(hH:H l=some (.lst xs)):xs.length≤sizeLine∧∃(its:List Value) (n:Nat),Vals xs its∧xs.length=its.length∧s.heap.get? l=some {cls:=.type "list",data:=.seq its.toArray n}:=by
 obtain⟨z,its,n,r,e⟩:=I.hok l _ hH
 exact⟨z,its,n,r,r.length,e⟩
theorem RZ{n:Nat}(h:n≤sizeLine):nN n=false:=by
 unfold nN
 exact decide_eq_false (by omega)
end
section
variable{X:Cx}
noncomputable def OU:V→List V→Hp→VK→Prop:=fun x vs H Q=>∃l xs y,x=.ref l∧vs=[y]∧H l=some (.lst xs)∧xs.length<sizeLine∧Q .non (upd H l (.lst (xs++[y])))
theorem Ih:gT X "list.append" OU:=by
 intro pins s σ H x vs v us Q I rx rv h
 obtain⟨l,xs,y,rfl,rfl,hH,hz,q⟩:=h
 cases rx
 obtain⟨u,rfl,ru⟩:=rv.one
 obtain⟨z,its,n,r,hl,e⟩:=I.lstM hH
 refine rz F.slot_list_append ⟨_,e,rfl⟩ F.entry_list_append (F.args_list_append_2 _ _) (PySem.list_append l its.toArray n u (by rw[ji];omega)) ⟨e,?_⟩
 refine⟨.non,_,I.lset (its':=its++[u]) hH e (by simp) (r.append (.cons ru .nil)) ?_,rfl,q⟩
 rw[jf,ow]
 omega
noncomputable def VI:V→List V→Hp→VK→Prop:=fun x vs H Q=>∃l b xs zs,x=.ref l∧vs=[.ref b]∧H l=some (.lst xs)∧H b=some (.lst zs)∧xs.length+zs.length≤sizeLine∧Q .non (upd H l (.lst (xs++zs)))
theorem QF:gT X "list.extend" VI:=by
 intro pins s σ H x vs v us Q I rx rv h
 obtain⟨l,b,xs,zs,rfl,rfl,hH,hB,hz,q⟩:=h
 cases rx
 obtain⟨u,rfl,ru⟩:=rv.one
 cases ru
 obtain⟨z,its,n,r,hl,e⟩:=I.lstM hH
 obtain⟨z2,its2,n2,r2,hl2,e2⟩:=I.lstM hB
 have hsz:its.toArray.size+its2.toArray.size≤sizeLine:=by rw[ji,ji];omega
 have hlong:¬(!its.toArray.isEmpty&&nN (its.toArray.size+its2.toArray.size))=true:=by
  rw[RZ hsz,qI]
  exact i5
 refine rz F.slot_list_extend ⟨_,e,rfl⟩ F.entry_list_extend (F.args_list_extend_2 _ _)
  (AutoSeq1.list_extend_list_list_0 l its.toArray n b its2.toArray n2 hlong (by rw[ji];omega) (by omega)) ⟨e,e2,?_⟩
 refine⟨.non,_,I.lset (its':=its++its2) hH e (by simp) (r.append r2) ?_,rfl,q⟩
 rw[jf]
 omega
noncomputable def cH:R2:=fun x y H Q=>∃l b xs zs,x=.ref l∧y=.ref b∧H l=some (.lst xs)∧H b=some (.lst zs)∧xs.length+zs.length≤sizeLine∧∀p,H p=none→Q (.ref p) (upd H p (.lst (xs++zs)))
theorem Mt:Cb X (nF .Add) cH:=by
 intro pins s σ H x y v u Q I rx ry h
 obtain⟨l,b,xs,zs,rfl,rfl,hH,hB,hz,q⟩:=h
 cases rx
 cases ry
 obtain⟨z,its,n,r,hl,e⟩:=I.lstM hH
 obtain⟨z2,its2,n2,r2,hl2,e2⟩:=I.lstM hB
 refine PySem.P.add_list e e2 ?_ (by rw[ji,ji];omega)
 have ea:its.toArray++its2.toArray=(its++its2).toArray:=by simp
 rw[ea]
 exact⟨.ref _,_,I.lnew (t':=s.toks) (r.append r2) (by rw[jf];omega),rfl,q _ I.fresh⟩
end
section
variable{prog:Program}{w:World}{A:js}{E:Value→c9→Prop}{s:c9}
end
section
variable{X:Cx}
end
end L2
namespace Att
open PySem PySem.W PySem.Calls PyProof.Rows
theorem GB{P:Params}{h:Heap}:∀(ns:List Int) (vs:List Value),WellAll P h vs (ns.map WData.int)→mQ vs ns:=by
 intro ns
 induction ns with
 |nil=>
  intro vs w
  rw[mP] at w
  cases w
  exact .nil
 |cons n ns ih=>
  intro vs w
  rw[jr] at w
  cases w with
  |cons a b=>
   cases a
   exact .cons _ _ (ih _ b)
theorem QG{l:rM}{n:Nat}(hn:l.most=some n){P:Params}{h:Heap}{args:List WData}{vals:List Value}
  (hpre:l.row.toRowW.claim.pre args=true) (hwl:WellAll P h vals args):
  ∃a vs ns,vals=[Value.ref a]∧args=[WData.list (ns.map WData.int)]∧h.get? a=some {cls:=.type "list",data:=.seq vs.toArray}∧mQ vs ns∧ns.length≤n:=by
 have hsh:WShape.hasAll [] args [.list .int]=true:=(pre_splitW hpre).1
 have hc:l.pre.holds [] {args:=args}=true:=(pre_splitW hpre).2
 obtain⟨d,r,rfl,h1,h2⟩:=hasAllW_cons hsh
 obtain rfl:=hasAllW_nil h2
 obtain⟨xs,rfl,h3⟩:=hasW_list h1
 obtain⟨ns,rfl⟩:=items_int h3
 have hlen:ns.length≤n:=by
  unfold rM.pre at hc
  have h4:(WTm.not (.lt (.lit (.int (n:Int))) (.len (.arg 0)))).holds [] {args:=[.list (ns.map .int)]}=true:=by
   have h4:=(holds_andW hc).1
   rw[hn] at h4
   exact h4
  have h5:=condW_of h4 (w_not (w_lt w_lit (w_len_list (w_arg rfl))))
  rw[e7] at h5
  refine pW fun q=>?_
  have q':(n:Int)< ((ns.length:Nat):Int):=by omega
  first
   | (rw[decide_eq_true q'] at h5;exact absurd h5 (by decide))
   | (simp at h5;omega)
 cases hwl with
 |cons w1 w2=>
  cases w2
  cases w1 with
  |list ho hall=>exact⟨_,_,ns,rfl,rfl,ho,GB ns _ hall,hlen⟩
theorem QH(l:rM)(args:List WData):l.row.toRowW.claim.post args (.bool true) args=true:=
 postW_of (r:=l.row.toRowW) (X:=(true==true))
  (show WShape.has [] (.bool true) .bool=true by first|rfl|decide|simp[WShape.has,WShape.arms,WShape.armsAll])
  (show(WTm.eq .res (.lit (.bool true))).value [] {args:=args,res:=some (.bool true),after:=args}=some (.bool (true==true)) from w_eq_bool (w_res rfl) w_lit) rfl
theorem LG{l:rM}{n:Nat}{q:Program}{loose:List Str}{XP:(Str→Option Value)→Heap→Prop}{YP:World→Heap→Prop}{d:DefRec}
  (hn:l.most=some n) (hdf:d.params.defaults=[])
  (call:∀(w:World) (s₀ s₁:c9) (mg mb:Str→Option Value) (fa:Addr) (o:Obj) (pm cd doc:Value) (a:Addr) (vs:List Value) (ns:List Int),
   Ground q loose [] XP w s₀ mg mb s₁.heap→YP w s₁.heap→
   s₁.heap.get? fa=some o→o.data=.func (docDef d.name d.params d.body d.scope pm cd doc)→s₁.heap.CodeRec cd d.name→mg d.name=some (.ref fa)→
   s₁.heap.get? a=some {cls:=.type "list",data:=.seq vs.toArray}→mQ vs ns→ns.length≤n→s₁.gens= #[]→
   oG (model l.prog w) su (.call (.ref fa) ⟨[.ref a],[]⟩) (fun r s'=>r=.ok (.ret (.bool true))∧OldK s₁.heap s'.heap∧s'.os=s₁.os∧qw s'.gens) s₁):
  WalkO q loose XP YP l.row.toRowW d [] (fun f vs=>PySem.call f vs):=by
 intro w s₀ s₁ mg mb G Y fa o pm cd doc dV kV ho hd hcd hD hmg hg args vals as hpre hlay hrd hwl hlo
 obtain rfl:dV=.none:=Dflts.none hD hdf
 obtain rfl:kV=.none:=Dflts.noKw hD
 obtain⟨a,vs,ns,rfl,rfl,hobj,hints,hlen⟩:=QG hn hpre hwl
 refine enter_call (qu (call w s₀ s₁ mg mb fa o pm cd doc a vs ns G Y ho (fd_plain hd) hcd hmg hobj hints hlen hg) fun r s' hq=>?_)
 obtain⟨rfl,h2,h3,h4⟩:=hq
 exact⟨.inl ⟨.bool true,.bool true,[],rfl,fun _=>rfl,.bool true,QH l _,fun _=> ⟨mF,fun _ hm=> (nomatch hm)⟩⟩,h2,h3,h4⟩
section
variable{prog:Program}{w:World}{A:js}{E:Value→c9→Prop}{s:c9}{K:Frag}
end
end Att
namespace L2
open PySem PySem.Spec PyProof.Rows
theorem FP:∀{vs:List Value} {ns:List Int},mQ vs ns→Vals (ns.map V.int) vs
 |_,_,.nil=> .nil
 |_,_,.cons n t h=> .cons ⟨t,rfl⟩ (FP h)
noncomputable def Yt(H:Hp):Prop:=∀b,H b=none∨∃o xs,H b=some (.frz o (.lst xs))
theorem Ra{P:Program}{w:World}{K:b9}{mg mb:Str→Option Value}{CX:RQ}{k:Nat}{fa a:Addr}{fd:jv}{x:Str}{sp:Sp}{s₁:c9}{vs:List Value}{ns:List Int}
  (KX:K.In s₁.heap) (hns:s₁.heap.Ns lQ mg) (hb:s₁.heap.Ns sL mb) (hbb:∀x:Str,x≠"__name__"→mb x=ku x) (hlim:s₁.heap.NoLimit) (hg:s₁.gens= #[])
  (ha:s₁.heap.get? a=some {cls:=.type "list",data:=.seq vs.toArray}) (hi:mQ vs ns) (hl:ns.length≤sizeLine) (hr:Room k su)
  (F:∀base:Heap,K.In base→base.Ns lQ mg→FnOk P w K mg base CX k fa fd [x] sp) (hbind:∀(s:c9) (u:Value),tq s fd ⟨[u],[]⟩ [(x,u)])
  (hsp:∀H:Hp,Yt H→CM K H a (ns.map V.int)→sp [.ref a] H (fun v _=>v=.bl true) fun _ _ _=>False)
  (hCX:∀H e s',CX [] H s₁ (fun _ _ _=>False) e s'→False):
  oG (model P w) su (.call (.ref fa) ⟨[.ref a],[]⟩) (fun r s'=>r=.ok (.ret (.bool true))∧OldK s₁.heap s'.heap∧s'.os=s₁.os∧qw s'.gens) s₁:=by
 have rv:=FP hi
 have lenV:=hi.length
 have core:∀H:Hp,Yt H→CM K H a (ns.map V.int)→HOk P w H s₁.heap→(∀b,H b≠none→b=a)→(H a≠none→K.lookup a=none)→
   oG (model P w) su (.call (.ref fa) ⟨[.ref a],[]⟩) (fun r s'=>r=.ok (.ret (.bool true))∧OldK s₁.heap s'.heap∧s'.os=s₁.os∧qw s'.gens) s₁:=by
  intro H hO hS hok hA hK
  have base_of:∀{b:Addr} {o:Obj},s₁.heap.get? b=some o→H b=none→(JR s₁.heap H).get? b=some o:=fun e n=>Qz e n
  have noA:∀{b:Addr} {o:Obj} {es:Array DictEntry} {ep:Nat},s₁.heap.get? b=some o→o.data=.dict es ep→H b=none:=fun{b o es ep} e d=>by
   cases q:H b with
   |none=>rfl
   |some u=>
    have e':b=a:=hA b (by rw[q];simp)
    subst e'
    rw[ha] at e;cases e
    have d':tm vs.toArray _=Data.dict es ep:=d
    cases d'
  have nsK:∀{b:Addr} {m:Str→Option Value},s₁.heap.Ns b m→(JR s₁.heap H).Ns b m:=fun{b m} ⟨o,es,ep,e,d,r⟩=> ⟨o,es,ep,base_of e (noA e d),d,r⟩
  have hKb:K.In (JR s₁.heap H):=fun b o e=>base_of (KX b o e) (by
   cases q:H b with
   |none=>rfl
   |some u=>
    have e':b=a:=hA b (by rw[q];simp)
    subst e'
    rw[hK (by rw[q];simp)] at e;cases e)
  have hM:Mod K mg (JR s₁.heap H):=⟨hKb,nsK hns,⟨mb,nsK hb,hbb⟩,let⟨mc,h1,h2⟩:=hlim;⟨mc,nsK h1,h2⟩⟩
  have e0:Env0 P w K mg (JR s₁.heap H) su [] s₁ H:=⟨rfl,hM,fun b o e=>Ut e,Nat.le_of_eq (Pt _ _),trivial,fun b hb=>absurd (show b∈([]:List Addr) from hb) (by simp),hok,.of_eq hg⟩
  refine qu ((F _ hKb (nsK hns)).run su [] s₁ H ⟨[.ref a],[]⟩ [.ref a] [.ref a] _ _ hr e0 (hbind s₁ (.ref a)) (.cons rfl .nil) (hsp H hO hS)) fun r s' h=>?_
  cases r with
  |error e=>exact(hCX H e s' h).elim
  |ok fl=>
   cases fl with
   |next=>exact nL h
   |brk=>exact nL h
   |cont=>exact nL h
   |ret u=>
    obtain⟨v,H',os,bare,un,hok',r',q⟩:=h
    have q':v=.bl true:=q
    subst q'
    obtain rfl:u=o8 true:=r'
    refine⟨rfl,OldK.of_keep fun b o e=>?_,os,bare⟩
    cases q:H b with
    |none=>exact un.keep b o e q (by intro z;exact absurd (show b∈([]:List Addr) from z) (by simp)) (by simp)
    |some u=>
     rcases hO b with z| ⟨ob,xs,z⟩
     ·rw[q] at z;cases z
     ·have z2:=un.frzs b ob _ z
      obtain⟨e1,_⟩:=hok b _ z
      obtain⟨e2,_⟩:=hok' b _ z2
      rw[e] at e1;cases e1
      exact e2
 cases hk:K.lookup a with
 |some o=>
  have e:=KX a o hk
  rw[ha] at e
  cases e
  refine core (fun _=>none) (fun _=> .inl rfl) (.inr ⟨_,vs.toArray,_,hk,rfl,rfl,rfl,by rw[ji,lenV];exact hl,by simpa using rv⟩) (fun b u z=>by have z':(none:Option HO)=some u:=z;cases z') (fun b z=>absurd rfl z) fun z=>absurd rfl z
 |none=>
  refine core (fun b=>if b=a then some (.frz {cls:=.type "list",data:=.seq vs.toArray} (.lst (ns.map V.int))) else none) (fun b=>?_) (.inl (.inr ⟨{cls:=.type "list",data:=.seq vs.toArray},if_pos rfl⟩)) (fun b u z=>?_) (fun b z=>?_) fun _=>hk
  ·by_cases hb:b=a
   ·exact .inr ⟨_,_,if_pos hb⟩
   ·exact .inl (if_neg hb)
  ·by_cases hb:b=a
   ·have z':=(if_pos hb).symm.trans z
    cases z'
    subst hb
    exact⟨ha,by rw[e7];exact hl,vs,_,rv,ha⟩
   ·have z':=(if_neg hb).symm.trans z
    cases z'
  ·by_cases hb:b=a
   ·exact hb
   ·exact absurd (if_neg hb) z
theorem VJ{l:rM}{n k:Nat}{q:Program}{loose:List Str}{XP:(Str→Option Value)→Heap→Prop}{YP:World→Heap→Prop}{d:DefRec}{K:Params→b9}{CX:World→RQ}{sp:World→Sp}{x:Str}
  (hn:l.most=some n) (hn2:n≤sizeLine) (hdf:d.params.defaults=[]) (hr:Room k su)
  (hY:∀(w:World) (h:Heap),YP w h→(K w.params).In h)
  (F:∀(w:World) (mg:Str→Option Value) (fa:Addr) (h:Heap),(K w.params).In h→h.Ns lQ mg→mg d.name=some (.ref fa)→
   ∃fd:jv,(∀(s:c9) (u:Value),tq s fd ⟨[u],[]⟩ [(x,u)])∧
    ∀base:Heap,(K w.params).In base→base.Ns lQ mg→FnOk l.prog w (K w.params) mg base (CX w) k fa fd [x] (sp w))
  (hsp:∀(w:World) (H:Hp) (a:Addr) (ns:List Int),ns.length≤n→Yt H→CM (K w.params) H a (ns.map V.int)→sp w [.ref a] H (fun v _=>v=.bl true) fun _ _ _=>False)
  (hCX:∀(w:World) (H:Hp) (s:c9) (e:Value) (s':c9),CX w [] H s (fun _ _ _=>False) e s'→False):
  PySem.W.WalkO q loose XP YP l.row.toRowW d [] (fun f vs=>PySem.call f vs):=by
 refine Att.LG hn hdf fun w s₀ s₁ mg mb fa o pm cd doc a vs ns G Y ho hd hcd hmg hobj hints hlen hg=>?_
 have KX:=hY w _ Y
 obtain⟨fd,hb,hF⟩:=F w mg fa _ KX G.T.g hmg
 exact Ra KX G.T.g G.T.b G.T.builtins G.T.nolimit hg hobj hints (kG hlen hn2) hr hF hb (fun H hO hS=>hsp w H a ns hlen hO hS) fun H e s'=>hCX w H s₁ e s'
noncomputable def Ee(s:Stmt):Arguments:=match s with
 | .FunctionDef _ a _ _ _ _ _ _ _ _=>a
 |_=> {posonlyargs:=[],args:=[],vararg:=none,kwonlyargs:=[],kw_defaults:=[],kwarg:=none,defaults:=[]}
noncomputable def BQ(s:Stmt):List Stmt:=match s with
 | .FunctionDef _ _ b _ _ _ _ _ _ _=>b
 |_=> []
noncomputable def AA(s:Stmt):Scope:=match s with
 | .FunctionDef _ _ _ _ _ _ sc _ _ _=>sc
 |_=> {kind:=.function,names:=[],isGenerator:=false,isCoroutine:=false}
noncomputable abbrev E0:XK:=fun _ _ _=>False
structure Fun(K:b9)(x qual:Str)(st:Stmt)(f:Addr)(fd:jv):Prop where
 ex:∃(oc:Value) (od:Option Addr) (kV doc pm:Value) (an:Option Addr) (cdv ct:Value) (osl:Array (Option Value)),
  fd=oI x qual (Ee st) (BQ st) (AA st) .none kV doc pm an cdv ct∧K.lookup f=some ⟨oc,od,.func fd,osl⟩∧rZ K cdv qual=true
 kp:nh K (.ref f)=true
section
variable{P:Program}{w:World}{K:b9}{mg:Str→Option Value}{base:Heap}
theorem Fun.binds{x qual:Str}{st:Stmt}{f:Addr}{fd:jv}{ps:List Str}(F:Fun K x qual st f fd)
  (h:∀(kV doc pm:Value) (an:Option Addr) (cdv ct:Value) (us:List Value),us.length=ps.length→bindArgs (oI x qual (Ee st) (BQ st) (AA st) .none kV doc pm an cdv ct) ⟨us,[]⟩=pure (ps.zip us)):Binds K fd ps []:=by
 obtain⟨oc,od,kV,doc,pm,an,cdv,ct,osl,rfl,lk,hcd⟩:=F.ex
 exact .all (h kV doc pm an cdv ct)
end
section
variable{X:Cx}
theorem pv(i:Nat){x:Str}{pos:Pos}(hN:X.N[i]?=some x:=by rfl)(hv:bI X.env.scope x:=by first|exact pJ rfl|exact oN (pJ rfl)|exact oN (oN rfl))(hd:(x==("__debug__" :Str))=false:=by decide)
  (hcd:(x==("__classdict__" :Str))=false:=by decide):PE X (.Name x pos) (bL i):=RA hN hv hd hcd
end
theorem Rb{A B:Prop}(h:B):if false=true then A else B:=by
 rw[if_neg i5]
 exact h
theorem JX{A B:Prop}(h:A):if true=true then A else B:=by
 rw[if_pos rfl]
 exact h
theorem Yu{c A B:Prop} [Decidable c](h1:c→A)(h2:¬c→B):if c then A else B:=by
 by_cases h:c
 ·rw[if_pos h]
  exact h1 h
 ·rw[if_neg h]
  exact h2 h
end L2
set_option maxHeartbeats 4000000
namespace K58
open PySem L2
noncomputable def kE(P:Params)(x:Str)(n:Tok)(v:Value):DictEntry:=⟨j5.keyHash P x,.str x n,v⟩
noncomputable def tp(i:Nat):Stmt:=j4.main.body.getD i (.Pass ⟨0,0,0,0⟩)
noncomputable def kF(x:Str)(i:Nat)(m:Str)(t:Tok)(c:Addr):Obj:=⟨.type "function",none,.func (oI x x (Ee (tp i)) (BQ (tp i)) (AA (tp i)) .none .none .none (.str m t) none (.ref c) .none),#[]⟩
noncomputable def kC(x:Str)(a b c:Tok)(vs:List Value):Obj:=⟨.type "code",none,.fields ((tw x a::.str x b::.str "/claim/cut.py" c::vs).toArray),#[]⟩
noncomputable def kD(x:Str)(a b c:Tok)(l n:Int)(r:Addr)(g:Int)(q:Addr)(z:Int)(k:Tok)(vs:List Value):Obj:=kC x a b c (.int l 0::.int n 0::.int 0 0::.int 0 0::.int 3 0::.ref r::.bool true::.int g 0::.ref q::(vs++[.int z 0,.int l 0,.str "/claim/cut.py" k]))
noncomputable def Kk:Params→b9:=fun P=> (nat_lit 3,⟨(.type "dict"),none,(.dict #[kE P "__name__" 165 (.str "law_noshortring_k58_whole_betterings" 586),kE P "__doc__" 166 .none,kE P "__package__" 167 .none,kE P "__loader__" 168 (.builtin "__main__.__loader__#opaque"),kE P "__spec__" 169 .none,kE P "__annotations__" 170 (.ref 6),kE P "__builtins__" 171 (.ref 4),kE P "__file__" 173 (.str "/claim/cut.py" 172),kE P "__cached__" 174 .none,kE P "RingError" 206 (.ref 24),kE P "NoPlace" 222 (.ref 37),kE P "NoLine" 238 (.ref 49),kE P "NoWeb" 263 (.ref 68),kE P "TooGreat" 290 (.ref 87),kE P "is_whole" 301 (.ref 96),kE P "is_rising" 307 (.ref 101),kE P "least_told" 313 (.ref 106),kE P "MOST_PLACES" 317 (.int 16 316),kE P "web_good" 324 (.ref 113),kE P "ties_good" 330 (.ref 118),kE P "is_pair" 336 (.ref 123),kE P "ties_of" 342 (.ref 128),kE P "is_place" 350 (.ref 135),kE P "need_place" 358 (.ref 142),kE P "are_tied" 367 (.ref 149),kE P "nears_of" 373 (.ref 154),kE P "near_of" 381 (.ref 161),kE P "fars_from" 387 (.ref 166),kE P "even_by" 393 (.ref 171),kE P "ring_by_tie" 399 (.ref 176),kE P "shortest" 405 (.ref 181),kE P "shortest_rings_from" 417 (.ref 188),kE P "rows_longer" 430 (.ref 195),kE P "shortest_many" 436 (.ref 200),kE P "MOST_TO_CROSS" 440 (.int 8 439),kE P "need_places" 449 (.ref 207),kE P "retied" 455 (.ref 212),kE P "can_cross" 466 (.ref 219),kE P "exchanged" 477 (.ref 226),kE P "crossed" 488 (.ref 233),kE P "spliced" 501 (.ref 240),kE P "others_near" 507 (.ref 245),kE P "can_unsplice" 513 (.ref 250),kE P "unspliced" 519 (.ref 255),kE P "merit_of" 527 (.ref 262),kE P "is_better" 535 (.ref 269),kE P "need_few_to_cross" 542 (.ref 276),kE P "all_crossings" 548 (.ref 281),kE P "first_better" 561 (.ref 288),kE P "crossings_of" 568 (.ref 295),kE P "better_crossing" 576 (.ref 302),kE P "climbed" 585 (.ref 309),kE P "_law_cell_at" 595 (.ref 316),kE P "_law_next" 602 (.ref 323),kE P "_law_pen_of" 610 (.ref 330),kE P "_law_draw" 619 (.ref 337),kE P "_law_web_of" 625 (.ref 342),kE P "_law_round" 631 (.ref 347),kE P "_law_some_web" 637 (.ref 352),kE P "_law_counts" 643 (.ref 357),kE P "_law_splice_right" 649 (.ref 362),kE P "_law_climb_right" 663 (.ref 369),kE P "law" 680 (.ref 376)] 63),#[]⟩)::
  (nat_lit 95,kD "is_whole" 293 294 295 18 3 90 181 91 299 300 [.none,(.ref 92),(.ref 93),(.ref 94)])::
  (nat_lit 96,kF "is_whole" 7 "noshortring.common" 291 95)::
  (nat_lit 100,kD "is_rising" 302 303 304 22 1 97 181 98 305 306 [.none,.none,.none,(.ref 99)])::
  (nat_lit 101,kF "is_rising" 8 "noshortring.common" 291 100)::
  (nat_lit 105,kD "least_told" 308 309 310 24 1 102 181 103 311 312 [.none,.none,.none,(.ref 104)])::
  (nat_lit 106,kF "least_told" 9 "noshortring.common" 291 105)::
  (nat_lit 112,kD "web_good" 318 319 320 28 1 107 181 108 322 323 [.none,(.ref 109),(.ref 110),(.ref 111)])::
  (nat_lit 113,kF "web_good" 12 "noshortring.webs" 314 112)::
  (nat_lit 117,kD "ties_good" 325 326 327 32 2 114 181 115 328 329 [.none,.none,.none,(.ref 116)])::
  (nat_lit 118,kF "ties_good" 13 "noshortring.webs" 314 117)::
  (nat_lit 122,kD "is_pair" 331 332 333 36 2 119 181 120 334 335 [.none,.none,.none,(.ref 121)])::
  (nat_lit 123,kF "is_pair" 14 "noshortring.webs" 314 122)::
  (nat_lit 127,kD "ties_of" 337 338 339 40 1 124 181 125 340 341 [.none,.none,.none,(.ref 126)])::
  (nat_lit 128,kF "ties_of" 15 "noshortring.webs" 314 127)::
  (nat_lit 134,kD "is_place" 343 344 345 42 2 129 181 130 348 349 [.none,(.ref 131),(.ref 132),(.ref 133)])::
  (nat_lit 135,kF "is_place" 16 "noshortring.webs" 314 134)::
  (nat_lit 141,kD "need_place" 351 352 353 44 2 136 181 137 356 357 [.none,(.ref 138),(.ref 139),(.ref 140)])::
  (nat_lit 142,kF "need_place" 17 "noshortring.webs" 314 141)::
  (nat_lit 148,kD "are_tied" 359 360 361 47 3 143 181 144 365 366 [.none,(.ref 145),(.ref 146),(.ref 147)])::
  (nat_lit 149,kF "are_tied" 18 "noshortring.webs" 314 148)::
  (nat_lit 153,kD "nears_of" 368 369 370 49 1 150 181 151 371 372 [.none,.none,.none,(.ref 152)])::
  (nat_lit 154,kF "nears_of" 19 "noshortring.webs" 314 153)::
  (nat_lit 160,kD "near_of" 374 375 376 55 2 155 181 156 379 380 [.none,(.ref 157),(.ref 158),(.ref 159)])::
  (nat_lit 161,kF "near_of" 20 "noshortring.webs" 314 160)::
  (nat_lit 165,kD "fars_from" 382 383 384 58 2 162 181 163 385 386 [.none,.none,.none,(.ref 164)])::
  (nat_lit 166,kF "fars_from" 21 "noshortring.webs" 314 165)::
  (nat_lit 170,kD "even_by" 388 389 390 74 1 167 181 168 391 392 [.none,.none,.none,(.ref 169)])::
  (nat_lit 171,kF "even_by" 22 "noshortring.webs" 314 170)::
  (nat_lit 175,kD "ring_by_tie" 394 395 396 77 3 172 181 173 397 398 [.none,.none,.none,(.ref 174)])::
  (nat_lit 176,kF "ring_by_tie" 23 "noshortring.webs" 314 175)::
  (nat_lit 180,kD "shortest" 400 401 402 82 1 177 181 178 403 404 [.none,.none,.none,(.ref 179)])::
  (nat_lit 181,kF "shortest" 24 "noshortring.webs" 314 180)::
  (nat_lit 187,kD "shortest_rings_from" 406 407 408 85 3 182 181 183 415 416 [.none,(.ref 184),(.ref 185),(.ref 186)])::
  (nat_lit 188,kF "shortest_rings_from" 25 "noshortring.webs" 314 187)::
  (nat_lit 194,kD "rows_longer" 418 419 420 91 4 189 181 190 428 429 [.none,(.ref 191),(.ref 192),(.ref 193)])::
  (nat_lit 195,kF "rows_longer" 26 "noshortring.webs" 314 194)::
  (nat_lit 199,kD "shortest_many" 431 432 433 98 1 196 181 197 434 435 [.none,.none,.none,(.ref 198)])::
  (nat_lit 200,kF "shortest_many" 27 "noshortring.webs" 314 199)::
  (nat_lit 206,kD "need_places" 441 442 443 106 2 201 181 202 447 448 [.none,(.ref 203),(.ref 204),(.ref 205)])::
  (nat_lit 207,kF "need_places" 30 "noshortring.betterings" 437 206)::
  (nat_lit 211,kD "retied" 450 451 452 109 3 208 181 209 453 454 [.none,.none,.none,(.ref 210)])::
  (nat_lit 212,kF "retied" 31 "noshortring.betterings" 437 211)::
  (nat_lit 218,kD "can_cross" 456 457 458 112 5 213 181 214 464 465 [.none,(.ref 215),(.ref 216),(.ref 217)])::
  (nat_lit 219,kF "can_cross" 32 "noshortring.betterings" 437 218)::
  (nat_lit 225,kD "exchanged" 467 468 469 116 5 220 181 221 475 476 [.none,(.ref 222),(.ref 223),(.ref 224)])::
  (nat_lit 226,kF "exchanged" 33 "noshortring.betterings" 437 225)::
  (nat_lit 232,kD "crossed" 478 479 480 118 5 227 181 228 486 487 [.none,(.ref 229),(.ref 230),(.ref 231)])::
  (nat_lit 233,kF "crossed" 34 "noshortring.betterings" 437 232)::
  (nat_lit 239,kD "spliced" 489 490 491 123 5 234 181 235 499 500 [.none,(.ref 236),(.ref 237),(.ref 238)])::
  (nat_lit 240,kF "spliced" 35 "noshortring.betterings" 437 239)::
  (nat_lit 244,kD "others_near" 502 503 504 132 3 241 181 242 505 506 [.none,.none,.none,(.ref 243)])::
  (nat_lit 245,kF "others_near" 36 "noshortring.betterings" 437 244)::
  (nat_lit 249,kD "can_unsplice" 508 509 510 134 3 246 181 247 511 512 [.none,.none,.none,(.ref 248)])::
  (nat_lit 250,kF "can_unsplice" 37 "noshortring.betterings" 437 249)::
  (nat_lit 254,kD "unspliced" 514 515 516 139 3 251 181 252 517 518 [.none,.none,.none,(.ref 253)])::
  (nat_lit 255,kF "unspliced" 38 "noshortring.betterings" 437 254)::
  (nat_lit 261,kD "merit_of" 520 521 522 147 1 256 181 257 525 526 [.none,(.ref 258),(.ref 259),(.ref 260)])::
  (nat_lit 262,kF "merit_of" 39 "noshortring.betterings" 437 261)::
  (nat_lit 268,kD "is_better" 528 529 530 150 2 263 181 264 533 534 [.none,(.ref 265),(.ref 266),(.ref 267)])::
  (nat_lit 269,kF "is_better" 40 "noshortring.betterings" 437 268)::
  (nat_lit 275,kD "need_few_to_cross" 536 537 538 154 1 270 181 271 540 541 [.none,(.ref 272),(.ref 273),(.ref 274)])::
  (nat_lit 276,kF "need_few_to_cross" 41 "noshortring.betterings" 437 275)::
  (nat_lit 280,kD "all_crossings" 543 544 545 157 1 277 181 278 546 547 [.none,.none,.none,(.ref 279)])::
  (nat_lit 281,kF "all_crossings" 42 "noshortring.betterings" 437 280)::
  (nat_lit 287,kD "first_better" 549 550 551 163 1 282 181 283 559 560 [.none,(.ref 284),(.ref 285),(.ref 286)])::
  (nat_lit 288,kF "first_better" 43 "noshortring.betterings" 437 287)::
  (nat_lit 294,kD "crossings_of" 562 563 564 170 1 289 181 290 566 567 [.none,(.ref 291),(.ref 292),(.ref 293)])::
  (nat_lit 295,kF "crossings_of" 44 "noshortring.betterings" 437 294)::
  (nat_lit 301,kD "better_crossing" 569 570 571 173 1 296 181 297 574 575 [.none,(.ref 298),(.ref 299),(.ref 300)])::
  (nat_lit 302,kF "better_crossing" 45 "noshortring.betterings" 437 301)::
  (nat_lit 308,kD "climbed" 577 578 579 177 1 303 181 304 583 584 [.none,(.ref 305),(.ref 306),(.ref 307)])::
  (nat_lit 309,kF "climbed" 46 "noshortring.betterings" 437 308)::
  (nat_lit 315,kD "_law_cell_at" 588 589 590 186 2 310 181 311 593 594 [.none,(.ref 312),(.ref 313),(.ref 314)])::
  (nat_lit 316,kF "_law_cell_at" 48 "law_noshortring_k58_whole_betterings" 586 315)::
  (nat_lit 322,kD "_law_next" 596 597 598 190 1 317 181 318 600 601 [.none,(.ref 319),(.ref 320),(.ref 321)])::
  (nat_lit 323,kF "_law_next" 49 "law_noshortring_k58_whole_betterings" 586 322)::
  (nat_lit 329,kD "_law_pen_of" 603 604 605 193 1 324 181 325 608 609 [.none,(.ref 326),(.ref 327),(.ref 328)])::
  (nat_lit 330,kF "_law_pen_of" 50 "law_noshortring_k58_whole_betterings" 586 329)::
  (nat_lit 336,kD "_law_draw" 611 612 613 196 2 331 181 332 617 618 [.none,(.ref 333),(.ref 334),(.ref 335)])::
  (nat_lit 337,kF "_law_draw" 51 "law_noshortring_k58_whole_betterings" 586 336)::
  (nat_lit 341,kD "_law_web_of" 620 621 622 203 2 338 181 339 623 624 [.none,.none,.none,(.ref 340)])::
  (nat_lit 342,kF "_law_web_of" 52 "law_noshortring_k58_whole_betterings" 586 341)::
  (nat_lit 346,kD "_law_round" 626 627 628 205 3 343 181 344 629 630 [.none,.none,.none,(.ref 345)])::
  (nat_lit 347,kF "_law_round" 53 "law_noshortring_k58_whole_betterings" 586 346)::
  (nat_lit 351,kD "_law_some_web" 632 633 634 207 2 348 181 349 635 636 [.none,.none,.none,(.ref 350)])::
  (nat_lit 352,kF "_law_some_web" 54 "law_noshortring_k58_whole_betterings" 586 351)::
  (nat_lit 356,kD "_law_counts" 638 639 640 233 1 353 181 354 641 642 [.none,.none,.none,(.ref 355)])::
  (nat_lit 357,kF "_law_counts" 55 "law_noshortring_k58_whole_betterings" 586 356)::
  (nat_lit 361,kD "_law_splice_right" 644 645 646 235 2 358 181 359 647 648 [.none,.none,.none,(.ref 360)])::
  (nat_lit 362,kF "_law_splice_right" 56 "law_noshortring_k58_whole_betterings" 586 361)::
  (nat_lit 368,kD "_law_climb_right" 650 651 652 245 1 363 181 364 661 662 [.none,(.ref 365),(.ref 366),(.ref 367)])::
  (nat_lit 369,kF "_law_climb_right" 57 "law_noshortring_k58_whole_betterings" 586 368)::
  (nat_lit 375,kD "law" 664 665 666 256 1 370 181 371 678 679 [.none,(.ref 372),(.ref 373),(.ref 374)])::
  (nat_lit 376,kF "law" 58 "law_noshortring_k58_whole_betterings" 586 375)::[]
noncomputable def ka:List Addr:=[3,95,96,100,101,105,106,112,113,117,118,122,123,127,128,134,135,141,142,148,149,153,154,160,161,165,166,170,171,175,176,180,181,187,188,194,195,199,200,206,207,211,212,218,219,225,226,232,233,239,240,244,245,249,250,254,255,261,262,268,269,275,276,280,281,287,288,294,295,301,302,308,309,315,316,322,323,329,330,336,337,341,342,346,347,351,352,356,357,361,362,368,369,375,376]
noncomputable abbrev kq:Program:=PySem.W.view j4 [1,2,3,4,5,7,8,9,11,12,13,14,15,16,17,18,19,20,21,22,23,24,25,26,27,29,30,31,32,33,34,35,36,37,38,39,40,41,42,43,44,45,46,48,49,50,51,52,53,54,55,56,57,58]
theorem gU:(fun(_:Params→b9) (_:Program)=>true) Kk j4=true:=by k_qdec
noncomputable abbrev oS(s:c9):=PySem.W.openSeen kq [] (importedModules j4.main.body) (fun s=>sT kq [] s&&sF [] s) true s
noncomputable abbrev oE(w:World):=PySem.W.openEnds treeTable j4 w 5200
theorem cI(w:World):(oE w).map (fun s=> ((oS s).1,(oS s).2.2.2.2.1))=some ((kZ kq []).1,(kZ kq []).2.2.2.2.1):=by
 delta oE oS kq
 rw[PySem.W.Fast.te3550314848034320870,lF,lM]
 delta lL kZ
 dsimp only
 kernel_rfl
theorem cJ(w:World):(oE w).map (fun s=> ((oS s).2.1,(oS s).2.2.1,(oS s).2.2.2.2.2.2.1,(oS s).2.2.2.2.2.2.2.2))=some ((kZ kq []).2.1,(kZ kq []).2.2.1,(kZ kq []).2.2.2.2.2.2.1,(kZ kq []).2.2.2.2.2.2.2.2):=by
 delta oE oS kq
 rw[PySem.W.Fast.te3550314848034320870,lF,lM,PySem.W.Fast.te5923862056798008813]
 delta lL kZ
 dsimp only
 kernel_rfl
theorem cK(w:World):(oE w).map (fun s=> ((oS s).2.2.2.1))=some ((kZ kq []).2.2.2.1):=by
 delta oE oS kq
 rw[PySem.W.Fast.te3550314848034320870,lF,lM]
 delta lL kZ
 dsimp only
 kernel_rfl
theorem cL(w:World):(oE w).map (fun s=> ((oS s).2.2.2.2.2.1))=some ((kZ kq []).2.2.2.2.2.1):=by
 delta oE oS kq
 rw[PySem.W.Fast.te3550314848034320870,lF,lM]
 delta lL kZ
 dsimp only
 kernel_rfl
theorem cM(w:World):(oE w).map (fun s=> ((oS s).2.2.2.2.2.2.2.1,ka.map s.heap.get?))=some ((kZ kq []).2.2.2.2.2.2.2.1,(Kk w.params).map fun(p:Addr×Obj)=>some p.2):=by
 delta oE oS kq
 rw[PySem.W.Fast.te11051290335222131603,PySem.W.Fast.te3550314848034320870,lF,lM]
 delta lL kZ
 dsimp only
 kernel_rfl
theorem left:PySem.W.LeftO j4 kq [] (fun s=>sT kq [] s&&sF [] s) (fun s=>ka.map s.heap.get?) (fun w=> (Kk w.params).map fun(p:Addr×Obj)=>some p.2) 5200:=by
 intro w
 have h0:=cI w
 have h1:=cJ w
 have h2:=cK w
 have h3:=cL w
 have h4:=cM w
 show(oE w).map (fun s=> (oS s,ka.map s.heap.get?))=_
 revert h0 h1 h2 h3 h4
 cases oE w with
 |none=>intro h;cases h
 |some s=>
  intro h0 h1 h2 h3 h4
  have h0:=ki.inj h0
  simp only[oT] at h0
  have h1:=ki.inj h1
  simp only[oT] at h1
  have h2:=ki.inj h2
  have h3:=ki.inj h3
  have h4:=ki.inj h4
  simp only[oT] at h4
  exact congrArg some (kW (kW (h0.1) (kW (h1.1) (kW (h1.2.1) (kW (h2) (kW (h0.2) (kW (h3) (kW (h1.2.2.1) (kW (h4.1) (h1.2.2.2))))))))) (h4.2))
end K58
namespace L2
open PySem PySem.Spec PyProof.Rows
theorem JY{env:Env}:∀(l:List (Str×NameKind)) (acc:List (Str×Addr)),(∀y∈l,y.2=.free→∃c,env.cells.lookup y.1=some c)→
  (∀x c,acc.lookup x=some c→env.cells.lookup x=some c)→
  ∃cl,(forIn l acc (fun(x:Str×NameKind) (r:List (Str×Addr))=> (match x with
   | (name,kind)=>if(kind==NameKind.free)=true then(do let a←cellOf env name;pure (mH ((name,a)::r))) else pure (mH r):Sem (ForInStep (List (Str×Addr))))))=(pure cl:Sem _)∧
   (∀x c,cl.lookup x=some c→env.cells.lookup x=some c)∧(∀x,(acc.lookup x).isSome=true→(cl.lookup x).isSome=true)∧∀y∈l,y.2=.free→(cl.lookup y.1).isSome=true
 | [],acc,_,ha=> ⟨acc,rfl,ha,fun _ h=>h,fun _ h=>nomatch h⟩
 | (n,k)::r,acc,h,ha=>by
  have hr:∀y∈r,y.2=.free→∃c,env.cells.lookup y.1=some c:=fun y hy=>h y (jn _ hy)
  by_cases hk:k=.free
  ·subst hk
   obtain⟨c,hc⟩:=h (n,.free) j9 rfl
   have hc:env.cells.lookup n=some c:=hc
   have ha':∀x c',((n,c)::acc).lookup x=some c'→env.cells.lookup x=some c':=fun x c' e=>by
    rw[kJ] at e
    cases hx:x==n with
    |true=>rw[hx] at e;cases e;rw[beq_iff_eq.mp hx];exact hc
    |false=>rw[hx] at e;exact ha x c' e
   obtain⟨cl,e,h1,h2,h3⟩:=JY r ((n,c)::acc) hr ha'
   refine⟨cl,?_,h1,fun x hx=>h2 x ?_,fun y hy hf=>?_⟩
   ·rw[qm]
    simp only[cellOf,hc,beq_self_eq_true,if_true]
    exact e
   ·rw[kJ]
    cases x==n with
    |true=>rfl
    |false=>exact hx
   ·rcases i6.mp hy with rfl|hy
    ·exact h2 n (by rw[kJ,beq_self_eq_true];rfl)
    ·exact h3 y hy hf
  ·have hb:(k==NameKind.free)=false:=by simpa using hk
   obtain⟨cl,e,h1,h2,h3⟩:=JY r acc hr ha
   refine⟨cl,?_,h1,h2,fun y hy hf=>?_⟩
   ·rw[qm]
    simp only[hb,jt,if_false]
    exact e
   ·rcases i6.mp hy with rfl|hy
    ·exact absurd hf hk
    ·exact h3 y hy hf
theorem VL{env:Env}{csc:Scope}(h:∀y∈csc.names,y.2=.free→∃c,env.cells.lookup y.1=some c):
  ∃cl,closureFor csc env=pure cl∧(∀x c,cl.lookup x=some c→env.cells.lookup x=some c)∧∀y∈csc.names,y.2=.free→(cl.lookup y.1).isSome=true:=by
 obtain⟨cl,e,h1,_,h3⟩:=JY csc.names [] h (fun x c e=>by cases e)
 refine⟨cl,?_,h1,h3⟩
 unfold closureFor
 have e':=congrArg (fun m:Sem (List (Str×Addr))=>m>>=fun r=>pure r) e
 exact e'
theorem Ef{env:Env}:∀{names:List (Str×NameKind)} {x:Str},names.lookup x=some .free→
  (names.map fun(n,k)=>if(k==NameKind.free&&env.scope.kind==.function&&env.kindOf n==some .cell) then(n,ot) else(n,k)).lookup x=some .cell∨
  (names.map fun(n,k)=>if(k==NameKind.free&&env.scope.kind==.function&&env.kindOf n==some .cell) then(n,ot) else(n,k)).lookup x=some .free
 | [],_,h=>by simp at h
 | (n,k)::r,x,h=>by
  have ih:=@Ef env r x
  rw[jr]
  show List.lookup x ((if(k==NameKind.free&&env.scope.kind==.function&&env.kindOf n==some .cell)=true then(n,ot) else(n,k))::_)=_∨List.lookup x ((if(k==NameKind.free&&env.scope.kind==.function&&env.kindOf n==some .cell)=true then(n,ot) else(n,k))::_)=_
  cases hx:x==n with
  |true=>
   simp only[kJ,hx] at h
   cases h
   split
   ·exact .inl (by rw[kJ,hx])
   ·exact .inr (by rw[kJ,hx])
  |false=>
   simp only[kJ,hx] at h
   split
   ·simp only[kJ,hx];exact ih h
   ·simp only[kJ,hx];exact ih h
noncomputable def OV:Option NameKind→Bool
 |some .cell=>true
 |_=>false
theorem LH{k:Option NameKind}(h:OV k=true):k=some .cell:=by
 cases k with
 |none=>cases h
 |some k=>cases k<;>first|rfl|cases h
noncomputable def VM(X:Cx)(csc:Scope)(cl:List (Str×Addr))(N':List Str)(s:c9)(H:Hp)(fp:List Addr):Cx:=
 {X with N:=N',s₀:=s,H₀:=H,env:=sQ csc cl s.heap.objs.size X.env,outer:=X.stack,ex:=fp,fn:=fun x=>OV (csc.names.lookup x),pn:=[],xe:=fun _ _=>False}
structure LcCx(X:Cx)(csc:Scope)(N':List Str)(X':Cx):Prop where
 is:∃cl s H fp,X'=VM X csc cl N' s H fp
noncomputable def CO(σ:St)(cap:List (Str×Nat)):St:=cap.map fun p=> (σ[p.2]?).join
structure LcOk(X:Cx)(csc:Scope)(nc:List Str)(cap:List (Str×Nat)):Prop where
 kind:csc.kind=.function
 cells:∀y∈csc.names,y.2=.cell→csc.names.lookup y.1=some .cell
 locals:∀y∈csc.names,y.2=.local→csc.names.lookup y.1=some .local
 free:∀y∈csc.names,y.2=.free→X.env.scope.names.lookup y.1=some .cell∨X.env.scope.names.lookup y.1=some .free
 caps:∀p∈cap,X.N[p.2]?=some p.1∧csc.names.lookup p.1=some .free
noncomputable abbrev Ak(nc:List Str)(cap:List (Str×Nat)):List Str:=nc++cap.map (·.1)
noncomputable abbrev IQ(nc:List Str)(σ:St)(cap:List (Str×Nat)):St:=kX nc.length none++CO σ cap
theorem Aw{α:Type}:∀{l:List (Str×α)} {x:Str} {v:α},l.lookup x=some v→(x,v)∈l
 | [],_,_,h=>by simp at h
 | (n,k)::r,x,v,h=>by
  rw[kJ] at h
  cases hx:x==n with
  |true=>rw[hx] at h;cases h;rw[beq_iff_eq.mp hx];exact j9
  |false=>rw[hx] at h;exact jn _ (Aw h)
theorem Mu:∀(names:List (Str×NameKind)) (L:Nat) (a acc:List (Str×Addr)),mf L names (a++acc)=mf L names a++acc
 | [],_,_,_=>rfl
 | (n,k)::r,L,a,acc=>by
  unfold mf
  split
  ·exact Mu r (L+1) ((n,L)::a) acc
  ·exact Mu r L a acc
theorem Yv(names:List (Str×NameKind))(L:Nat)(acc:List (Str×Addr)):mf L names acc=mf L names []++acc:=Mu names L [] acc
theorem Mv:∀(names:List (Str×NameKind)) (L:Nat) (acc:List (Str×Addr)) (x:Str) (c:Addr),(x,c)∈mf L names acc→(x,.cell)∈names∨(x,c)∈acc
 | [],_,_,_,_,h=> .inr h
 | (n,k)::r,L,acc,x,c,h=>by
  unfold mf at h
  split at h
  ·rename_i hk
   rcases Mv r (L+1) _ x c h with h|h
   ·exact .inl (jn _ h)
   ·rcases i6.mp h with h|h
    ·cases h
     rw[eq_of_beq hk]
     exact .inl j9
    ·exact .inr h
  ·rcases Mv r L _ x c h with h|h
   ·exact .inl (jn _ h)
   ·exact .inr h
theorem JZ:∀(names:List (Str×NameKind)) (L:Nat) (acc:List (Str×Addr)) (x:Str),((x,.cell)∈names∨(acc.lookup x).isSome=true)→((mf L names acc).lookup x).isSome=true
 | [],_,_,_,h=>h.elim (fun z=>by cases z) id
 | (n,k)::r,L,acc,x,h=>by
  unfold mf
  split
  ·refine JZ r (L+1) _ x ?_
   rcases h with h|h
   ·rcases i6.mp h with h|h
    ·cases h
     exact .inr (by rw[kJ,beq_self_eq_true];rfl)
    ·exact .inl h
   ·refine .inr ?_
    rw[kJ]
    cases x==n with
    |true=>rfl
    |false=>exact h
  ·rename_i hk
   refine JZ r L acc x ?_
   rcases h with h|h
   ·rcases i6.mp h with h|h
    ·cases h;exact absurd rfl hk
    ·exact .inl h
   ·exact .inr h
theorem EE{α:Type}:∀{l m:List (Str×α)} {x:Str},(l++m).lookup x=match l.lookup x with|some v=>some v|none=>m.lookup x
 | [],_,_=>rfl
 | (n,k)::r,m,x=>by
  rw[oK,kJ,kJ]
  cases x==n with
  |true=>rfl
  |false=>exact EE
structure LcCells(X:Cx)(csc:Scope)(cs:List (Str×Addr))(s:c9)(h1:Heap):Prop where
 at_:∀x c,cs.lookup x=some c→(csc.names.lookup x=some .cell∧s.heap.objs.size≤c∧h1.IsCell c none)∨(csc.names.lookup x≠some .cell∧X.env.cells.lookup x=some c)
 has:∀x,csc.names.lookup x=some .free∨csc.names.lookup x=some .cell→∃c,cs.lookup x=some c
 inj:∀x y c,cs.lookup x=some c→cs.lookup y=some c→x=y
theorem VN{X:Cx}{csc:Scope}{cl:List (Str×Addr)}{nc:List Str}{cap:List (Str×Nat)}{pins:List (Addr×Obj)}{σ:St}{H:Hp}{s:c9}{o:Obj}
  (ok:LcOk X csc nc cap) (I:Inv X pins σ H s) (hc1:∀x c,cl.lookup x=some c→X.env.cells.lookup x=some c) (hc2:∀y∈csc.names,y.2=.free→(cl.lookup y.1).isSome=true):
  LcCells X csc (mf (s.heap.objs.size+1) csc.names cl) s (sm (s.heap.push o) csc.names):=by
 have nk:=cellsFrom_ok csc.names (s.heap.push o) (s.heap.objs.size+1) [] ⟨fun _ _ hm=> (nomatch hm),mF⟩ (by rw[k7];exact jb _)
 rw[k7] at nk
 rw[Yv]
 have split:∀x c,(mf (s.heap.objs.size+1) csc.names []++cl).lookup x=some c→((x,c)∈mf (s.heap.objs.size+1) csc.names []∧csc.names.lookup x=some .cell)∨(csc.names.lookup x≠some .cell∧cl.lookup x=some c):=fun x c e=>by
  rw[EE] at e
  cases hx:(mf (s.heap.objs.size+1) csc.names []).lookup x with
  |some v=>
   rw[hx] at e
   cases e
   have m:=Aw hx
   refine .inl ⟨m,?_⟩
   rcases Mv _ _ _ _ _ m with z|z
   ·exact ok.cells _ z rfl
   ·cases z
  |none=>
   rw[hx] at e
   refine .inr ⟨fun z=>?_,e⟩
   have:=JZ csc.names (s.heap.objs.size+1) [] x (.inl (Aw z))
   rw[hx] at this
   cases this
 refine⟨fun x c e=>?_,fun x hx=>?_,fun x y c e1 e2=>?_⟩
 ·rcases split x c e with⟨m,k⟩| ⟨k,e⟩
  ·exact .inl ⟨k,qN (nk.empty x c m).2,(nk.empty x c m).1⟩
  ·exact .inr ⟨k,hc1 x c e⟩
 ·refine Option.isSome_iff_exists.mp ?_
  rw[EE]
  cases hn:(mf (s.heap.objs.size+1) csc.names []).lookup x with
  |some v=>rfl
  |none=>
   rcases hx with hx|hx
   ·exact hc2 _ (Aw hx) rfl
   ·have:=JZ csc.names (s.heap.objs.size+1) [] x (.inl (Aw hx))
    rw[hn] at this
    cases this
 ·have old:∀z,cl.lookup z=some c→c<s.heap.objs.size:=fun z e=>by
   obtain⟨v,hv⟩:=I.cell z c (hc1 z c e)
   exact hv.lt
  rcases split x c e1 with⟨m1,_⟩| ⟨_,g1⟩<;>rcases split y c e2 with⟨m2,_⟩| ⟨_,g2⟩
  ·exact name_of_addr nk.apart m1 m2
  ·exact absurd (jy (old y g2) (qN (nk.empty x c m1).2)) (k8 _)
  ·exact absurd (jy (old x g1) (qN (nk.empty y c m2).2)) (k8 _)
  ·exact I.ok.inj x y c (hc1 x c g1) (hc1 y c g2)
section
variable{M:Model}{A:js}{E:Value→c9→Prop}{s:c9}
theorem Rc{scope:Scope}{globals:Addr}{closure:List (Str×Addr)}{qual:Str}{env:Env}{Q:Env→c9→Prop}
  (hQ:Q (newEnv scope s.heap.objs.size globals (mf (s.heap.objs.size+1) scope.names closure) qual none .none (some env) sL) {s with heap:=sm (s.heap.push {cls:=.type "dict",data:=.dict #[]}) scope.names}):
  wpAny M A (rT scope globals closure [] qual none .none (some env)) Q E s:=by
 simp only[rT,Option.isSome_some,if_true]
 refine b6 (wpAny_alloc ?_)
 refine b6 (wpAny_layCells _ (fun name kind cells=>by cases hkc:kind==ot<;>simp[hkc]) _ _ _ _ ?_)
 rw[show({s with heap:=s.heap.push {cls:=.type "dict",data:=.dict #[]}}:c9).heap.objs.size=s.heap.objs.size+1 from k7 ..]
 refine b6 ?_
 rw[se]
 exact e6 (e6 hQ)
end
theorem Yw{X:Cx}{csc:Scope}{cl:List (Str×Addr)}{nc:List Str}{cap:List (Str×Nat)}{pins:List (Addr×Obj)}{σ:St}{H:Hp}{s:c9}{h1:Heap}{fp:List Addr}
  (ok:LcOk X csc nc cap) (I:Inv X pins σ H s) (C:LcCells X csc cl s h1)
  (hf:∀b∈fp,Gy X pins H b) (ho:∀b∈fp,∃o,s.heap.get? b=some o)
  (hn:h1.Ns s.heap.objs.size (fun _=>none)) (kept:∀b o,s.heap.get? b=some o→h1.get? b=some o):
  Inv (VM X csc cl (Ak nc cap) s H fp) [] (IQ nc σ cap) H {s with heap:=h1}:=by
 have frel:∀x,csc.names.lookup x=some .free→(sQ csc cl s.heap.objs.size X.env).kindOf x=some .cell∨(sQ csc cl s.heap.objs.size X.env).kindOf x=some .free:=fun x h=>Ef h
 have back:∀{names:List (Str×NameKind)} {x:Str},((names.map fun(n,k)=>if(k==NameKind.free&&X.env.scope.kind==.function&&X.env.kindOf n==some .cell) then(n,ot) else(n,k)).lookup x=some .cell∨
   (names.map fun(n,k)=>if(k==NameKind.free&&X.env.scope.kind==.function&&X.env.kindOf n==some .cell) then(n,ot) else(n,k)).lookup x=some .free)→
   names.lookup x=some .free∨names.lookup x=some .cell:=by
  intro names
  induction names with
  |nil=>intro x h;simp at h
  |cons p r ih=>
   obtain⟨n,k⟩:=p
   intro x h
   rw[jr] at h
   cases hx:x==n with
   |true=>
    rw[kJ,hx]
    have e:∀(kk:NameKind) (l:List (Str×NameKind)),((n,kk)::l).lookup x=some kk:=fun kk l=>by rw[kJ,hx]
    by_cases hcnd:(k==NameKind.free&&X.env.scope.kind==.function&&X.env.kindOf n==some .cell)=true
    ·left
     have:(k==NameKind.free)=true:=by
      revert hcnd;cases(k==NameKind.free)<;>simp
     show some k=some .free
     rw[eq_of_beq this]
    ·simp only[if_neg hcnd] at h
     rw[e,] at h
     exact h.symm
   |false=>
    have e:∀(kk:NameKind) (l:List (Str×NameKind)),((n,kk)::l).lookup x=l.lookup x:=fun kk l=>by rw[kJ,hx]
    by_cases hcnd:(k==NameKind.free&&X.env.scope.kind==.function&&X.env.kindOf n==some .cell)=true
    ·simp only[if_pos hcnd] at h
     rw[e] at h
     rw[e]
     exact ih h
    ·simp only[if_neg hcnd] at h
     rw[e] at h
     rw[e]
     exact ih h
 refine⟨⟨I.ok.mod,ok.kind,I.ok.glob,I.ok.blt,jb _,C.inj,fun x hx=>C.has x (back hx),fun x c e1 e2=>?_,I.ok.hd,I.ok.frames,.inl rfl,fun b hb=> ⟨?_,fun x c e=>?_⟩,
  I.bs,kG I.ok.bsz I.sz,fun b o e hb=>?_,fun b hb z=>?_,I.stack,I.stkFree⟩,rfl,I.bare,⟨fun b o e _ _ _=>kept b o e,fun b o e _ _ _=> ⟨o.slots,kept b o e⟩,fun b o e n _=>n,fun b o e _=> ⟨o,kept b o e⟩,fun _ _ e=>e,fun _ _ _ e=>e,fun b ps e=> ⟨#[],by rw[show H b=some (HO.tbl ps) from e];simp⟩⟩,
  ⟨_,hn,fun i x v e1 e2 e3=>?_⟩,fun x c e=>?_,I.hok.fresh (jb _),fun x c e=> (C.at_ x c e).elim (fun z=>I.hok.fresh z.2.1) (fun z=>I.freeC x c z.2),fun p hp=>absurd (show p∈([]:List (Addr×Obj)) from hp) (by simp),I.hok.kept kept,?_⟩
 ·rcases C.at_ x c e2 with z|z
  ·exact z.2.1
  ·exact absurd (LH e1) z.1
 ·obtain⟨o,e⟩:=ho b hb
  exact jY (je e)
 ·rcases C.at_ x c e with z|z
  ·obtain⟨o,e⟩:=ho b hb
   exact oJ (jy (je e) z.2.1)
  ·exact(hf b hb).2.2.2.2.1 x c z.2
 ·have h1:=(hf b hb).2.2.2.1
  rcases h1 with z|z
  ·exact I.ok.noex b o e z
  ·exact absurd (jy (je e) (kG I.ok.bsz z)) (k8 _)
 ·have h1:=(hf b hb).2.1
  have h2:=(hf b hb).2.2.1
  exact(i6.mp (I.stkSub b z)).elim h1 h2
 ·--the names
  have hlen:nc.length≤i:=by
   by_cases hi:i<nc.length
   ·have e2':(kX nc.length (none:Option V)++CO σ cap)[i]?=some (some v):=e2
    rw[jz (by simpa using hi),mx] at e2'
    split at e2'<;>cases e2'
   ·omega
  have e1':(nc++cap.map (·.1))[i]?=some x:=e1
  have e2':(kX nc.length (none:Option V)++CO σ cap)[i]?=some (some v):=e2
  rw[jw hlen,e9] at e1'
  rw[jw (by simpa using hlen)] at e2'
  simp only[lS] at e2'
  unfold CO at e2'
  rw[e9] at e2'
  cases hp:cap[i-nc.length]? with
  |none=>rw[hp] at e1';cases e1'
  |some p=>
   rw[hp] at e1' e2'
   have e1'':p.1=x:=ki.inj e1'
   have e2'':(σ[p.2]?).join=some v:=ki.inj e2'
   subst e1''
   obtain⟨c1,c2⟩:=ok.caps p (i9 hp)
   have hσ:σ[p.2]?=some (some v):=by
    cases q:σ[p.2]? with
    |none=>rw[q] at e2'';cases e2''
    |some w'=>rw[q] at e2'';exact congrArg some e2''
   have vis:X.env.scope.names.lookup p.1=some .cell∨X.env.scope.names.lookup p.1=some .free:=ok.free _ (Aw c2) rfl
   obtain⟨m,_,hl⟩:=I.loc
   obtain⟨u,r,l⟩:=hl p.2 p.1 v c1 hσ (vis.elim (fun z=> .inr (.inl z)) fun z=> .inr (.inr z))
   refine⟨u,r,.inr ⟨frel p.1 c2,?_⟩⟩
   rcases l with⟨k,_⟩| ⟨_,c,e,z⟩
   ·have k:X.env.scope.names.lookup p.1=some .local:=k
    rcases vis with q|q<;> (rw[q] at k;cases k)
   ·obtain⟨c',e''⟩:=C.has p.1 (.inl c2)
    have q:X.env.cells.lookup p.1=some c':=by
     rcases C.at_ _ _ e'' with z|z
     ·rw[c2] at z;cases z.1
     ·exact z.2
    rw[e] at q;cases q
    obtain⟨o,z1,z2⟩:=z
    exact⟨c,e'',o,kept c o z1,z2⟩
 ·rcases C.at_ x c e with z|z
  ·exact⟨none,z.2.2⟩
  ·obtain⟨v,o,z1,z2⟩:=I.cell x c z.2
   exact⟨v,o,kept c o z1,z2⟩
 ·show(kX nc.length (none:Option V)++CO σ cap).length=(nc++cap.map (·.1)).length
  unfold CO
  simp
section
variable{prog:Program}{w:World}{A:js}{R:tB→c9→Prop}{s:c9}
noncomputable abbrev VO:Value→c9→Prop:=fun _ _=>False
theorem DR{elt target iter:Expr}{ifs:List Expr}{scope:Scope}{pos:Pos}{it acc:Value}{env:Env}(I:Nat→c9→Prop)
  (turn:∀n s,I n s→wpAny (model prog w) A (oz it) (fun r s₁=>match r with
   |none=>R (.ok .next) s₁
   |some v=>wpAny (model prog w) A (qk target it v) (fun _ s₂=>wpAny (model prog w) A (assign target env v) (fun _ s₃=>
     wpAny (model prog w) A (forIn ifs true fun c r=>if r=true then do let ok←isTrue c env (eval c env);pure (mH ok) else pure (mH r)) (fun ok s₄=>
      if ok=true then wpAny (model prog w) A (eval elt env) (fun x s₅=>
       wpAny (model prog w) A (call (.builtin "list.append") [acc,x]) (fun _ s₆=>∃m,m<n∧I m s₆) VO s₅) VO s₄
      else∃m,m<n∧I m s₄) VO s₃) VO s₂) VO s₁) VO s)
  (n:Nat) (h:I n s):
  oG (model prog w) A (.compLoop (.ListComp elt [⟨target,iter,ifs,0⟩] scope pos) 0 it acc env) R s:=by
 refine codeAny_loop rfl I (fun n s hI=>?_) n h
 show wpAny _ A ((compTurn (.ListComp elt [⟨target,iter,ifs,0⟩] scope pos) 0 it acc env).onRaise (fun x=>do noteFrame x env;theTreesLotGoes x)) _ _ s
 refine wpAny_noted (wpAny_noRaise ?_)
 rw[compTurn_list]
 refine b6 (oi (b6 (Az (turn n s hI) fun r s₁ h₁=>?_)))
 cases r with
 |none=>exact e6 h₁
 |some v=>
  refine b6 (Az h₁ fun _ s₂ h₂=>b6 (Az h₂ fun _ s₃ h₃=>b6 (Az h₃ fun ok s₄ h₄=>?_)))
  cases ok with
  |true=>
   rw[if_pos rfl] at h₄ ⊢
   exact b6 (b6 (Az h₄ fun x s₅ h₅=>b6 (Az h₅ fun _ s₆ h₆=>e6 (e6 ⟨rfl,h₆⟩))))
  |false=>
   rw[if_neg i5] at h₄ ⊢
   exact b6 (e6 (e6 ⟨rfl,h₄⟩))
end
noncomputable def Yx(X:Cx)(ifs:List Expr)(t:TT):Prop:=
 ∀(pins:List (Addr×Obj)) (s:c9) (σ:St) (H:Hp) (Q:Bool→Hp→Prop),Inv X pins σ H s→t σ H Q→
  wpAny (model X.prog X.w) X.A (forIn ifs true fun c r=>if r=true then do let ok←isTrue c X.env (eval c X.env);pure (mH ok) else pure (mH r)) (TP X pins σ Q) X.xe s
noncomputable def cN:TT:=fun _ H Q=>Q true H
theorem VP{X:Cx}:Yx X [] cN:=fun _ _ _ H _ I h=>wpAny_tests_nil ⟨H,I,h⟩
theorem VQ{X:Cx}{c:Expr}{t:TT}(h:PT X c t):Yx X [c] t:=fun pins s σ H Q I q=>wpAny_tests_one (h pins s σ H Q I q)
noncomputable def XU(nc:List Str)(cap:List (Str×Nat))(g:TG)(tt:TT)(te:TE)(σ:St)(J:It)(p:Addr)(H:Hp)(Q:Hp→Prop):Prop:=
 ∃W:Nat→Nat→Hp→Prop,(∃m,W 0 m (upd H p (.lst [])))∧∀i m H2,W i m H2→
  (J.stop i H2∧Q H2)∨(J.go i H2∧∃N:Hp→Prop,(∀H',N H'→∃m',m'<m∧W (i+1) m' H')∧∀x H3,J.yld i H2 x H3→g x (IQ nc σ cap) H3 fun σ4 H4=> (∃pre:St,pre.length=nc.length∧σ4=pre++CO σ cap)∧tt σ4 H4 fun b H5=>
   if b=true then te σ4 H5 fun y H6=>∃ys,H6 p=some (.lst ys)∧ys.length<sizeLine∧N (upd H6 p (.lst (ys++[y])))
   else N H5)
noncomputable def fb(wi:TI)(nc:List Str)(cap:List (Str×Nat))(g:TG)(tt:TT)(te:TE):TE:=fun σ H Q=>wi σ H fun J H1=>∀p,H1 p=none→XU nc cap g tt te σ J p H1 (Q (.ref p))
section
variable{X:Cx}{elt tg iter:Expr}{ifs:List Expr}{csc:Scope}{nc:List Str}{cap:List (Str×Nat)}{wi:TI}{g:TG}{tt:TT}{te:TE}{pos:Pos}
theorem LI{pins:List (Addr×Obj)}{σ:St}{s2:c9}{H2:Hp}{it:Addr}{fp:List Addr}{tn:Nat→Heap→Prop}{J:It}{cl:List (Str×Addr)}{Q:Hp→Prop}{RR:Value→Addr→tB→c9→Prop}{E:Value→c9→Prop}
  (hc:X.calm=true) (ok:LcOk X csc nc cap) (hg:∀X',LcCx X csc (Ak nc cap) X'→PG X' tg g) (ht:∀X',LcCx X csc (Ak nc cap) X'→Yx X' ifs tt) (he:∀X',LcCx X csc (Ak nc cap) X'→PE X' elt te)
  (hc1:∀x c,cl.lookup x=some c→X.env.cells.lookup x=some c) (hc2:∀y∈csc.names,y.2=.free→(cl.lookup y.1).isSome=true)
  (I2:Inv X pins σ H2 s2) (T:Turn X.prog X.w X.K tg J fp it tn) (st2:tn 0 s2.heap) (f2:∀b∈fp,Gy X pins H2 b) (run:XU nc cap g tt te σ J s2.heap.objs.size H2 Q)
  (out:∀(C:Addr) (H':Hp) (s':c9),Inv X pins σ H' s'→(∃m,s'.heap.Ns C m)→H' C=none→C≠X.env.locals→X.s₀.heap.objs.size≤C→(∀x c,X.env.cells.lookup x=some c→c≠C)→(∀p∈X.pn++pins,p.1≠C)→Q H'→RR (.ref s2.heap.objs.size) C (.ok .next) s'):
  wpAny (model X.prog X.w) X.A (newList []) (fun acc s₃=>wpAny (model X.prog X.w) X.A (rT csc X.env.globals cl [] X.env.qual none .none (some X.env)) (fun cenv s₄=>
   oG (model X.prog X.w) X.A (.compStart (.ListComp elt [⟨tg,iter,ifs,0⟩] csc pos) 0 (.ref it) acc {cenv with scope:=relabel csc X.env}) (RR acc cenv.locals) s₄) E s₃) E s2:=by
 refine lh ?_
 have hp:H2 s2.heap.objs.size=none:=I2.hok.fresh (jb _)
 have I3:Inv X pins σ (upd H2 s2.heap.objs.size (.lst [])) {s2 with heap:=s2.heap.push {cls:=.type "list",dict:=none,data:=.seq ([]:List Value).toArray}}:=
  I2.laid (t':=s2.toks) (fun b u e=>e8 _ e) (jb _) ⟨kN _,[],0,.nil,jq _ rfl⟩
 generalize hs3:({s2 with heap:=s2.heap.push {cls:=.type "list",dict:=none,data:=.seq ([]:List Value).toArray}}:c9)=s3 at I3
 have hk3:∀b o,s2.heap.get? b=some o→s3.heap.get? b=some o:=fun b o e=>by rw[←hs3];exact e8 _ e
 generalize hp0:s2.heap.objs.size=p at*
 have hlt:∀b∈fp,b<p:=fun b hb=>by
  obtain⟨o,e,_⟩:=T.obj 0 _ st2 b hb
  rw[←hp0];exact je e
 have f3:∀b∈fp,Gy X pins (upd H2 p (.lst [])) b:=fun b hb=> ⟨by rw[AO (jY (hlt b hb))];exact(f2 b hb).1,(f2 b hb).2⟩
 have st3:tn 0 s3.heap:=T.keep 0 _ _ st2 fun b _ o e=>hk3 b o e
 refine Rc ?_
 have LC:=VN (o:={cls:=.type "dict",data:=.dict #[]}) ok I3 hc1 hc2
 have hns:(sm (s3.heap.push {cls:=.type "dict",data:=.dict #[]}) csc.names).Ns s3.heap.objs.size (fun _=>none):=(Heap.Ns.new s3.heap (.type "dict")).keeps (pushCells_keeps _ _)
 have kept4:∀b o,s3.heap.get? b=some o→(sm (s3.heap.push {cls:=.type "dict",data:=.dict #[]}) csc.names).get? b=some o:=fun b o e=>pushCells_keeps _ _ b o (e8 _ e)
 generalize hcs:mf (s3.heap.objs.size+1) csc.names cl=cs at LC ⊢
 generalize hh1:sm (s3.heap.push {cls:=.type "dict",data:=.dict #[]}) csc.names=h₁ at LC hns kept4 ⊢
 have hcc:∀x c,cs.lookup x=some c→X.env.cells.lookup x=some c∨s3.heap.objs.size≤c:=fun x c e=> (LC.at_ x c e).elim (fun z=> .inr z.2.1) (fun z=> .inl z.2)
 have I4:Inv (VM X csc cs (Ak nc cap) s3 (upd H2 p (.lst [])) fp) [] (IQ nc σ cap) (upd H2 p (.lst [])) {s3 with heap:=h₁}:=
  Yw ok I3 LC f3 (fun b hb=> (T.obj 0 _ st3 b hb).imp fun o q=>q.1) hns kept4
 have st4:tn 0 h₁:=T.keep 0 _ _ st3 fun b _ o e=>kept4 b o e
 generalize hX':VM X csc cs (Ak nc cap) s3 (upd H2 p (.lst [])) fp=X' at I4
 have is':LcCx X csc (Ak nc cap) X':=⟨_,_,_,_,hX'.symm⟩
 have hP:X'.prog=X.prog:=by rw[←hX'];rfl
 have hw:X'.w=X.w:=by rw[←hX'];rfl
 have hK:X'.K=X.K:=by rw[←hX'];rfl
 have hA:X'.A=X.A:=by rw[←hX'];rfl
 have hcal:X'.calm=true:=by rw[←hX'];exact hc
 have hE:X'.env=sQ csc cs s3.heap.objs.size X.env:=by rw[←hX'];rfl
 have hxe:X'.xe=VO:=by rw[←hX'];rfl
 have hfs:X'.fs=IJ X.stack:=by rw[←hX'];rfl
 have hex:X'.ex=fp:=by rw[←hX'];rfl
 have hs0:X'.s₀=s3:=by rw[←hX'];rfl
 have hH0:X'.H₀=upd H2 p (.lst []):=by rw[←hX'];rfl
 have hpn:X'.pn=[]:=by rw[←hX'];rfl
 have stat:∀{H':Hp},(∀b∈fp,H' b=none)→∀b∈fp,Gy X' [] H' b:=fun{H'} hn b hb=>by
  obtain⟨_,q2,q3,q4,q5,q6⟩:=f3 b hb
  obtain⟨o,e,_⟩:=T.obj 0 _ st3 b hb
  refine⟨hn b hb,?_,?_,?_,?_,?_⟩
  ·rw[hE];exact jY (je e)
  ·rw[hfs];exact fun z=> (i6.mp (I3.stkSub b z)).elim q2 q3
  ·rw[hex];exact .inl hb
  ·rw[hE];exact fun x c e'=> (hcc x c e').elim (fun z=>q5 x c z) fun z=>oJ (jy (je e) z)
  ·rw[hpn];intro p hp;simp at hp
 obtain⟨W,⟨m0,w0⟩,turn⟩:=run
 have loop:∀s4:c9,s4={s3 with heap:=h₁}→oG (model X.prog X.w) X.A (.compLoop (.ListComp elt [⟨tg,iter,ifs,0⟩] csc pos) 0 (.ref it) (.ref p) (sQ csc cs s3.heap.objs.size X.env)) (RR (.ref p) s3.heap.objs.size) s4:=by
  rintro s4 rfl
  refine DR (fun n s'=>∃i H',Inv X' [] (IQ nc σ cap) H' s'∧tn i s'.heap∧(∀b∈fp,H' b=none)∧W i n H') ?_ m0 ⟨0,_,I4,st4,fun b hb=> (f3 b hb).1,w0⟩
  rintro n s5 ⟨i,H5,I5,st5,fr5,w5⟩
  rcases turn i n H5 w5 with⟨stop,qn⟩| ⟨go,N,hN,step⟩
  ·have q:=T.done X' hP hw hK hcal i [] s5 (IQ nc σ cap) H5 VO I5 (stat fr5) st5 stop
   rw[hA] at q
   refine Az q fun r s6 ⟨hr,I6⟩=>?_
   subst hr
   have B:=I6.base
   rw[hfs,hex,hs0,hH0] at B
   have I7:Inv X pins σ H5 s6:=by
    refine I3.call' (ch:=fp) (by rw[I6.os,hs0]) B (by have:=I6.hok;rw[hP,hw] at this;exact this) I6.bare fun b hb=>?_
    obtain⟨_,q2,q3,q4,q5,q6⟩:=f3 b hb
    exact⟨q4,q2,q5,q6⟩
   obtain⟨m,hm,_⟩:=I6.loc
   have hCf:=I6.free
   rw[hE] at hm hCf
   refine out _ H5 s6 I7 ⟨m,hm⟩ hCf (oJ I3.lt) I3.sz (fun x c e z=>?_) (fun p hp z=>?_) qn
   ·obtain⟨v,hv⟩:=I3.cell x c e
    exact absurd hv.lt (by rw[z];exact k8 _)
   ·exact absurd (je (I3.pin p hp).1) (by rw[z];exact k8 _)
  ·have q:=T.item X' hP hw hK hcal i [] s5 (IQ nc σ cap) H5 VO I5 (stat fr5) st5 go
   rw[hA] at q
   refine Az q fun r s6 ⟨u,hr,h6⟩=>?_
   subst hr
   refine Az h6 fun _ s7 ⟨x,H7,I7,r7,y7,st7,fr7⟩=>?_
   have I7':=I7.pinned (stat fr7) (T.obj _ _ st7)
   have q8:=hg X' is' _ s7 _ H7 x u _ I7' r7 (step x H7 y7)
   rw[hP,hw,hA,hE,hxe] at q8
   refine Az q8 fun _ s8 ⟨σ8,H8,I8,⟨pre,hpl,hσ8⟩,q8⟩=>?_
   have q9:=ht X' is' _ s8 σ8 H8 _ I8 q8
   rw[hP,hw,hA,hE,hxe] at q9
   have wk:∀{s':c9} {H':Hp} {pl:List (Addr×Obj)},Inv X' pl σ8 H' s'→Inv X' pl (IQ nc σ cap) H' s':=fun{s' H' pl} J'=>by
    refine J'.weak (by rw[J'.len,I4.len]) fun j v e=>?_
    rw[hσ8]
    by_cases hj:j<nc.length
    ·have e:(kX nc.length (none:Option V)++CO σ cap)[j]?=some (some v):=e
     rw[jz (by simpa using hj),mx] at e
     split at e<;>cases e
    ·have e:(kX nc.length (none:Option V)++CO σ cap)[j]?=some (some v):=e
     rw[jw (by simpa using hj)] at e
     rw[jw (by omega),hpl]
     simpa using e
   have again:∀{s':c9} {H':Hp} {m':Nat},Inv X' ([]++Gz fp s7.heap) σ8 H' s'→m'<n→W (i+1) m' H'→
     ∃m,m<n∧∃i H',Inv X' [] (IQ nc σ cap) H' s'∧tn i s'.heap∧(∀b∈fp,H' b=none)∧W i m H':=fun{s' H' m'} J' hm hW=>by
    refine⟨m',hm,i+1,H',wk J'.unpinned,T.keep _ _ _ st7 fun b hb o e=> (J'.pin (b,o) (kM _ (kM _ (Cp hb e)))).1,fun b hb=>?_,hW⟩
    obtain⟨o,e,d⟩:=T.obj _ _ st7 b hb
    exact(J'.pin (b,o) (kM _ (kM _ (Cp hb e)))).2.1
   refine Az q9 fun b s9 ⟨H9,I9,q9⟩=>?_
   cases b with
   |false=>
    rw[if_neg i5] at q9 ⊢
    obtain⟨m',hm,hW⟩:=hN _ q9
    exact again I9 hm hW
   |true=>
    rw[if_pos rfl] at q9 ⊢
    have qe:=he X' is' _ s9 σ8 H9 _ I9 q9
    rw[hP,hw,hA,hE,hxe] at qe
    refine Az qe fun u s10 ⟨y,H10,I10,ry,ys,hys,hlen,hNn⟩=>?_
    obtain⟨m',hm,hW⟩:=hN _ hNn
    have qa:=Ih (X:=X') _ s10 σ8 H10 (.ref p) [y] (.ref p) [u] (fun _ H'=>H'=upd H10 p (.lst (ys++[y]))) I10 rfl (.cons ry .nil) ⟨p,ys,y,rfl,rfl,hys,hlen,rfl⟩
    rw[hP,hw,hA,hxe] at qa
    refine Az qa fun _ s11 ⟨_,H11,I11,_,e11⟩=>?_
    subst e11
    exact again I11 hm hW
 have st5:=loop _ rfl
 exact codeAny_compStart_list (loop _ rfl) (T.self X.A 0 _ _ _ st4 (loop _ rfl))
end
section
variable{X:Cx}{elt tg iter:Expr}{ifs:List Expr}{csc:Scope}{nc:List Str}{cap:List (Str×Nat)}{wi:TI}{g:TG}{tt:TT}{te:TE}{pos:Pos}
theorem LcOk.clos{pins:List (Addr×Obj)}{σ:St}{H:Hp}{s:c9}(ok:LcOk X csc nc cap)(I:Inv X pins σ H s):
  ∃cl,closureFor csc X.env=pure cl∧(∀x c,cl.lookup x=some c→X.env.cells.lookup x=some c)∧∀y∈csc.names,y.2=.free→(cl.lookup y.1).isSome=true:=
 VL fun y hy hf=>I.ok.has y.1 (ok.free y hy hf)
theorem cO(hc:X.calm=true)(ok:LcOk X csc nc cap)(hi:PI X tg iter wi)(hg:∀X',LcCx X csc (Ak nc cap) X'→PG X' tg g)(ht:∀X',LcCx X csc (Ak nc cap) X'→Yx X' ifs tt)(he:∀X',LcCx X csc (Ak nc cap) X'→PE X' elt te)
  (hs:∀x,lU iter X.env x=pure x:=by intro _;rfl):PE X (.ListComp elt [⟨tg,iter,ifs,0⟩] csc pos) (fb wi nc cap g tt te):=by
 intro pins s σ H Q I h
 obtain⟨cl,hcl,hc1,hc2⟩:=ok.clos I
 rw[eval_ListComp]
 refine wpAny_comprehension_free (use:=none) rfl hs hcl ok.kind ok.locals (Az (hi pins s σ H _ I h) fun v s1 h1=>Az h1 fun itv s2 h2=>?_)
 obtain⟨it,fp,tn,J,H2,e,I2,T,st2,f2,run⟩:=h2
 subst e
 refine LI (RR:=fun acc C=>compPost (model X.prog X.w) X.A X.xe none (EP X pins σ Q) acc C) hc ok hg ht he hc1 hc2 I2 T st2 f2 (run _ (I2.hok.fresh (jb _))) ?_
 intro C H' s' I' hn h1 h2 h3 h4 h5 q
 obtain⟨m,hn⟩:=hn
 refine⟨m,hn,fun h' sb=> ⟨.ref s2.heap.objs.size,H',?_,rfl,q⟩⟩
 exact I'.turned (t':=s'.toks) (fun b o hb e=> (sb.2 b hb).trans e) h1 h2 (.inr h3) h4 h5
noncomputable def Yy(i:Nat)(te:TE):TS:=fun D σ H=>te σ H fun v H1=>D.nx (σ.set i (some v)) H1
theorem LJ{i:Nat}{x:Str}{px spos:Pos}(hN:X.N.Nodup)(hx:X.N[i]?=some x)(hk:X.env.scope.names.lookup x=some .local)(hsw:qx (.ListComp elt [⟨tg,iter,ifs,0⟩] csc pos) (some (.Name x px)) spos.line X.env=pure true)
  (hc:X.calm=true) (ok:LcOk X csc nc cap) (hi:PI X tg iter wi) (hg:∀X',LcCx X csc (Ak nc cap) X'→PG X' tg g) (ht:∀X',LcCx X csc (Ak nc cap) X'→Yx X' ifs tt) (he:∀X',LcCx X csc (Ak nc cap) X'→PE X' elt te)
  (hs:∀x,lU iter X.env x=pure x:=by intro _;rfl):PS X (.Assign [.Name x px] (.ListComp elt [⟨tg,iter,ifs,0⟩] csc pos) spos) (Yy i (fb wi nc cap g tt te)):=by
 intro pins s σ H D I h
 obtain⟨cl,hcl,hc1,hc2⟩:=ok.clos I
 rw[exec_Assign_Name_used _ _ _ _ hsw]
 refine b6 (oi (b6 ?_))
 show wpAny _ X.A (do let _←comprehension (.ListComp elt [⟨tg,iter,ifs,0⟩] csc pos) csc X.env _ (newList []) false (eval iter X.env) (some (assign (.Name x px) X.env))) _ _ s
 refine b6 (Az (wpAny_comprehension_free (use:=some (assign (.Name x px) X.env)) (Q:=fun _ s'=>SP X pins D .next s') rfl hs hcl ok.kind ok.locals
  (Az (hi pins s σ H _ I h) fun v s1 h1=>Az h1 fun itv s2 h2=>?_)) fun _ s' hq=>e6 (e6 hq))
 obtain⟨it,fp,tn,J,H2,e,I2,T,st2,f2,run⟩:=h2
 subst e
 refine LI (RR:=fun acc C=>compPost (model X.prog X.w) X.A X.xe (some (assign (.Name x px) X.env)) (fun _ s'=>SP X pins D .next s') acc C) hc ok hg ht he hc1 hc2 I2 T st2 f2 (run _ (I2.hok.fresh (jb _))) ?_
 intro C H' s' I' hn h1 h2 h3 h4 h5 q
 obtain⟨m,hn⟩:=hn
 show wpAny _ X.A (assign (.Name x px) X.env (.ref s2.heap.objs.size)) _ _ _
 refine wpAny_assign_Name (IZ I' hN hx (.inl hk) (v:=.ref s2.heap.objs.size) rfl (fun s'' I'' ha=>?_) (.inr hk))
 obtain⟨a,sb,ha⟩:=ha
 have hCa:C≠a:=by
  rcases ha with ha|ha
  ·rw[ha];exact h2
  ·exact fun z=>h4 x a ha z.symm
 refine⟨m,hn.sameBut sb hCa,fun h' sb'=> ⟨_,H',?_,q⟩⟩
 exact I''.turned (t':=s''.toks) (fun b o hb e=> (sb'.2 b hb).trans e) h1 h2 (.inr h3) h4 h5
end
section
variable{K:b9}{nc:List Str}{cap:List (Str×Nat)}{g:TG}{tt:TT}{te:TE}{σ:St}{p a:Addr}{H:Hp}{Q:Hp→Prop}
end
noncomputable def DK(h h':Heap):Prop:=h.objs.size≤h'.objs.size∧∀e,e<h.objs.size→(h'.objs[e]?).map (·.dict)=(h.objs[e]?).map (·.dict)
theorem DK.refl(h:Heap):DK h h:=⟨jb _,fun _ _=>rfl⟩
theorem DK.trans{a b c:Heap}(x:DK a b)(y:DK b c):DK a c:=⟨kG x.1 y.1,fun e he=> (y.2 e (jy he x.1)).trans (x.2 e he)⟩
theorem DK.push{h:Heap}{o:Obj}:DK h (h.push o):=by
 refine⟨by rw[k7];omega,fun e he=>?_⟩
 show((h.objs.push o)[e]?).map _=_
 rw[Array.getElem?_push,if_neg (by omega)]
theorem DK.upd{h:Heap}{a:Addr}{f:Obj→Obj}(hf:∀o,(f o).dict=o.dict):DK h (h.update a f):=by
 obtain⟨objs,l⟩:=h
 refine⟨by show objs.size≤(objs.modify a f).size;simp,fun e he=>?_⟩
 show((objs.modify a f)[e]?).map _=_
 rw[Array.getElem?_modify]
 split
 ·cases objs[e]? with
  |none=>rfl
  |some o=>exact congrArg some (hf o)
 ·rfl
theorem OW{h:Heap}{e:Addr}{o:Obj}(q:h.get? e=some o):h.objs[e]?=some o:=by
 unfold Heap.get? at q
 split at q
 ·cases q
 ·exact q
theorem DK.at_{h h':Heap}{e:Addr}{o o':Obj}(x:DK h h')(q:h.get? e=some o)(q':h'.get? e=some o'):o'.dict=o.dict:=by
 have z:=x.2 e (je q)
 rw[OW q,OW q'] at z
 exact ki.inj z
inductive KD{α:Type}:Sem α→Prop
 |pure (a:α):KD (.pure a)
 |raise (e:Value):KD (.raise e)
 |unsup (x:String):KD (.unsupported x)
 |load {a:Addr} {p:Option Value} {k:Obj→Sem α}:(∀o,KD (k o))→KD (.load a p k)
 |upd {a:Addr} {p:Option Value} {f:Obj→Obj} {k:Unit→Sem α}:(∀o,(f o).dict=o.dict)→KD (k ())→KD (.update a p f k)
 |alloc {o:Obj} {k:Addr→Sem α}:(∀a,KD (k a))→KD (.alloc o k)
 |stack {k:List (Code×Pos)→Sem α}:(∀l,KD (k l))→KD (.stack k)
theorem KD.bind{α β:Type}{m:Sem α}{f:α→Sem β}(h:KD m)(hf:∀a,KD (f a)):KD (m>>=f):=by
 show KD (Sem.bind m f)
 induction h with
 |pure a=>exact hf a
 |raise e=>exact .raise e
 |unsup x=>exact .unsup x
 |load _ ih=>exact .load ih
 |upd q _ ih=>exact .upd q ih
 |alloc _ ih=>exact .alloc ih
 |stack _ ih=>exact .stack ih
theorem KD.wp{α:Type}{M:Model}{Γ:PySem.Ctx}{Q:α→Pos→c9→Prop}{E:Value→Pos→c9→Prop}{h0:Heap}{t:Sem α}(h:KD t):∀{p:Pos} {s:c9},DK h0 s.heap→Sem.wp M Γ t Q E p s→Sem.wp M Γ t (fun a p' s'=>Q a p' s'∧DK h0 s'.heap) E p s:=by
 induction h with
 |pure a=>intro p s d q;exact⟨q,d⟩
 |raise e=>intro p s d q;exact q
 |unsup x=>intro p s d q;exact q
 |load _ ih=>intro p s d q;obtain⟨o,e,q⟩:=q;exact⟨o,e,ih o d q⟩
 |upd hf _ ih=>intro p s d q;exact⟨q.1,ih (d.trans (.upd hf)) q.2⟩
 |alloc _ ih=>intro p s d q;exact ih _ (d.trans .push) q
 |stack _ ih=>intro p s d q;exact ih _ d q
theorem KD.any{α:Type}{M:Model}{A:js}{Q:α→c9→Prop}{E:Value→c9→Prop}{s:c9}{t:Sem α}(h:KD t)(q:wpAny M A t Q E s):wpAny M A t (fun a s'=>Q a s'∧DK s.heap s'.heap) E s:=
 fun Γ p g=>h.wp (.refl _) (q Γ p g)
theorem KD.ite{α:Type}{c:Prop} [Decidable c]{a b:Sem α}(ha:KD a)(hb:KD b):KD (if c then a else b):=by split<;>assumption
theorem LK(v:Value):KD (fieldsOf v):=by
 unfold fieldsOf
 split
 ·refine KD.bind (.load fun o=> .pure o) fun o=>?_
  split
  ·exact .pure _
  ·exact .unsup _
 ·exact .unsup _
theorem Eg(v:Value)(i:Nat):KD (field v i):=by
 unfold field
 refine(LK v).bind fun vs=>?_
 split
 ·exact .pure _
 ·exact .unsup _
theorem HE(f:Array Value→Array Value)(o:Obj):(Obj.mapFields f o).dict=o.dict:=by
 unfold Obj.mapFields;split<;>rfl
theorem DS(v:Value)(i:Nat)(x:Value):KD (setField v i x):=by
 unfold setField
 split
 ·unfold updateField
  refine KD.bind (.load fun o=> .pure o) fun o=>?_
  split
  ·exact .ite (.upd (HE _) (.pure _)) (.unsup _)
  ·exact .unsup _
 ·exact .unsup _
theorem Ja(e:Value)(f:Option Addr):KD (setFlight e f):=by
 unfold setFlight
 exact(Eg e 1).bind fun tb=> .ite (DS _ _ _) (.pure _)
theorem LL:∀(l:List Env),KD (readyFrames l)
 | []=> .pure _
 |env::outer=>by
  unfold readyFrames
  split
  ·refine KD.bind (.load fun o=> .pure o) fun o=>?_
   refine .ite (.pure _) ?_
   refine KD.bind ?_ fun im=>?_
   ·unfold behindIsImport
    exact .ite (.pure _) (.ite (.pure _) ((Eg _ _).bind fun _=> .pure _))
   refine KD.bind ?_ fun bk=>?_
   ·unfold keptBack
    split
    ·refine .ite (.pure _) (KD.bind ?_ fun _=> .pure _)
     unfold underTheClaimsCaller
     exact KD.bind (.stack fun _=> .pure _) fun _=> .pure _
    ·exact .pure _
   exact KD.bind (.upd (fun _=>rfl) (.pure _)) fun _=>LL outer
  ·exact .unsup _
theorem Mw(env:Env):KD (sE env):=by
 unfold sE
 refine KD.bind ?_ fun es=>?_
 ·unfold frameEnvs
  exact KD.bind (.stack fun _=> .pure _) fun _=> .pure _
 refine KD.bind ?_ fun r=>?_
 ·cases es.dropWhile (·.frame !=env.frame) with
  |nil=>exact .pure _
  |cons a b=>unfold frameObject;exact(LL _).bind fun _=> .pure _
 split
 ·exact .pure _
 ·exact .unsup _
theorem Re(f:Addr)(b:Bool):KD (sO f b):=by
 unfold sO
 refine KD.bind (.stack fun _=> .pure _) fun _=>?_
 split<;>exact .pure _
theorem Rf(h a l f i:Value)(pl:List Value):KD (qr h a l f i pl):=by
 have z:∀d,KD (newObjAsIs (.type "traceback") d):=fun d=> .alloc fun a=> .pure _
 unfold qr newFields newObj
 dsimp only
 exact .ite (KD.bind (.unsup _) fun _=>z _) (z _)
theorem VR(e:Value)(env:Env):KD (noteFrame e env):=by
 unfold noteFrame
 split
 ·rename_i f hf
  refine(Eg e 1).bind fun head=>?_
  have fin:KD (do setField e 1 (←qr head (←sE env) .none (pG f) .none (←sO f (head !=.none)))):=
   (Mw env).bind fun a=> (Re _ _).bind fun pl=> (Rf _ _ _ _ _ _).bind fun b=>DS _ _ _
  refine .ite ?_ fin
  exact(Eg _ _).bind fun x=> .ite (.pure _) ((DS _ _ _).bind fun _=>fin)
 ·exact .unsup _
theorem HF(env:Env)(e:Value):KD (leaving env e):=(VR e env).bind fun _=>Ja e none
theorem ObjOk.obj{P:Program}{w:World}{H:Hp}{h:Heap}{a:Addr}{o:HO}(x:ObjOk P w H h a o):∃ob,h.get? a=some ob:=by
 cases o with
 |lst xs=>obtain⟨_,_,_,_,e⟩:=x;exact⟨_,e⟩
 |tup xs=>obtain⟨_,_,_,o,e,_⟩:=x;exact⟨_,e⟩
 |dK kvs=>obtain⟨_,_,_,_,o,_,_,e,_⟩:=x;exact⟨_,e⟩
 |dT kvs=>obtain⟨_,_,_,_,o,_,_,e,_⟩:=x;exact⟨_,e⟩
 |set S n=>obtain⟨o,_,_,_,e,_⟩:=x;exact⟨_,e⟩
 |ins C dx fs=>obtain⟨_,_,_,e,_⟩:=x;exact⟨_,e⟩
 |own y=>obtain⟨_,e⟩:=x;exact⟨_,e⟩
 |xd fs=>obtain⟨_,⟨_,_,_,e,_⟩,_⟩:=x;exact⟨_,e⟩
 |rng lo hi=>obtain⟨_,_,_,e⟩:=x;exact⟨_,e⟩
 |frz ob u=>obtain⟨e,_⟩:=x;exact⟨_,e⟩
 |tbl ps=>exact⟨_,(show h.get? a=some _ from x)⟩
 |met f y=>exact⟨_,(show h.get? a=some _ from x)⟩
 |ext φ=>obtain⟨_,⟨_,e⟩,_⟩:=x;exact⟨_,e⟩
theorem HOk.none_of{P:Program}{w:World}{H:Hp}{h:Heap}{a:Addr}(x:HOk P w H h)(e:h.get? a=none):H a=none:=by
 cases q:H a with
 |none=>rfl
 |some u=>
  obtain⟨ob,e'⟩:=(x a u q).obj
  rw[e] at e';cases e'
noncomputable def fc(n:Nat):Int:=if n%2=0 then((n/2:Nat):Int) else-((n/2:Nat):Int)
noncomputable def ip:List Nat→List (Str×V)
 |0::n::_=> [("number",.int (fc n))]
 |1::n::_=> [("row",.int (fc n))]
 |2::n::m::_=> [("many",.int (fc n)),("most",.int (fc m))]
 |_=> []
noncomputable def iN(x:Str):List (Str×V):=ip x.cps.toList
noncomputable def Rg:Value→Value
 | .str _ C=> .ref C
 |v=>v
noncomputable def gW(dx:Addr)(fs:List (Str×V))(h:Heap):Prop:=∃mA,h.Ns1 dx mA∧(∀f,Us (fs.lookup f) (mA f))∧sS mA (fs.map (·.1))
noncomputable def iO(dx:Addr)(fs:List (Str×V)):HO:=.ext (gW dx fs)
noncomputable def DicX(cls:Value)(x:Addr)(H:Hp)(h:Heap):Prop:=∀fs C,cls=.str fs C→∃ox dx,h.get? x=some ox∧ox.dict=some dx∧H dx=some (iO dx (iN fs))
theorem DicX.ref{C x:Addr}{H:Hp}{h:Heap}:DicX (.ref C) x H h:=fun _ _ e=>nomatch e
theorem DicX.dk{cls:Value}{x:Addr}{H:Hp}{h h':Heap}(q:DicX cls x H h)(d:DK h h')(e:∃o',h'.get? x=some o'):DicX cls x H h':=fun fs C z=>by
 obtain⟨ox,dx,e1,e2,e3⟩:=q fs C z
 obtain⟨o',e'⟩:=e
 exact⟨o',dx,e',(d.at_ e1 e').trans e2,e3⟩
structure Fly(P:Program)(w:World)(outer:List Env)(H:Hp)(s:c9)(H':Hp)(x:Addr)(cls:Value)(s':c9):Prop where
 os:s'.os=s.os
 bare:qw s'.gens
 un:Un (IJ outer) [] H H' s.heap s'.heap
 hok:HOk P w H' s'.heap
 fr:H' x=none
 fly:∃B t,(∀b,H' b≠none→∃o,B.get? b=some o)∧(∀b o,s.heap.get? b=some o→b∉IJ outer→∃o',B.get? b=some o')∧tj B outer x (Rg cls) (.ref t) s'.heap
 dic:DicX cls x H' s'.heap
noncomputable def CXe(P:Program)(w:World):RQ:=fun outer H s E e s'=>∃x cls H',e=.ref x∧Fly P w outer H s H' x cls s'∧E cls none H'
theorem CXe.never{P:Program}{w:World}{outer:List Env}{H:Hp}{s s':c9}{e:Value}(h:CXe P w outer H s E0 e s'):False:=by
 obtain⟨_,_,_,_,_,q⟩:=h
 exact q
structure XFly(X:Cx)(W:St→XK):Prop where
 fly:∀(pins:List (Addr×Obj)) (σ:St) (H:Hp) (s:c9) (e:Value) (s':c9),Inv X pins σ H s→CXe X.prog X.w X.stack H s (W σ) e s'→X.xe e s'
structure XOk(X:Cx)(W:St→XK):Prop where
 made:∀(pins:List (Addr×Obj)) (σ:St) (H:Hp) (s:c9) (h':Heap) (x C:Addr),Inv X pins σ H s→Heap.MadeExcOf s.heap h' x (.ref C) []→W σ (.ref C) none H→X.xe (.ref x) {s with heap:=h'}
 fly:∀(pins:List (Addr×Obj)) (σ:St) (H:Hp) (s:c9) (e:Value) (s':c9),Inv X pins σ H s→CXe X.prog X.w X.stack H s (W σ) e s'→X.xe e s'
 own:qz (model X.prog X.w) X.A X.env X.xe
 madeF:∀(pins:List (Addr×Obj)) (σ:St) (H:Hp) (s:c9) (x C t dx:Addr) (fs:Str),Inv X pins σ H s→H x=none→X.s₀.heap.get? x=none→s.heap.get? x=some ⟨.ref C,some dx,.fields #[.ref t,.none,.none,.none,.bool false,.none],#[]⟩→H dx=some (iO dx (iN fs))→W σ (.str fs C) none H→X.xe (.ref x) s
theorem HOk.by_keep{P:Program}{w:World}{H:Hp}{h h':Heap}(x:HOk P w H h)(k:∀b o,H b≠none→h.get? b=some o→h'.get? b=some o):HOk P w H h':=fun a o e=>
 (x a o e).stay (fun b u hb q=>k b u (by
  rcases hb with rfl|hb
  ·rw[e];exact fun z=>nomatch z
  ·rw[hb];exact fun z=>nomatch z) q) (fun _ q=>q) fun _ _ q=>q
section
variable{P:Program}{w:World}{K:b9}{mg:Str→Option Value}{base:Heap}{N:List Str}{qual:Str}{scope:Scope}{f:Addr}{cd:Value}{A:js}{outer:List Env}{s:c9}{H:Hp}{E:XK}
theorem Jb{X:Cx}{pins:List (Addr×Obj)}{σ:St}{H1:Hp}{s2:c9}{h':Heap}{x:Addr}{cls:Value}{B:Heap}{t:Addr}(hst:X.stack=X.env::X.outer)(hex:X.ex=[])(hfr:X.env.frame=some X.env.locals)(I:Inv X pins σ H1 s2)
  (hB1:∀b,H1 b≠none→∃o,B.get? b=some o) (hB2:∀b o,X.s₀.heap.get? b=some o→b∉IJ X.outer→∃o',B.get? b=some o') (hx:H1 x=none) (hs2:B.StaysIn s2.heap) (fl:tj B X.outer x (Rg cls) (.ref t) h') (up:s2.heap.UpToSlots h') (dq:DicX cls x H1 h'):
  Fly X.prog X.w X.outer X.H₀ X.s₀ H1 x cls {s2 with heap:=h'}:=by
 have fsm:∀b o,b∈X.fs→s2.heap.get? b=some o→∃sl,h'.get? b=some {o with slots:=sl}:=fun b o hb e=>by
  obtain⟨_,o',e',hd⟩:=I.funs.mem hb
  rw[e] at e';cases e'
  exact up b o e hd
 have same:∀b o o',B.get? b=some o'→s2.heap.get? b=some o→h'.get? b=some o:=fun b o o' e1 e2=>by
  have q:=hs2 b o' e1
  rw[e2] at q;cases q
  exact fl.1 b o e1
 refine⟨I.os,I.bare,⟨fun b o e n hb _=>?_,fun b o e n hb _=>?_,fun b o e n _=>?_,fun b o e _=>?_,I.base.tups,I.base.frzs,I.base.tbls⟩,I.hok.by_keep fun b o hb e=>?_,hx,⟨B,t,hB1,hB2,fl⟩,dq⟩
 ·obtain⟨o',e'⟩:=hB2 b o e hb
  exact same b o o' e' (I.base.keep b o e n hb (by rw[hex];simp))
 ·obtain⟨sl,e1⟩:=I.base.slot b o e n hb (by rw[hex];simp)
  obtain⟨sl',e2⟩:=fsm b _ hb e1
  exact⟨sl',e2⟩
 ·exact I.base.free b o e n (by rw[hex];simp)
 ·obtain⟨o1,e1⟩:=I.base.there b o e (by rw[hex];simp)
  by_cases hb:b∈X.fs
  ·obtain⟨sl,e2⟩:=fsm b o1 hb e1
   exact⟨_,e2⟩
  ·obtain⟨o',e'⟩:=hB2 b o e hb
   exact⟨o',fl.1 b o' e'⟩
 ·obtain⟨o',e'⟩:=hB1 b hb
  exact same b o o' e' e
theorem Ao:XOk (CU (CXe P w) P w K mg base N qual scope f cd A outer s H E) (fun _=>E) where
 made:=by
  intro pins σ H1 s1 h' x C I hx q
  have hin:∀env∈(CU (CXe P w) P w K mg base N qual scope f cd A outer s H E).stack,∀b,env.frame=some b→b∈IJ (CU (CXe P w) P w K mg base N qual scope f cd A outer s H E).stack:=fun env he b hb=>ml.mpr ⟨env,he,hb⟩
  have hxn:H1 x=none:=I.hok.none_of hx.new
  have I':Inv (CU (CXe P w) P w K mg base N qual scope f cd A outer s H E) pins σ H1 {s1 with heap:=h'}:=I.kept (t':=s1.toks) hx.keeps
  refine wpAny_leaves_madeW (base:=oW s1.heap (IJ (CU (CXe P w) P w K mg base N qual scope f cd A outer s H E).stack)) (h:=s1.heap) I.ok.frames rfl (fun b o q=>o9 _ q) (PySem.W.funFrames_hide I.stack hin) hx fun h2 t x1 x2 x3 x4=>?_
  refine⟨x,.ref C,H1,rfl,?_,q⟩
  refine Jb (X:=CU (CXe P w) P w K mg base N qual scope f cd A outer s H E) rfl rfl rfl I' (fun b hb=>?_) (fun b o e hb=>?_) hxn (fun b o e=>hx.keeps b o (o9 _ e)) x1 x4 .ref
  ·cases e:H1 b with
   |none=>exact absurd e hb
   |some u=>
    obtain⟨o,eo⟩:=(I.hok b u e).obj
    exact⟨o,nP _ eo fun z=>hb (I.stkFree b z)⟩
  ·obtain⟨o1,e1⟩:=I.base.there b o e (fun z=>nomatch z)
   refine⟨o1,nP _ e1 fun z=>?_⟩
   rcases i6.mp (I.stkSub b z) with z|z
   ·exact absurd z (jY (jy (je e) I.ok.above))
   ·exact hb z
 fly:=by
  rintro pins σ H1 s1 e s2 I ⟨x,cls,H2,rfl,F,q⟩
  obtain⟨B,t,b1,b2,fl⟩:=F.fly
  have I2:Inv (CU (CXe P w) P w K mg base N qual scope f cd A outer s H E) pins σ H2 s2:=I.call' (ch:=[]) F.os F.un F.hok F.bare (fun b z=>absurd z (by simp))
  refine nY (KD.any (HF _ _) (wpAny_leaves_onW (E:=fun _ _=>False) (Q:=fun _ s3=>tj B outer x (Rg cls) (.ref t) s3.heap∧s2.heap.UpToSlots s3.heap∧s3={s2 with heap:=s3.heap}) I.ok.frames rfl fl fun h' x1 x2=> ⟨x1,x2,rfl⟩)) ?_ fun _ _ z=>nL z
  rintro _ s3 ⟨⟨x1,x2,e3⟩,dk⟩
  refine⟨x,cls,H2,rfl,?_,q⟩
  rw[e3]
  refine Jb (X:=CU (CXe P w) P w K mg base N qual scope f cd A outer s H E) rfl rfl rfl I2 b1 (fun b o e hb=>?_) F.fr fl.1 x1 x2 (F.dic.dk dk (let⟨o,e,_⟩:=x1.there;⟨o,e⟩))
  obtain⟨o1,e1⟩:=I.base.there b o e (fun z=>nomatch z)
  refine b2 b o1 e1 fun z=>?_
  rcases i6.mp (I.stkSub b z) with z|z
  ·exact absurd z (jY (jy (je e) I.ok.above))
  ·exact hb z
 own:=qz.leaving
 madeF:=by
  intro pins σ H1 s1 x C t dx fs I hxn hs0 ex hdx q
  have hin:∀env∈(CU (CXe P w) P w K mg base N qual scope f cd A outer s H E).stack,∀b,env.frame=some b→b∈x::IJ (CU (CXe P w) P w K mg base N qual scope f cd A outer s H E).stack:=fun env he b hb=>jn _ (ml.mpr ⟨env,he,hb⟩)
  have hkb:Heap.StaysIn (oW s1.heap (x::IJ (CU (CXe P w) P w K mg base N qual scope f cd A outer s H E).stack)) s1.heap:=fun b o q=>o9 _ q
  have hen:(oW s1.heap (x::IJ (CU (CXe P w) P w K mg base N qual scope f cd A outer s H E).stack)).get? x=none:=by
   exact PySem.W.hideAll_none _ (j9 ..)
  refine nY (KD.any (HF _ _) (wpAny_leaving_firstW (E:=fun _ _=>False) (Q:=fun _ s3=>Heap.LeftW (oW s1.heap (x::IJ (CU (CXe P w) P w K mg base N qual scope f cd A outer s H E).stack)) _ x (.ref C) (.ref t) s1.heap s3.heap∧s3={s1 with heap:=s3.heap}) I.ok.frames (PySem.W.funFrames_hide I.stack hin) rfl ex hkb hen rfl rfl rfl fun h' hL=> ⟨hL,rfl⟩)) ?_ fun _ _ z=>nL z
  rintro _ s3 ⟨⟨⟨x1,⟨_,_,x2⟩,x3,x4⟩,e3⟩,dk⟩
  refine⟨x,.str fs C,H1,rfl,?_,q⟩
  rw[e3]
  have hth:∃o,s3.heap.get? x=some o:=by
   obtain⟨oe,_,_,_,_,he,_⟩:=x3
   exact⟨oe,he⟩
  refine Jb (X:=CU (CXe P w) P w K mg base N qual scope f cd A outer s H E) rfl rfl rfl I (fun b hb=>?_) (fun b o e hb=>?_) hxn hkb ⟨x1,hen,x2,x3⟩ x4 ?_
  ·cases e:H1 b with
   |none=>exact absurd e hb
   |some u=>
    obtain⟨o,eo⟩:=(I.hok b u e).obj
    refine⟨o,nP _ eo fun z=>?_⟩
    rcases i6.mp z with z|z
    ·rw[z] at e;rw[hxn] at e;cases e
    ·exact hb (I.stkFree b z)
  ·obtain⟨o1,e1⟩:=I.base.there b o e (fun z=>nomatch z)
   refine⟨o1,nP _ e1 fun z=>?_⟩
   rcases i6.mp z with z|z
   ·rw[z] at e;rw[hs0] at e;cases e
   rcases i6.mp (I.stkSub b z) with z|z
   ·exact absurd z (jY (jy (je e) I.ok.above))
   ·exact hb z
  ·exact DicX.dk (h:=s1.heap) (fun fs' C' z=>by cases z;exact⟨_,dx,ex,rfl,hdx⟩) dk hth
end
section
variable{X:Cx}{W:St→XK}
noncomputable def Yz(sp:Sp)(W:St→XK)(t:TA):TE:=fun σ H Q=>t σ H fun vs H1=>sp vs H1 Q (W σ)
theorem XOk.f(x:XOk X W):XFly X W:=⟨x.fly⟩
theorem LM{k:Nat}{f:Addr}{fd:jv}{ps:List Str}{sp:Sp}{x:Str}{p pos:Pos}{e:Expr}{es:List Expr}{t:TA}(xo:XFly X W)(F:FnOk X.prog X.w X.K X.mg X.base (CXe X.prog X.w) k f fd ps sp)(hr:Room k X.A)(hg:Gl X x)(hm:X.mg x=some (.ref f))(hk:nh X.K (.ref f)=true)(hb:Binds X.K fd ps [])
  (ha:PA X (e::es) t) (hdb:(x==("__debug__" :Str))=false:=by decide) (he:i7 (e::es) X.env=(false,eval e X.env)::i7 es X.env:=by rfl) (hpl:(mM pos (i7 es X.env)).any (·.1)=false:=by rfl):
  PE X (.Call (.Name x p) (e::es) [] pos) (Yz sp W t):=by
 intro pins s σ H Q I h
 refine o6 (OJ I hg hm ?_ hdb)
 refine PySem.W.callWith_K (h₀:=X.base) I.ok.mod.kin hk (Az (ha pos pins s σ H _ I h) fun us s1 ⟨vs,H1,I1,r,q⟩=> ⟨I1.kIn,?_⟩) he hpl
 have r2:Vals vs (us++[]):=by rw[mj];exact r
 have hl:(us++[]).length=ps.length:=by rw[←r2.length];exact F.len _ _ _ _ q
 refine rq (qu (F.run X.A X.stack s1 H1 ⟨us,[]⟩ (us++[]) vs Q (W σ) hr I1.env0 (hb s1 us I1.kIn hl) r2 q) fun r s' hq=>?_)
 cases r with
 |error e=>exact xo.fly pins σ H1 s1 e s' I1 hq
 |ok fl=>
  cases fl with
  |ret u=>exact I1.after hq
  |next=>exact nL hq
  |brk=>exact nL hq
  |cont=>exact nL hq
end
open PySem.Calls
section
variable{prog:Program}{w:World}{A:js}{E:Value→c9→Prop}{s:c9}{K:b9}{x D:Addr}{ox:Obj}{od:Option Obj}{name:Str}
structure ExcCls(K:b9)(D:Addr):Prop where
 ga:pH K (.ref D) "__getattribute__" =some (some (.builtin "BaseException.__getattribute__"))
 gn:pH K (.ref D) "__getattr__" =some none
 be:qU K D (.type "BaseException")=some true
 ob:qU K D (.type "object")=some true
 cl:pH K (.ref D) "__class__" =some (some (.builtin "object.__class__"))
 gt:PySem.W.specialIn K (.builtin "object.__class__") "__get__" =some (some (.builtin "getset_descriptor.__get__"))
 tk:PySem.W.takesIn K (.builtin "object.__class__")=some true
noncomputable def TyAt(D x:Addr)(h:Heap):Prop:=∃ox,h.get? x=some ox∧ox.cls=.ref D
theorem TyAt.looks{M:Model}{h:Heap}(p:TyAt D x h):oq M h (typeOf (.ref x)) (.ref D):=by
 obtain⟨o,h1,h2⟩:=p
 exact h2▸(oq.ld h1).andThen .now
open PySem.W Builtin Builtin.ObjectAttr Builtin.Getset_descriptor in
theorem Mx {R:tB→c9→Prop} {tp:Value} (X:K.In s.heap) (I:TyAt D x s.heap) (hm:qU K D (.type "object")=some true) (h:R (.ok (.ret (.ref D))) s):
  oG (model prog w) A (.call (.builtin "getset_descriptor.__get__") ⟨[.builtin "object.__class__",.ref x,tp],[]⟩) R s:=by
 obtain⟨hh,gg,dd,tt,oo⟩:=s
 have L0:=I.looks (M:=model prog w)
 have L1:=PySem.W.looks_mroIn (M:=model prog w) X hm
 refine oA
  KF.slot_gs.plain KF.entry_gs (KF.slot_gs.check _ _ _ _ _ _ _ _
   KF.type_class (KF.args_gs _ _ _) ?_)
 unfold Builtin.«getset_descriptor.__get__»
  descrGet
 rw[dga_obj]
 refine b6 (e6 ?_)
 unfold descrGetter descrCheckInstance
  descrNameAndClass isInstance
 simp only[KF.owner_class]
 repeat lk
 refine⟨Code.quiet_builtin _
  (by decide+kernel),mU KF.entry_class ?_⟩
 unfold Builtin.«object.__class__» shownTypeOf
 repeat lk
 exact h
theorem ExcCls.find{M:Model}{h:Heap}(c:ExcCls K D)(X:K.In h):oq M h (Builtin.ObjectAttr.find (.ref x) (.ref D) "__class__") (.bind (.builtin "getset_descriptor.__get__") (.builtin "object.__class__")):=by
 have L1:=qg (M:=M) X c.cl
 have L2:oq M h (Builtin.ObjectAttr.getOf (some (.builtin "object.__class__"))) (some (.builtin "getset_descriptor.__get__")):=PySem.W.looks_specialIn X c.gt
 have L3:=PySem.W.looks_takesIn (M:=M) X c.tk
 refine L1.andThen (L2.andThen ?_)
 exact(show oq M h (Builtin.ObjectAttr.dataDescriptor? (some (.builtin "object.__class__")) (some (.builtin "getset_descriptor.__get__"))) (some (.builtin "getset_descriptor.__get__",.builtin "object.__class__"))
  from L3.andThen .now).andThen (oq.tag .now)
theorem QI{Q:Option Value→c9→Prop}(c:ExcCls K D)(X:K.In s.heap)(I:TyAt D x s.heap)(h:Q (some (.ref D)) {s with toks:=s.toks+1}):wpAny (model prog w) A (getAttr? (.ref x) "__class__") Q E s:=by
 obtain⟨hh,g,d,t,os⟩:=s
 have L0:=I.looks (M:=model prog w)
 have L1:=qg (M:=model prog w) X c.ga
 have L2:=qg (M:=model prog w) X c.gn
 have L3:=PySem.W.looks_mroIn (M:=model prog w) X c.be
 have L4:=c.find (x:=x) (M:=model prog w) X
 have hb:bindSpecial (.builtin "BaseException.__getattribute__") (.ref x)=pure (.builtin "BaseException.__getattribute__",[.ref x]):=PySem.F.excAttr_ValueError.ga.bind _
 have hk:builtinKind "BaseException.__getattribute__" =some .slot:=by decide+kernel
 have hsplit:splitId "BaseException.__getattribute__" =some ("BaseException","__getattribute__"):=by decide+kernel
 have hx2:(Value.builtin "BaseException.__getattribute__" ==Value.builtin "object.__getattribute__")=false:=by decide+kernel
 unfold getAttr? getAttrBy? getAttrBy
 refine b6 (wpAny_mkText (b6 (oj (kh (b6 (L0.at (b6 (L1.at ?_))))))))
 dsimp only
 rw[hx2,qI,if_neg i5]
 unfold getAttrByItsOwn hookBefore
 refine b6 (L2.at ?_)
 refine b6 (oj (kh ?_))
 unfold callGetattribute boundAndCalled
 rw[hb]
 show wpAny _ _ (call (.builtin "BaseException.__getattribute__") [.ref x,.str "__class__" t]) _ _ _
 refine rq (oA PySem.F.excAttr_ValueError.ga.plain PySem.F.entry_bexc_ga ?_)
 have ha:=PySem.F.args_bexc_ga (.ref x) (.str "__class__" t)
 simp only[rf,hk,hsplit]
 refine b6 ?_
 unfold isInstance
 refine b6 (L0.at (L3.at ?_))
 rw[if_neg (by decide)]
 refine qd ha ?_
 show wpAny _ _ (typeOf (.ref x)>>=fun tp=>Builtin.ObjectAttr.find (.ref x) tp "__class__" >>=_) _ _ _
 refine b6 (L0.at (b6 (L4.at ?_)))
 show wpAny _ _ ((holding [.builtin "object.__class__"] (call (.builtin "getset_descriptor.__get__") [.builtin "object.__class__",.ref x,.ref D]))>>=ret) _ _ _
 refine b6 (kh (rq (Mx (s:=⟨hh,g,d,t+1,os⟩) X I c.ob ?_)))
 exact e6 (e6 (e6 h))
theorem ExcCls.isTy{M:Model}{h:Heap}(c:ExcCls K D)(X:K.In h):oq M h (isType (.ref D)) true:=by
 obtain⟨cd,hc,_⟩:=Option.bind_eq_some_iff.mp (show(qV K D).bind _=some true from c.be)
 unfold qV at hc
 split at hc
 ·rename_i c' d' cd' sl' ho
  intro A' Q' E' s' k q
  unfold isType loadHead
  exact b6 (wpAny_loadPart (k _ _ (X _ _ ho)) (e6 q))
 ·cases hc
theorem Rh(c:ExcCls K D):PySem.W.KitX K (.ref x) (.ref D) (TyAt D x) where
 ty:=fun _ _ _ I=>I.looks
 it:=fun _ _ X _=>c.isTy X
 ne:=fun h tp dd its n sl X htp=>by
  refine Bool.eq_false_iff.mpr fun q=>?_
  have e:D=tp:=Value.ref.inj (beq_iff_eq.mp q)
  subst e
  obtain⟨cd,hc,_⟩:=Option.bind_eq_some_iff.mp (show(qV K D).bind _=some true from c.be)
  unfold qV at hc
  split at hc
  ·rename_i c' d' cd' sl' ho
   have z:=(X _ _ ho).symm.trans htp
   cases z
  ·cases hc
 ca:=fun X I k=>QI c X I k
end
noncomputable def ZA(D x:Addr):HO:=.ext (TyAt D x)
theorem My{X:Cx}{pins:List (Addr×Obj)}{σ:St}{H:Hp}{s:c9}{A:js}{E:Value→c9→Prop}{Q:Value→c9→Prop}{c:Value}{b:Bool}{D x:Addr}(I:Inv X pins σ H s)(hx:Rd H x (ZA D x))(k:ExcCls X.K D)
  (e:jZ X.K (.ref D) c=some b) (h:∀tk,Q (.bool b) {s with toks:=tk}):wpAny (model X.prog X.w) A (call (.builtin "isinstance") [.ref x,c]) Q E s:=by
 obtain⟨p,_,_⟩:=(show ObjOk X.prog X.w H s.heap x (ZA D x) from hx.ok I.hok)
 exact lO (Rh k) I.kIn p e (fun z=>nomatch z) h
section
variable{X:Cx}{pins:List (Addr×Obj)}{σ:St}{H:Hp}{s:c9}
end
section
variable{X:Cx}{pins pins':List (Addr×Obj)}{σ:St}{H:Hp}{s:c9}{E':Value→c9→Prop}{x:Addr}
end
theorem Fun.okX{P:Program}{w:World}{K:b9}{mg:Str→Option Value}{base:Heap}{x qual:Str}{st:Stmt}{f:Addr}{fd:jv}{N ps:List Str}{k:Nat}{sp:Sp}(F:Fun K x qual st f fd)(S:FnScope N ps (AA st))(len:∀vs H Q E,sp vs H Q E→vs.length=ps.length)
  (hbody:∀(cdv:Value) (A:js) (outer:List Env) (s:c9) (H:Hp) (vs:List V) (Q:VK) (E:XK),Room k (A.deeper (m9 qual (AA st) s.heap.objs.size f cdv))→sp vs H Q E→
   ∃t,PSs (CU (CXe P w) P w K mg base N qual (AA st) f cdv A outer s H E) (BQ st) t∧t {nx:=fun _ H'=>Q .non H',rt:=Q} (start N vs) H):FnOk P w K mg base (CXe P w) (k+1) f fd ps sp:=by
 obtain⟨oc,od,kV,doc,pm,an,cdv,ct,osl,rfl,lk,hcd⟩:=F.ex
 exact bx lk hcd S len fun A outer s H vs Q E hr hsp=>hbody cdv A outer s H vs Q E hr hsp
section
variable{X:Cx}
noncomputable def iq(K:b9)(H:Hp)(x:V)(t:Value):Prop:=TyOf K H x t∨∃a D,x=.ref a∧t=.ref D∧Rd H a (ZA D a)∧ExcCls K D
noncomputable def cP(K:b9):List V→Hp→VK→Prop:=fun vs H Q=>∃x c t cv b,vs=[x,c]∧RelV c cv∧iq K H x t∧jZ K t cv=some b∧Q (.bl b) H
theorem Ri:BJ X (.builtin "isinstance") (cP X.K):=by
 intro pins s σ H xs us Q I r h
 obtain⟨x,c,t,cv,b,rfl,rc,ty,e,q⟩:=h
 obtain⟨u,w',rfl,rx,rw'⟩:=Ia r
 have e2:w'=cv:=by
  cases c with
  |ty n=>exact(show w'=o7 n from rw').trans (show cv=o7 n from rc).symm
  |ref a=>exact(show w'=Value.ref a from rw').trans (show cv=Value.ref a from rc).symm
  |non=>exact(show w'=mV from rw').trans (show cv=mV from rc).symm
  |bl b=>exact(show w'=o8 b from rw').trans (show cv=o8 b from rc).symm
  |int i=>exact absurd e (by obtain⟨k,rfl⟩:=rc;unfold jZ;rcases ty with ty| ⟨_,_,_,rfl,_⟩<;>first| (cases ty<;> (intro z;simp[ng] at z))| (intro z;simp[ng] at z))
  |str i=>exact absurd e (by obtain⟨k,rfl⟩:=rc;unfold jZ;rcases ty with ty| ⟨_,_,_,rfl,_⟩<;>first| (cases ty<;> (intro z;simp[ng] at z))| (intro z;simp[ng] at z))
  |byt i=>exact absurd e (by obtain⟨k,rfl⟩:=rc;unfold jZ;rcases ty with ty| ⟨_,_,_,rfl,_⟩<;>first| (cases ty<;> (intro z;simp[ng] at z))| (intro z;simp[ng] at z))
  |flt i=>exact absurd e (by obtain⟨k,rfl⟩:=rc;unfold jZ;rcases ty with ty| ⟨_,_,_,rfl,_⟩<;>first| (cases ty<;> (intro z;simp[ng] at z))| (intro z;simp[ng] at z))
 subst e2
 rcases ty with ty| ⟨a,D,rfl,rfl,hx,k⟩
 ·exact QC I rx ty e fun tk=> ⟨.bl b,H,I.tok tk,rfl,q⟩
 ·cases(show u=Value.ref a from rx)
  exact My I hx k e fun tk=> ⟨.bl b,H,I.tok tk,rfl,q⟩
noncomputable def Mz:List V→List V→Bool
 | [],[]=>true
 |x::xs,y::ys=>Kt x y&&Mz xs ys
 |_,_=>false
theorem HG:∀{xs ys:List V},xs.length=ys.length→(j6 xs.length).all (fun j=>Kt (xs.getD j .non) (ys.getD j .non))=Mz xs ys
 | [],[],_=>rfl
 |x::xs,y::ys,h=>by
  have ih:=HG (xs:=xs) (ys:=ys) (by simpa using h)
  rw[jm,List.range_succ_eq_map,List.all_cons,List.all_map]
  show(Kt x y&&_)=(Kt x y&&Mz xs ys)
  rw[←ih]
  rfl
 | [],_::_,h=>by simp at h
 |_::_,[],h=>by simp at h
noncomputable def gX(K:b9):R2:=fun x y H Q=>∃a b xs ys,x=.ref a∧y=.ref b∧CM K H a xs∧CM K H b ys∧xs.all DH=true∧ys.all DH=true∧xs.length=ys.length∧Q (.bl (!Mz xs ys)) H
theorem ZC(hu:X.A.units<cLine):Cb X (kR .NotEq) (gX X.K):=by
 intro pins s σ H x y v u Q I rx ry h
 obtain⟨a,b,xs,ys,rfl,rfl,ha,hb,fx,fy,hl,q⟩:=h
 cases rx;cases ry
 obtain⟨its,r1,p1,z1⟩:=I.list ha
 obtain⟨its2,r2,p2,z2⟩:=I.list hb
 have l1:=r1.length
 have l2:=r2.length
 refine SeqAt.RcNeAt.lists (e:=fun j=>Kt (xs.getD j .non) (ys.getD j .non)) p1.isList p2.isList (by simp only[ji];omega) hu (fun j h1 h2=>?_) _ _ _ _ ?_
 ·have j1:j<xs.length:=by simp only[ji] at h1;omega
  have j2:j<ys.length:=by omega
  obtain⟨u1,e1,q1⟩:=r1.get (i:=j) (x:=xs[j]) (by simp[j1])
  obtain⟨u2,e2,q2⟩:=r2.get (i:=j) (x:=ys[j]) (by simp[j2])
  have f1:DH xs[j]=true:=lP.mp fx _ (kT _)
  have f2:DH ys[j]=true:=lP.mp fy _ (kT _)
  have d1:xs.getD j .non=xs[j]:=by simp[m6,j1]
  have d2:ys.getD j .non=ys[j]:=by simp[m6,j2]
  show k9 _ _ its.toArray[j] its2.toArray[j] (Kt (xs.getD j .non) (ys.getD j .non))
  rw[d1,d2]
  have g1:its.toArray[j]=u1:=by
   have:its[j]'(by omega)=u1:=ki.inj (by rw[←e1];simp)
   simpa using this
  have g2:its2.toArray[j]=u2:=by
   have:its2[j]'(by omega)=u2:=ki.inj (by rw[←e2];simp)
   simpa using this
  rw[g1,g2]
  exact RX q1 q2 f1 f2
 ·refine⟨.bl _,H,I,rfl,?_⟩
  have e:(j6 its.toArray.size).all (fun j=>Kt (xs.getD j .non) (ys.getD j .non))=Mz xs ys:=by
   rw[ji,←l1];exact HG hl
  rw[e]
  exact q
noncomputable def ZD(K:b9):V→List V→Hp→VK→Prop:=fun x vs H Q=>∃l xs y j,x=.ref l∧vs=[y]∧CM K H l xs∧DH y=true∧xs.all DH=true∧(∃z,xs[j]?=some z∧Kt z y=true)∧(∀m z,m<j→xs[m]?=some z→Kt z y=false)∧Q (.int (j:Nat)) H
theorem Rj:gT X "list.index" (ZD X.K):=by
 intro pins s σ H x vs v us Q I rx rv h
 obtain⟨l,xs,y,j,rfl,rfl,hl,fy,fx,⟨z,ez,hit⟩,hno,q⟩:=h
 cases rx
 obtain⟨u,rfl,ru⟩:=rv.one
 obtain⟨its,r,p,hz⟩:=I.list hl
 obtain⟨⟨cls,dd,data,sl⟩,n,ho,hc,hdd,hd⟩:=id p
 simp only at hc hd
 subst hc hd
 have hlen:=r.length
 have hj:j<xs.length:=(jc.mp ez).1
 have at_:∀m (hm:m<its.toArray.size) z,xs[m]?=some z→fZ y its.toArray[m]=Kt z y:=fun m hm z e=>by
  obtain⟨w',e',rw'⟩:=r.get e
  have:its.toArray[m]=w':=by
   have:its[m]'(by simpa using hm)=w':=ki.inj (by rw[←e'];simp)
   simpa using this
  rw[this]
  exact RY rw' (lP.mp fx z (i9 e))
 refine rz F.slot_list_index ⟨_,ho,rfl⟩ F.entry_list_index (F.args_list_index_2 _ _)
  (SeqAt.list_indexAt l its.toArray n dd sl u (fZ y) j (by simpa[←hlen] using hj) (by have:=FM;omega) ?_ ?_) ⟨ho,fun z hz=>LF ru fy r fx z (by simpa using hz),⟨.int _,H,I.tok _,⟨_,rfl⟩,q⟩⟩
 ·rw[at_ j _ z ez];exact hit
 ·intro m hm hlt
  have hmx:m<xs.length:=by omega
  rw[at_ m hm xs[m] (by simp[hmx])]
  exact hno m _ hlt (by simp[hmx])
end
end L2
namespace StT
local macro_rules | `(tactic| omega) => `(tactic| first | lia | omega)
open PySem PySem.SetTable
theorem NA:∀(m:Nat) (l:List Nat),(∀e,e<m→e∈l)→m≤l.length
 |0,_,_=>kN _
 |m+1,l,h=>by
  have hm:m∈l:=h m (m5 m)
  have ih:=NA m (l.erase m) fun e he=>by
   rw[List.mem_erase_of_ne (jY he)]
   exact h e (md he)
  rw[List.length_erase_of_mem hm] at ih
  have:0<l.length:=pN hm
  omega
theorem Cd:∀(n:Nat) (l:List Nat),l.Nodup→(∀x∈l,x<n)→l.length≤n
 |0,[],_,_=>jb _
 |0,x::_,_,h=>absurd (h x j9) (oX _)
 |n+1,l,nd,h=>by
  have ih:=Cd n (l.erase n) (nd.erase n) fun x hx=>by
   have h1:=h x (List.mem_of_mem_erase hx)
   have h2:x≠n:=fun e=>by
    subst e
    exact absurd hx (List.Nodup.not_mem_erase nd)
   omega
  by_cases hn:n∈l
  ·rw[List.length_erase_of_mem hn] at ih
   omega
  ·rw[List.erase_of_not_mem hn] at ih
   omega
noncomputable def Rm(xs:Array Nat):Prop:=xs.toList.Pairwise (· < ·)
theorem HH{xs:Array Nat}(r:Rm xs){i j:Nat}{x y:Nat}(hi:xs[i]?=some x)(hj:xs[j]?=some y)(h:i<j):x<y:=by
 obtain⟨h1,rfl⟩:=kQ.mp hi
 obtain⟨h2,rfl⟩:=kQ.mp hj
 have:=lg.mp r i j (by simpa using h1) (by simpa using h2) h
 simpa using this
theorem Jc{xs:Array Nat}{j:Nat}:∀(fuel lo hi:Nat),hi-lo≤fuel→lo≤hi→hi≤xs.size→(∀i x,i<lo→xs[i]?=some x→x<j)→(∀i x,hi≤i→xs[i]?=some x→j≤x)→Rm xs→
  (tN xs j fuel lo hi≤xs.size)∧(∀i x,i<tN xs j fuel lo hi→xs[i]?=some x→x<j)∧∀i x,tN xs j fuel lo hi≤i→xs[i]?=some x→j≤x
 |0,lo,hi,hf,hlo,hhi,h1,h2,r=>by
  have:lo=hi:=by omega
  subst this
  exact⟨hhi,h1,h2⟩
 |fuel+1,lo,hi,hf,hlo,hhi,h1,h2,r=>by
  unfold tN
  by_cases hl:lo<hi
  ·rw[if_pos hl]
   have hm:(lo+hi)/2<xs.size:=by omega
   have em:xs[(lo+hi)/2]?=some xs[(lo+hi)/2]:=by simp[hm]
   have eg:xs.getD ((lo+hi)/2) j=xs[(lo+hi)/2]:=by simp[qJ,hm]
   dsimp only
   rw[eg]
   by_cases hc:xs[(lo+hi)/2]<j
   ·rw[if_pos hc]
    refine Jc fuel _ _ (by omega) (by omega) hhi (fun i x hi' e=>?_) h2 r
    by_cases hx:i=(lo+hi)/2
    ·subst hx
     rw[em] at e;cases e
     exact hc
    ·exact sY (HH r e em (by omega)) hc
   ·rw[if_neg hc]
    refine Jc fuel _ _ (by omega) (by omega) (by omega) h1 (fun i x hi' e=>?_) r
    by_cases hx:i=(lo+hi)/2
    ·subst hx
     rw[em] at e;cases e
     omega
    ·have:=HH r em e (by omega)
     omega
  ·rw[if_neg hl]
   have:lo=hi:=by omega
   subst this
   exact⟨hhi,h1,h2⟩
theorem Cr{xs:Array Nat}{j:Nat}(r:Rm xs):(below xs j≤xs.size)∧(∀i x,i<below xs j→xs[i]?=some x→x<j)∧∀i x,below xs j≤i→xs[i]?=some x→j≤x:=
 Jc _ _ _ (by omega) (by omega) (jb _) (fun i x h=>absurd h (oX _)) (fun i x h e=>by
  have:=(kQ.mp e).1
  omega) r
theorem CD{xs:Array Nat}{i j:Nat}(r:Rm xs)(h:xs[i]?=some j):below xs j=i:=by
 obtain⟨b1,b2,b3⟩:=Cr (j:=j) r
 have hi:i<xs.size:=(kQ.mp h).1
 apply Nat.le_antisymm
 ·apply pW
  intro hc
  exact absurd (b2 i j hc h) (k8 _)
 ·apply pW
  intro hc
  have e:xs[below xs j]?=some xs[below xs j]:=by simp[sY hc hi]
  have h1:=b3 _ _ (jb _) e
  have h2:=HH r e h hc
  omega
theorem BR{α:Type}(xs:Array α)(p:Nat)(x:α):(mK xs p x).toList=xs.toList.take p++x::xs.toList.drop p:=by
 unfold mK
 simp
 rw[oa (by simp)]
theorem getElem?_insertAt{α:Type}(xs:Array α)(p:Nat)(x:α)(hp:p≤xs.size)(i:Nat):(mK xs p x)[i]?=if i<p then xs[i]? else if i=p then some x else xs[i-1]?:=by
 have e:(mK xs p x)[i]?=(mK xs p x).toList[i]?:=by simp
 rw[e,BR]
 have hl:(xs.toList.take p).length=p:=by simp[hp]
 by_cases h1:i<p
 ·rw[if_pos h1,jz (by omega),nK h1]
  simp
 ·rw[if_neg h1,jw (by omega),hl]
  by_cases h2:i=p
  ·subst h2
   simp
  ·rw[if_neg h2]
   have:i-p=(i-p-1)+1:=by omega
   rw[this,nV,lx]
   have:p+(i-p-1)=i-1:=by omega
   rw[this]
   simp
theorem Dz{α:Type}(xs:Array α)(p:Nat)(x:α)(hp:p≤xs.size):(mK xs p x).size=xs.size+1:=by
 rw[←jg,BR]
 simp
 omega
theorem NB{xs:Array Nat}{j:Nat}(r:Rm xs)(hj:∀i:Nat,xs[i]?≠some j):Rm (mK xs (below xs j) j):=by
 obtain⟨b1,b2,b3⟩:=Cr (j:=j) r
 unfold Rm
 rw[BR]
 have lt:∀y∈xs.toList.take (below xs j),y<j:=fun y hy=>by
  obtain⟨i,hi⟩:=kK hy
  have hlt:i<below xs j:=by
   have:=(jc.mp hi).1
   simp at this;omega
  rw[nK hlt] at hi
  exact b2 i y hlt (by simpa using hi)
 have gt:∀y∈xs.toList.drop (below xs j),j<y:=fun y hy=>by
  obtain⟨i,hi⟩:=kK hy
  rw[lx] at hi
  have hi':xs[below xs j+i]?=some y:=by simpa using hi
  have h1:=b3 _ y (Nat.le_add_right _ _) hi'
  have h2:y≠j:=fun e=>hj _ (e▸hi')
  omega
 refine qh.mpr ⟨kj.sublist (nH _ _) r,ni.mpr ⟨gt,kj.sublist (qP _ _) r⟩,fun a ha b hb=>?_⟩
 rcases i6.mp hb with rfl|hb
 ·exact lt a ha
 ·exact sY (lt a ha) (gt b hb)
noncomputable def adv(m:Nat)(p:Probe):Probe:=(lu.mk m #[] #[] 0 false 0 false).advance p
theorem HI(t:lu)(p:Probe):t.advance p=adv t.mask p:=rfl
theorem HJ{m:Nat}{p:Probe}(h:0<p.more):adv m p=⟨p.j+1,p.more-1,p.i,p.perturb,p.dummy⟩:=by
 unfold adv advance
 exact if_pos h
theorem HK{m:Nat}{p:Probe}(h:¬0<p.more):adv m p=⟨(leap m p.i p.perturb).1,oy m (leap m p.i p.perturb).1- (leap m p.i p.perturb).1,(leap m p.i p.perturb).1,(leap m p.i p.perturb).2,p.dummy⟩:=by
 unfold adv advance
 exact if_neg h
noncomputable def advN(m:Nat):Nat→Probe→Probe
 |0,p=>p
 |n+1,p=>advN m n (adv m p)
theorem CF(m:Nat):∀(a b:Nat) (p:Probe),advN m (a+b) p=advN m b (advN m a p)
 |0,b,p=>by rw[n6];rfl
 |a+1,b,p=>by
  rw[sW]
  exact CF m a b (adv m p)
theorem Ii(m n:Nat)(p:Probe):advN m (n+1) p=adv m (advN m n p):=CF m n 1 p
noncomputable def st(m:Nat)(x:Nat×Nat)(d:Option Nat):Probe:={j:=x.1,more:=oy m x.1-x.1,i:=x.1,perturb:=x.2,dummy:=d}
theorem Rn(t:lu)(h:Int):t.probeStart h=st t.mask (bits h%(t.mask+1),bits h) none:=rfl
noncomputable def NC(m:Nat):Nat→Nat×Nat→Nat×Nat
 |0,x=>x
 |n+1,x=>NC m n (leap m x.1 x.2)
theorem FQ(m i:Nat)(h:i≤m):i+(oy m i-i)≤m∧oy m i-i≤9:=by
 unfold oy
 split<;>omega
theorem Jd(m:Nat):∀(k:Nat) (p:Probe),k≤p.more→advN m k p={p with j:=p.j+k,more:=p.more-k}
 |0,p,_=>rfl
 |k+1,p,h=>by
  show advN m k (adv m p)=_
  have e:adv m p={p with j:=p.j+1,more:=p.more-1}:=HJ (by omega)
  rw[e,Jd m k _ (by show k≤p.more-1;omega)]
  show({p with j:=p.j+1+k,more:=p.more-1-k}:Probe)={p with j:=p.j+(k+1),more:=p.more- (k+1)}
  rw[show p.j+1+k=p.j+(k+1) by omega,show p.more-1-k=p.more- (k+1) by omega]
theorem HL(m:Nat)(p:Probe):advN m (p.more+1) p=st m (leap m p.i p.perturb) p.dummy:=by
 rw[Ii,Jd m p.more p (jb _)]
 rw[HK (by show¬0<p.more-p.more;omega)]
 rfl
theorem HM(m:Nat):∀(L:Nat) (x:Nat×Nat),x.1≤m→(NC m L x).1≤m
 |0,_,h=>h
 |L+1,x,_=>HM m L _ (by show(x.1*5+1+x.2/32)%(m+1)≤m;have:=sM (x.1*5+1+x.2/32) (show 0<m+1 by omega);omega)
theorem Ro(m:Nat):∀(L:Nat) (x:Nat×Nat) (d:Option Nat),x.1≤m→∃n,n≤10*L∧advN m n (st m x d)=st m (NC m L x) d
 |0,x,d,_=> ⟨0,by omega,rfl⟩
 |L+1,x,d,h=>by
  have hl:(leap m x.1 x.2).1≤m:=HM m 1 x h
  obtain⟨n,hn,e⟩:=Ro m L (leap m x.1 x.2) d hl
  have h9:=(FQ m x.1 h).2
  refine⟨(st m x d).more+1+n,?_,?_⟩
  ·show oy m x.1-x.1+1+n≤_;omega
  ·rw[CF,HL]
   exact e
theorem OX(m:Nat):∀(a b:Nat) (x:Nat×Nat),NC m (a+b) x=NC m b (NC m a x)
 |0,b,x=>by rw[n6];rfl
 |a+1,b,x=>by rw[sW];exact OX m a b _
theorem OY(m:Nat):∀(L:Nat) (x:Nat×Nat),(NC m L x).2=x.2/32^L
 |0,x=>by simp[NC]
 |L+1,x=>by
  show(NC m L (leap m x.1 x.2)).2=_
  rw[OY m L]
  show x.2/32/32^L=x.2/32^(L+1)
  rw[Nat.div_div_eq_div_mul,Nat.pow_succ,Nat.mul_comm]
noncomputable def bJ(m:Nat):Nat→Nat→List Nat
 |0,_=> []
 |n+1,i=>i::bJ m n ((i*5+1)%(m+1))
noncomputable def fN(m:Nat):Nat→Nat→Nat
 |0,i=>i
 |n+1,i=>fN m n ((i*5+1)%(m+1))
theorem cQ(m:Nat):∀(L i:Nat),NC m L (i,0)=(fN m L i,0)
 |0,_=>rfl
 |L+1,i=>by
  show NC m L ((i*5+1+0/32)%(m+1),0/32)=_
  rw[Nat.zero_div,sZ]
  exact cQ m L _
theorem Je(m:Nat):∀(a b x:Nat),fN m (a+b) x=fN m b (fN m a x)
 |0,b,x=>by rw[n6];rfl
 |a+1,b,x=>by rw[sW];exact Je m a b _
theorem Jf(m:Nat):∀(n i e:Nat),e∈bJ m n i→∃k,k<n∧fN m k i=e
 |0,_,_,h=>by simp[bJ] at h
 |n+1,i,e,h=>by
  rcases i6.mp h with rfl|h
  ·exact⟨0,sV _,rfl⟩
  ·obtain⟨k,hk,hf⟩:=Jf m n _ e h
   exact⟨k+1,by omega,hf⟩
noncomputable def CH(m:Nat):Prop:=m=7∨m=31∨m=127∨m=511
theorem gY{m:Nat}(h:CH m):fN m (m+1) 0=0∧∀e,e≤m→e∈bJ m (m+1) 0:=by
 have all:∀k,((j6 (k+1)).all fun e=> (bJ k (k+1) 0).contains e)=true→∀e,e≤k→e∈bJ k (k+1) 0:=fun k hk e he=>by
  have:=lP.mp hk e (ke.mpr (Nat.lt_succ_of_le he))
  exact List.contains_iff_mem.mp this
 rcases h with rfl|rfl|rfl|rfl
 ·exact⟨by decide+kernel,all 7 (by decide+kernel)⟩
 ·exact⟨by decide+kernel,all 31 (by decide+kernel)⟩
 ·exact⟨by decide+kernel,all 127 (by decide+kernel)⟩
 ·exact⟨by decide+kernel,all 511 (by decide+kernel)⟩
theorem iu{m:Nat}(h:CH m){i e:Nat}(hi:i≤m)(he:e≤m):∃k,k≤m∧fN m k i=e:=by
 obtain⟨c0,call⟩:=gY h
 obtain⟨a,ha,ea⟩:=Jf m _ _ _ (call i hi)
 obtain⟨b,hb,eb⟩:=Jf m _ _ _ (call e he)
 by_cases hab:a≤b
 ·refine⟨b-a,by omega,?_⟩
  rw[←ea,←Je,show a+(b-a)=b by omega]
  exact eb
 ·refine⟨m+1-a+b,by omega,?_⟩
  rw[←ea,←Je,show a+(m+1-a+b)=(m+1)+b by omega,Je,c0]
  exact eb
structure Pr(m:Nat)(p:Probe):Prop where
 ij:p.j+p.more≤m
 more:p.more≤9
 i:p.i≤m
 pert:p.perturb<2^64
theorem Pr.st{m:Nat}{x:Nat×Nat}{d:Option Nat}(h1:x.1≤m)(h2:x.2<2^64):Pr m (st m x d):=⟨(FQ m x.1 h1).1,(FQ m x.1 h1).2,h1,h2⟩
theorem Pr.adv{m:Nat}{p:Probe}(h:Pr m p):Pr m (adv m p):=by
 by_cases hm:0<p.more
 ·rw[HJ hm]
  exact⟨by have:=h.ij;show p.j+1+(p.more-1)≤m;omega,by have:=h.more;show p.more-1≤9;omega,h.i,h.pert⟩
 ·rw[HK hm]
  have hl:(leap m p.i p.perturb).1≤m:=HM m 1 (p.i,p.perturb) h.i
  exact⟨(FQ m _ hl).1,(FQ m _ hl).2,hl,qG (Nat.div_le_self _ _) h.pert⟩
theorem Pr.advN{m:Nat}:∀{n:Nat} {p:Probe},Pr m p→Pr m (advN m n p)
 |0,_,h=>h
 |n+1,_,h=>Pr.advN (n:=n) h.adv
theorem Pr.j{m:Nat}{p:Probe}(h:Pr m p):p.j≤m:=by have:=h.ij;omega
theorem OZ(h:Int):bits h<2^64:=by
 unfold bits
 have h1:=nD h (show(2^64:Int)≠0 by decide)
 have h2:=mO h (show(0:Int)<2^64 by decide)
 have h3:((2:Nat)^64:Nat)=18446744073709551616:=by decide
 omega
noncomputable def start(m:Nat)(h:Int):Probe:=st m (bits h%(m+1),bits h) none
theorem Pr.start(m:Nat)(h:Int):Pr m (start m h):=Pr.st (by show bits h%(m+1)≤m;have:=sM (bits h) (show 0<m+1 by omega);omega) (OZ h)
theorem cR{q:Nat}(h:q<2^64):q/32^13=0:=Nat.div_eq_of_lt (jy h (by decide))
theorem XW{m:Nat}(hm:CH m){x:Nat×Nat}(h1:x.1≤m)(h2:x.2<2^64){e:Nat}(he:e≤m):∃L,L≤m+13∧(NC m L x).1=e:=by
 have e13:NC m 13 x=((NC m 13 x).1,0):=by
  have:=OY m 13 x
  rw[cR h2] at this
  rw[←this]
 obtain⟨k,hk,ek⟩:=iu hm (HM m 13 x h1) he
 refine⟨13+k,by omega,?_⟩
 rw[OX,e13,cQ]
 exact ek
theorem XX{m:Nat}(hm:CH m){p:Probe}(h:Pr m p){e:Nat}(he:e≤m):∃n,n<10*(m+15)∧(advN m n p).j=e:=by
 have hl:(leap m p.i p.perturb).1≤m:=HM m 1 (p.i,p.perturb) h.i
 obtain⟨L,hL,eL⟩:=XW hm (x:=leap m p.i p.perturb) hl (qG (Nat.div_le_self _ _) h.pert) he
 obtain⟨n,hn,en⟩:=Ro m L (leap m p.i p.perturb) p.dummy hl
 refine⟨p.more+1+n,by have:=h.more;omega,?_⟩
 rw[CF,HL,en]
 exact eL
theorem QJ(m:Nat)(p:Probe):(adv m p).dummy=p.dummy:=by
 by_cases h:0<p.more
 ·rw[HJ h]
 ·rw[HK h]
theorem EF(m:Nat):∀(n:Nat) (p:Probe),(advN m n p).dummy=p.dummy
 |0,_=>rfl
 |n+1,p=> (EF m n _).trans (QJ m p)
end StT
namespace StT
local macro_rules | `(tactic| omega) => `(tactic| first | lia | omega)
open PySem PySem.SetTable
noncomputable def LN(t:lu)(j:Nat):Prop:=∃i:Nat,t.place[i]?=some j
structure Tb(t:lu)(hs:List Int):Prop where
 mask:CH t.mask
 dum:t.dummies= #[]
 ris:Rm t.place
 le:∀i j:Nat,t.place[i]?=some j→j≤t.mask
 size:t.place.size=hs.length
 fnd:∀(i j:Nat) (h:Int),t.place[i]?=some j→hs[i]?=some h→∃n,(advN t.mask n (start t.mask h)).j=j∧∀k,k<n→LN t (advN t.mask k (start t.mask h)).j
section
variable{t:lu}{hs:List Int}
theorem Tb.odd(T:Tb t hs):t.mask%2=1:=by rcases T.mask with h|h|h|h<;>rw[h]
theorem Tb.low(T:Tb t hs):7≤t.mask:=by rcases T.mask with h|h|h|h<;>omega
theorem Tb.live(T:Tb t hs){i j:Nat}(h:t.place[i]?=some j):t.slot j=.live i:=by
 unfold slot
 rw[CD T.ris h]
 simp only[h,beq_self_eq_true,if_true]
theorem Tb.empty(T:Tb t hs){j:Nat}(h:¬LN t j):t.slot j=.empty:=by
 unfold slot
 have h1:(t.place[below t.place j]?==some j)=false:=by
  rw[beq_eq_false_iff_ne]
  exact fun e=>h ⟨_,e⟩
 have h2:has t.dummies j=false:=by
  unfold has
  rw[T.dum]
  rfl
 simp only[h1,h2,jt,if_false]
theorem Tb.room(T:Tb t hs)(h:hs.length≤t.mask):∃e,e≤t.mask∧¬LN t e:=by
 apply l8
 intro hn
 have:=NA (t.mask+1) t.place.toList fun e he=>by
  have:LN t e:=l8 fun hc=>hn ⟨e,by omega,hc⟩
  obtain⟨i,hi⟩:=this
  exact i9 (i:=i) (by simpa using hi)
 rw[jg,T.size] at this
 omega
theorem VS(T:Tb t hs){hashAt:Nat→Int}{h:Int}{p:Probe}{i:Nat}(fuel:Nat)(h1:t.place[i]?=some p.j)(h2:hashAt i≠h):qf t hashAt h (fuel+1) p=qf t hashAt h fuel (adv t.mask p):=by
 rw[qf,T.live h1]
 simp only[beq_iff_eq,if_neg h2,HI]
theorem LO(T:Tb t hs){hashAt:Nat→Int}{h:Int}:∀(n fuel:Nat) (p:Probe),(∀k,k<n→∃i,t.place[i]?=some (advN t.mask k p).j∧hashAt i≠h)→qf t hashAt h (fuel+n) p=qf t hashAt h fuel (advN t.mask n p)
 |0,_,_,_=>rfl
 |n+1,fuel,p,hk=>by
  obtain⟨i,h1,h2⟩:=hk 0 (sV _)
  have h1:t.place[i]?=some p.j:=h1
  rw[←sG,VS T _ h1 h2]
  exact LO T n fuel _ fun k hk'=>hk (k+1) (Nat.succ_lt_succ hk')
theorem Rp(T:Tb t hs){hashAt:Nat→Int}{h:Int}{p:Probe}{fuel:Nat}(h1:¬LN t p.j):qf t hashAt h (fuel+1) p=some (.empty p.j p.dummy):=by
 rw[qf,T.empty h1]
theorem ZE(T:Tb t hs){hashAt:Nat→Int}{h:Int}{p:Probe}{fuel i:Nat}(h1:t.place[i]?=some p.j)(h2:hashAt i=h):qf t hashAt h (fuel+1) p=some (.candidate p.j i (adv t.mask p)):=by
 rw[qf,T.live h1]
 simp only[beq_iff_eq,if_pos h2,HI]
theorem least{S:Nat→Prop}:∀(n:Nat),S n→∃m,m≤n∧S m∧∀k,k<m→¬S k:=by
 intro n
 induction n using Nat.strongRecOn with
 |ind n ih=>
  intro hn
  by_cases h:∃k,k<n∧S k
  ·obtain⟨k,hk,sk⟩:=h
   obtain⟨m,h1,h2,h3⟩:=ih k hk sk
   exact⟨m,by omega,h2,h3⟩
  ·exact⟨n,jb _,hn,fun k hk sk=>h ⟨k,hk,sk⟩⟩
theorem LP(T:Tb t hs)(hl:hs.length≤t.mask){p:Probe}(pr:Pr t.mask p)(hashAt:Nat→Int)(h:Int):∃n,(∀k,k<n→∃i,t.place[i]?=some (advN t.mask k p).j∧hashAt i≠h)∧
  ((¬LN t (advN t.mask n p).j∧t.probe hashAt h p=some (.empty (advN t.mask n p).j p.dummy))∨∃i,t.place[i]?=some (advN t.mask n p).j∧hashAt i=h∧t.probe hashAt h p=some (.candidate (advN t.mask n p).j i (advN t.mask (n+1) p))):=by
 obtain⟨e,he,hne⟩:=T.room hl
 obtain⟨n0,hn0,en0⟩:=XX T.mask pr he
 obtain⟨n,hn,sn,ln⟩:=least (S:=fun n=>¬LN t (advN t.mask n p).j∨∃i,t.place[i]?=some (advN t.mask n p).j∧hashAt i=h) n0 (.inl (by rw[en0];exact hne))
 have pre:∀k,k<n→∃i,t.place[i]?=some (advN t.mask k p).j∧hashAt i≠h:=fun k hk=>by
  have:=ln k hk
  have ho:LN t (advN t.mask k p).j:=l8 fun hc=>this (.inl hc)
  obtain⟨i,hi⟩:=ho
  exact⟨i,hi,fun z=>this (.inr ⟨i,hi,z⟩)⟩
 have hfuel:10*turns t.mask=(10*(t.mask+15)-n-1+1)+n:=by unfold turns;omega
 refine⟨n,pre,?_⟩
 unfold probe
 rw[hfuel,LO T n _ p pre]
 rcases sn with sn| ⟨i,h1,h2⟩
 ·exact .inl ⟨sn,by rw[Rp T sn,EF]⟩
 ·exact .inr ⟨i,h1,h2,by rw[ZE T h1 h2,Ii]⟩
theorem Tb.put(T:Tb t hs){h:Int}{n:Nat}(hfree:¬LN t (advN t.mask n (start t.mask h)).j)(hway:∀k,k<n→LN t (advN t.mask k (start t.mask h)).j):
  Tb (t.put (advN t.mask n (start t.mask h)).j).1 (hs.take (t.put (advN t.mask n (start t.mask h)).j).2++h::hs.drop (t.put (advN t.mask n (start t.mask h)).j).2)∧(t.put (advN t.mask n (start t.mask h)).j).2≤hs.length∧
   (t.put (advN t.mask n (start t.mask h)).j).1.mask=t.mask∧(t.put (advN t.mask n (start t.mask h)).j).1.plain=t.plain∧(t.put (advN t.mask n (start t.mask h)).j).1.led=t.led∧(t.put (advN t.mask n (start t.mask h)).j).1.moves=t.moves:=by
 have hj:(advN t.mask n (start t.mask h)).j≤t.mask:=(Pr.start t.mask h).advN.j
 generalize hJ:(advN t.mask n (start t.mask h)).j=J at*
 have hd:has t.dummies J=false:=by
  unfold has
  rw[T.dum]
  rfl
 have hnot:∀i:Nat,t.place[i]?≠some J:=fun i e=>hfree ⟨i,e⟩
 have hb:=(Cr (j:=J) T.ris).1
 have e1:(t.put J).1={t with place:=mK t.place (below t.place J) J}:=by
  unfold lu.put
  simp only[hd,jt,if_false]
 have e2:(t.put J).2=below t.place J:=rfl
 rw[e1,e2]
 have ix:=getElem?_insertAt t.place (below t.place J) J hb
 have hl:(hs.take (below t.place J)).length=below t.place J:=by rw[j8,←T.size];omega
 have ih:∀i:Nat,(hs.take (below t.place J)++h::hs.drop (below t.place J))[i]?=if i<below t.place J then hs[i]? else if i=below t.place J then some h else hs[i-1]?:=fun i=>by
  by_cases h1:i<below t.place J
  ·rw[if_pos h1,jz (by omega),nK h1]
  ·rw[if_neg h1,jw (by omega),hl]
   by_cases h2:i=below t.place J
   ·subst h2;simp
   ·rw[if_neg h2,show i-below t.place J=(i-below t.place J-1)+1 by omega,nV,lx]
    rw[show below t.place J+(i-below t.place J-1)=i-1 by omega]
 have occ:∀x,LN t x→LN {t with place:=mK t.place (below t.place J) J} x:=fun x ⟨i,hi⟩=>by
  by_cases h1:i<below t.place J
  ·exact⟨i,by show(mK t.place (below t.place J) J)[i]?=some x;rw[ix,if_pos h1];exact hi⟩
  ·exact⟨i+1,by show(mK t.place (below t.place J) J)[i+1]?=some x;rw[ix,if_neg (by omega),if_neg (by omega)];exact hi⟩
 refine⟨⟨T.mask,T.dum,NB T.ris hnot,fun i j e=>?_,?_,fun i j h' e eh=>?_⟩,by rw[←T.size];exact hb,rfl,rfl,rfl,rfl⟩
 ·have e:(mK t.place (below t.place J) J)[i]?=some j:=e
  rw[ix] at e
  by_cases h1:i<below t.place J
  ·rw[if_pos h1] at e;exact T.le i j e
  ·rw[if_neg h1] at e
   by_cases h2:i=below t.place J
   ·rw[if_pos h2] at e;cases e;exact hj
   ·rw[if_neg h2] at e;exact T.le _ j e
 ·show(mK t.place (below t.place J) J).size=_
  rw[Dz _ _ _ hb,T.size]
  have hb':below t.place J≤hs.length:=by rw[←T.size];exact hb
  rw[jf,hl,jm,mN]
  omega
 ·have e:(mK t.place (below t.place J) J)[i]?=some j:=e
  rw[ix] at e
  rw[ih] at eh
  by_cases h1:i<below t.place J
  ·rw[if_pos h1] at e eh
   obtain⟨k,ek,wk⟩:=T.fnd i j h' e eh
   exact⟨k,ek,fun k' hk=>occ _ (wk k' hk)⟩
  ·rw[if_neg h1] at e eh
   by_cases h2:i=below t.place J
   ·rw[if_pos h2] at e eh
    cases e;cases eh
    exact⟨n,hJ,fun k hk=>occ _ (hway k hk)⟩
   ·rw[if_neg h2] at e eh
    obtain⟨k,ek,wk⟩:=T.fnd _ j h' e eh
    exact⟨k,ek,fun k' hk=>occ _ (wk k' hk)⟩
theorem Tb.fresh(f mv:Nat)(led:Bool):Tb (lu.fresh f mv led) []:=by
 refine⟨.inl rfl,rfl,mF,fun i j e=>?_,rfl,fun i j h e=>?_⟩
 ·have e:(#[]:Array Nat)[i]?=some j:=e
  simp at e
 ·have e:(#[]:Array Nat)[i]?=some j:=e
  simp at e
end
end StT
namespace StT
local macro_rules | `(tactic| omega) => `(tactic| first | lia | omega)
open PySem PySem.SetTable
structure LC(m:Nat)(owner:Array (Option Nat))(hs:List Int):Prop where
 size:owner.size=m+1
 put:∀(r:Nat) (h:Int),hs[r]?=some h→∃j,j≤m∧owner[j]?=some (some r)∧∃n,(advN m n (start m h)).j=j∧∀k,k<n→∃r',owner[(advN m k (start m h)).j]?=some (some r')
 lt:∀j r:Nat,owner[j]?=some (some r)→r<hs.length
 inj:∀j j' r:Nat,owner[j]?=some (some r)→owner[j']?=some (some r)→j=j'
section
variable{m:Nat}{owner:Array (Option Nat)}{hs:List Int}
theorem Jg(hz:owner.size=m+1){x:Nat}(hx:x≤m):owner.getD x (some 0)=owner[x]'(by omega)∧owner[x]?=some (owner[x]'(by omega)):=by
 have hx':x<owner.size:=by omega
 exact⟨by simp[qJ,hx'],by simp[hx']⟩
theorem XY(hz:owner.size=m+1){x:Nat}(hx:x≤m)(h:(owner.getD x (some 0)).isNone=false):∃r,owner[x]?=some (some r):=by
 obtain⟨h1,h2⟩:=Jg hz hx
 rw[h1] at h
 cases e:owner[x]'(by omega) with
 |none=>rw[e] at h;cases h
 |some r=>exact⟨r,by rw[h2,e]⟩
theorem VT(hz:owner.size=m+1){x:Nat}(hx:x≤m)(h:(owner.getD x (some 0)).isNone=true):owner[x]?=some none:=by
 obtain⟨h1,h2⟩:=Jg hz hx
 rw[h1] at h
 cases e:owner[x]'(by omega) with
 |none=>rw[h2,e]
 |some r=>rw[e] at h;cases h
theorem ND{i q k:Nat}(hk:k≤oy m i-i):(advN m k (st m (i,q) none)).j=i+k:=by
 rw[Jd m k _ hk]
 rfl
theorem Ij(m i:Nat):i≤oy m i:=by
 unfold oy
 split<;>omega
theorem Ik(hz:owner.size=m+1){j:Nat}:∀(fuel i q:Nat),i≤m→layClean.free m owner fuel i q=some j→
  ∃n,(advN m n (st m (i,q) none)).j=j∧(∀k,k<n→∃r,owner[(advN m k (st m (i,q) none)).j]?=some (some r))∧owner[j]?=some none∧j≤m
 |0,i,q,_,e=>by simp[layClean.free] at e
 |fuel+1,i,q,hi,e=>by
  have hr:=FQ m i hi
  have hge:=Ij m i
  rw[layClean.free] at e
  cases hf:(j6 (oy m i+1-i)).find? fun k=> (owner.getD (i+k) (some 0)).isNone with
  |some k=>
   rw[hf] at e
   cases e
   have hk1:(owner.getD (i+k) (some 0)).isNone=true:=by simpa using List.find?_some hf
   have hkm:k<oy m i+1-i:=ke.mp (List.mem_of_find?_eq_some hf)
   refine⟨k,ND (by omega),fun k' hk'=>?_,VT hz (by omega) hk1,by omega⟩
   rw[ND (by omega)]
   refine XY hz (by omega) ?_
   have:=List.find?_range_eq_some.mp hf
   have h3:=this.2.2 k' hk'
   simpa using h3
  |none=>
   rw[hf] at e
   have hl:(leap m i q).1≤m:=HM m 1 (i,q) hi
   obtain⟨n,h1,h2,h3⟩:=Ik hz fuel _ _ hl e
   have all:∀k,k≤oy m i-i→∃r,owner[(advN m k (st m (i,q) none)).j]?=some (some r):=fun k hk=>by
    rw[ND hk]
    refine XY hz (by omega) ?_
    have:=pe.mp hf k (ke.mpr (by omega))
    exact Bool.eq_false_iff.mpr this
   have hleap:advN m (oy m i-i+1) (st m (i,q) none)=st m (leap m i q) none:=HL m (st m (i,q) none)
   refine⟨(oy m i-i+1)+n,?_,fun k hk=>?_,h3⟩
   ·rw[CF,hleap]
    exact h1
   ·by_cases hk':k≤oy m i-i
    ·exact all k hk'
    ·have e2:k=(oy m i-i+1)+(k- (oy m i-i+1)):=by omega
     rw[e2,CF,hleap]
     exact h2 _ (by omega)
theorem Il(hz:owner.size=m+1){e:Nat}(he:owner[e]?=some none)(hem:e≤m):∀(fuel L i q:Nat),i≤m→L<fuel→(NC m L (i,q)).1=e→layClean.free m owner fuel i q≠none
 |0,L,_,_,_,h,_=>absurd h (oX _)
 |fuel+1,L,i,q,hi,hL,eL=>by
  rw[layClean.free]
  have hge:=Ij m i
  cases hf:(j6 (oy m i+1-i)).find? fun k=> (owner.getD (i+k) (some 0)).isNone with
  |some k=>simp
  |none=>
   cases L with
   |zero=>
    have eL:i=e:=eL
    subst eL
    have:=pe.mp hf 0 (ke.mpr (by omega))
    obtain⟨h1,h2⟩:=Jg hz hem
    rw[he] at h2
    have h2:=ki.inj h2
    rw[sZ,h1,←h2] at this
    exact absurd rfl this
   |succ L=>
    exact Il hz he hem fuel L _ _ (HM m 1 (i,q) hi) (by omega) eL
noncomputable def Eh(m:Nat)(acc:Option (Array (Option Nat)×Nat))(h:Int):Option (Array (Option Nat)×Nat):=do
 let(owner,k)←acc
 let j←layClean.free m owner (turns m) (bits h%(m+1)) (bits h)
 pure (owner.setIfInBounds j (some k),k+1)
theorem LQ(m:Nat)(hs:Array Int):layClean m hs=(hs.toList.foldl (Eh m) (some (rQ (m+1) none,0))).map (·.1):=by
 unfold layClean
 rw[Array.foldl_toList]
 rfl
theorem LC.room(c:LC m owner hs)(h:hs.length≤m):∃e,e≤m∧owner[e]?=some none:=by
 apply l8
 intro hn
 have all:∀e,e≤m→∃r,owner[e]?=some (some r):=fun e he=>by
  have hz:=c.size
  cases q:owner[e]'(by omega) with
  |none=>exact absurd ⟨e,he,by rw[←q];simp[show e<owner.size by omega]⟩ hn
  |some r=>exact⟨r,by rw[←q];simp[show e<owner.size by omega]⟩
 have hf:∀e,∃r,e≤m→owner[e]?=some (some r):=fun e=>by
  by_cases he:e≤m
  ·obtain⟨r,hr⟩:=all e he;exact⟨r,fun _=>hr⟩
  ·exact⟨0,fun z=>absurd z he⟩
 obtain⟨f,hf⟩:=Classical.axiomOfChoice hf
 have hl:=Cd hs.length ((j6 (m+1)).map f) (by
  refine qQ f (R:=fun a b=>a≠b∧a≤m∧b≤m) (fun a b hab e=>?_) ?_
  ·have h1:=hf a hab.2.1
   have h2:=hf b hab.2.2
   rw[e] at h1
   exact hab.1 (c.inj a b _ h1 h2)
  ·refine mh (fun{a b} ha hb h=> ⟨jY h,?_,?_⟩) (og (n:=m+1))
   ·have:=ke.mp ha;omega
   ·have:=ke.mp hb;omega) (fun x hx=>by
  obtain⟨e,he,rfl⟩:=jl.mp hx
  exact c.lt e _ (hf e (by have:=ke.mp he;omega)))
 rw[e7,lG] at hl
 omega
theorem LC.step(hm:CH m)(c:LC m owner hs)(hl:hs.length≤m)(h:Int):∃o',Eh m (some (owner,hs.length)) h=some (o',hs.length+1)∧LC m o' (hs++[h]):=by
 obtain⟨e,he,hne⟩:=c.room hl
 have hb:bits h%(m+1)≤m:=by have:=sM (bits h) (show 0<m+1 by omega);omega
 obtain⟨L,hL,eL⟩:=XW hm (x:=(bits h%(m+1),bits h)) hb (OZ h) he
 have hs':=Il c.size hne he (turns m) L _ _ hb (by unfold turns;omega) eL
 cases hf:layClean.free m owner (turns m) (bits h%(m+1)) (bits h) with
 |none=>exact absurd hf hs'
 |some j=>
  obtain⟨n,h1,h2,h3,h4⟩:=Ik c.size _ _ _ hb hf
  have hj:j<owner.size:=by rw[c.size];omega
  refine⟨owner.setIfInBounds j (some hs.length),?_,?_⟩
  ·unfold Eh
   show(layClean.free m owner (turns m) (bits h%(m+1)) (bits h)>>=_)=_
   rw[hf]
   rfl
  ·have at_:∀x:Nat,(owner.setIfInBounds j (some hs.length))[x]?=if x=j then some (some hs.length) else owner[x]?:=fun x=>by
    rw[Array.getElem?_setIfInBounds]
    by_cases hx:x=j
    ·subst hx;simp[hj]
    ·rw[if_neg (Ne.symm hx),if_neg hx]
   have occ:∀x r:Nat,owner[x]?=some (some r)→∃r',(owner.setIfInBounds j (some hs.length))[x]?=some (some r'):=fun x r hr=>by
    rw[at_]
    by_cases hx:x=j
    ·exact⟨_,if_pos hx⟩
    ·exact⟨r,by rw[if_neg hx];exact hr⟩
   refine⟨by simpa using c.size,fun r h' e'=>?_,fun x r hr=>?_,fun x y r hx hy=>?_⟩
   ·by_cases hr:r<hs.length
    ·rw[jz hr] at e'
     obtain⟨x,q1,q2,n',q3,q4⟩:=c.put r h' e'
     refine⟨x,q1,?_,n',q3,fun k hk=>?_⟩
     ·rw[at_,if_neg];exact q2
      rintro rfl
      rw[h3] at q2;cases q2
     ·obtain⟨r',hr'⟩:=q4 k hk
      exact occ _ r' hr'
    ·rw[jw (by omega)] at e'
     have hr0:r-hs.length=0:=by
      have:=(jc.mp e').1
      simp at this;omega
     rw[hr0] at e'
     cases e'
     have:r=hs.length:=by omega
     subst this
     refine⟨j,h4,by rw[at_,if_pos rfl],n,h1,fun k hk=>?_⟩
     obtain⟨r',hr'⟩:=h2 k hk
     exact occ _ r' hr'
   ·rw[at_] at hr
    rw[jf]
    by_cases hx:x=j
    ·rw[if_pos hx] at hr;cases hr;simp
    ·rw[if_neg hx] at hr
     have:=c.lt x r hr
     omega
   ·rw[at_] at hx hy
    by_cases h1:x=j
    ·rw[if_pos h1] at hx
     cases hx
     by_cases h2:y=j
     ·rw[h1,h2]
     ·rw[if_neg h2] at hy
      exact absurd (c.lt y _ hy) (k8 _)
    ·rw[if_neg h1] at hx
     by_cases h2:y=j
     ·rw[if_pos h2] at hy
      cases hy
      exact absurd (c.lt x _ hx) (k8 _)
     ·rw[if_neg h2] at hy
      exact c.inj x y r hx hy
theorem LC.steps(hm:CH m):∀(rest hs:List Int) (owner:Array (Option Nat)),LC m owner hs→hs.length+rest.length≤m+1→∃o',rest.foldl (Eh m) (some (owner,hs.length))=some (o',hs.length+rest.length)∧LC m o' (hs++rest)
 | [],hs,owner,c,_=> ⟨owner,rfl,by rw[mj];exact c⟩
 |h::rest,hs,owner,c,hl=>by
  simp only[jm] at hl
  obtain⟨o1,e1,c1⟩:=c.step hm (by omega) h
  obtain⟨o2,e2,c2⟩:=LC.steps hm rest (hs++[h]) o1 c1 (by rw[jf];simp;omega)
  refine⟨o2,?_,by rw[k4] at c2;exact c2⟩
  rw[List.foldl_cons,e1]
  have:(hs++[h]).length=hs.length+1:=by simp
  rw[this] at e2
  rw[e2]
  simp only[jm]
  congr 2
  omega
theorem LR(hm:CH m)(hs:Array Int)(hl:hs.size≤m+1):∃owner,layClean m hs=some owner∧LC m owner hs.toList:=by
 have c0:LC m (rQ (m+1) none) []:=⟨by simp,fun r h e=>by simp at e,fun j r e=>by
  rw[Array.getElem?_replicate] at e;split at e<;>simp at e,fun j j' r e=>by
  rw[Array.getElem?_replicate] at e;split at e<;>simp at e⟩
 obtain⟨o,e,c⟩:=LC.steps hm hs.toList [] _ c0 (by simpa using hl)
 refine⟨o,?_,by simpa using c⟩
 rw[LQ]
 have e':hs.toList.foldl (Eh m) (some (rQ (m+1) none,0))=_:=e
 rw[e']
 rfl
end
end StT
namespace StT
open PySem PySem.SetTable
section
variable{m:Nat}
theorem VU(hm:CH m)(hs:Array Int)(hl:hs.size≤m+1)(f mv:Nat)(led plain:Bool):∃t' order,laid m f mv led plain hs=some (t',order)∧t'.mask=m∧t'.led=led∧t'.plain=plain∧t'.moves=mv∧order.size=hs.size∧
  (∀i r:Nat,order[i]?=some r→r<hs.size)∧(∀i i' r:Nat,order[i]?=some r→order[i']?=some r→i=i')∧(∀r,r<hs.size→∃i:Nat,order[i]?=some r)∧Tb t' (order.toList.map fun r=>hs.getD r 0):=by
 obtain⟨owner,e,c⟩:=LR hm hs hl
 generalize hlive:(j6 (m+1)).filterMap (fun j=> (owner.getD j none).map (j,·))=live
 have mem:∀j r,(j,r)∈live↔j≤m∧owner[j]?=some (some r):=fun j r=>by
  rw[←hlive,ml]
  constructor
  ·rintro⟨x,hx,ex⟩
   have hx:=ke.mp hx
   have hxo:x<owner.size:=by rw[c.size];exact hx
   have eg:owner.getD x none=owner[x]:=by simp[qJ,hxo]
   rw[eg] at ex
   cases q:owner[x] with
   |none=>rw[q] at ex;cases ex
   |some r'=>
    rw[q] at ex
    cases ex
    exact⟨by omega,by rw[←q];simp[hxo]⟩
  ·rintro⟨h1,h2⟩
   obtain⟨hxo,q⟩:=kQ.mp h2
   refine⟨j,ke.mpr (by omega),?_⟩
   have eg:owner.getD j none=owner[j]:=by simp[qJ,hxo]
   rw[eg,q]
   rfl
 have pw:live.Pairwise fun a b=>a.1<b.1:=by
  rw[←hlive,pC]
  refine pR (fun{a b} h x hx y hy=>?_) (og (n:=m+1))
  cases q1:owner.getD a none with
  |none=>rw[q1] at hx;cases hx
  |some r1=>
   cases q2:owner.getD b none with
   |none=>rw[q2] at hy;cases hy
   |some r2=>
    rw[q1] at hx;rw[q2] at hy
    cases hx;cases hy
    exact h
 have lt:∀j r,(j,r)∈live→r<hs.size:=fun j r h=>by have:=c.lt j r ((mem j r).mp h).2;simpa using this
 have pwr:live.Pairwise fun a b=>a.2≠b.2:=by
  refine mh (fun{a b} ha hb h e=>?_) pw
  obtain⟨a1,a2⟩:=a
  obtain⟨b1,b2⟩:=b
  have h1:=(mem _ _).mp ha
  have h2:=(mem _ _).mp hb
  have e:a2=b2:=e
  subst e
  have:=c.inj _ _ _ h1.2 h2.2
  have h:a1<b1:=h
  omega
 have nd:(live.map (·.2)).Nodup:=qQ _ (fun _ _ h=>h) pwr
 have all:∀r,r<hs.size→∃j,(j,r)∈live:=fun r hr=>by
  obtain⟨j,h1,h2,_⟩:=c.put r (hs[r]) (by simp[hr])
  exact⟨j,(mem j r).mpr ⟨h1,h2⟩⟩
 have len:live.length=hs.size:=by
  apply Nat.le_antisymm
  ·have:=Cd hs.size (live.map (·.2)) nd fun x hx=>by
    obtain⟨⟨j,r⟩,h1,rfl⟩:=jl.mp hx
    exact lt j r h1
   simpa using this
  ·have:=NA hs.size (live.map (·.2)) fun r hr=>by
    obtain⟨j,hj⟩:=all r hr
    exact jl.mpr ⟨_,hj,rfl⟩
   simpa using this
 refine⟨{mask:=m,place:=(live.map (·.1)).toArray,dummies:=#[],finger:=f,led:=led,moves:=mv,plain:=plain},(live.map (·.2)).toArray,?_,rfl,rfl,rfl,rfl,by simpa using len,fun i r h=>?_,fun i i' r h h'=>?_,fun r hr=>?_,?_⟩
 ·unfold laid
  rw[e]
  show some _=some _
  rw[hlive]
 ·have h:(live.map (·.2))[i]?=some r:=by simpa using h
  rw[e9] at h
  cases q:live[i]? with
  |none=>rw[q] at h;cases h
  |some x=>rw[q] at h;cases h;exact lt x.1 x.2 (i9 q)
 ·have h:(live.map (·.2))[i]?=some r:=by simpa using h
  have h':(live.map (·.2))[i']?=some r:=by simpa using h'
  obtain⟨l1,e1⟩:=jc.mp h
  obtain⟨l2,e2⟩:=jc.mp h'
  rcases nG i i' with hlt|heq|hgt
  ·exact absurd (e1.trans e2.symm) (lg.mp nd i i' l1 l2 hlt)
  ·exact heq
  ·exact absurd (e2.trans e1.symm) (lg.mp nd i' i l2 l1 hgt)
 ·obtain⟨j,hj⟩:=all r hr
  obtain⟨i,hi⟩:=kK hj
  exact⟨i,by simp[hi]⟩
 ·have at_:∀i j:Nat,(live.map (·.1)).toArray[i]?=some j→∃r,live[i]?=some (j,r):=fun i j h=>by
   have h:(live.map (·.1))[i]?=some j:=by simpa using h
   rw[e9] at h
   cases q:live[i]? with
   |none=>rw[q] at h;cases h
   |some x=>
    rw[q] at h
    cases h
    exact⟨x.2,rfl⟩
  refine⟨hm,rfl,?_,fun i j h=>?_,by simp,fun i j h e1 e2=>?_⟩
  ·show(live.map (·.1)).toArray.toList.Pairwise (· < ·)
   exact qQ _ (fun _ _ h=>h) pw
  ·obtain⟨r,hr⟩:=at_ i j h
   exact((mem j r).mp (i9 hr)).1
  ·obtain⟨r,hr⟩:=at_ i j e1
   have hrlt:=lt j r (i9 hr)
   have e2:((live.map (·.2)).map fun r=>hs.getD r 0)[i]?=some h:=by simpa using e2
   rw[e9,e9,hr] at e2
   have e2:hs.getD r 0=h:=ki.inj e2
   have eh:hs.toList[r]?=some h:=by
    rw[←e2]
    simp[qJ,hrlt]
   obtain⟨j2,q1,q2,n,q3,q4⟩:=c.put r h eh
   have ej:=c.inj j2 j r q2 ((mem j r).mp (i9 hr)).2
   subst ej
   refine⟨n,q3,fun k hk=>?_⟩
   obtain⟨r',hr'⟩:=q4 k hk
   have hk':(advN m k (start m h)).j≤m:=(Pr.start m h).advN.j
   obtain⟨i',hi'⟩:=kK ((mem _ r').mpr ⟨hk',hr'⟩)
   refine⟨i',?_⟩
   show(live.map (·.1)).toArray[i']?=_
   simp[hi']
theorem QK{n:Nat}(h:CH m)(h1:n*5<m*3)(h2:m*3≤(n+1)*5)(h3:n<300):CH (si (grown (n+1))-1)∧n+1≤si (grown (n+1))-1∧(n+1)*5< (si (grown (n+1))-1)*3∧si (grown (n+1))≤512:=by
 rcases h with rfl|rfl|rfl|rfl
 ·have:n=4:=by omega
  subst this
  refine⟨.inr (.inl (by decide)),by decide,by decide,by decide⟩
 ·have:n=18:=by omega
  subst this
  refine⟨.inr (.inr (.inl (by decide))),by decide,by decide,by decide⟩
 ·have:n=76:=by omega
  subst this
  refine⟨.inr (.inr (.inr (by decide))),by decide,by decide,by decide⟩
 ·omega
theorem Cs{α:Type}(es:Array α):∀(l:List Nat),(∀r∈l,r<es.size)→∀i:Nat,(l.filterMap fun r=>es[r]?)[i]?=(l[i]?).bind fun r=>es[r]?
 | [],_,i=>by simp
 |r::l,h,i=>by
  have hr:=h r j9
  have e:es[r]?=some es[r]:=by simp[hr]
  rw[lR,e]
  cases i with
  |zero=>simp
  |succ i=>
   simp only[nV]
   exact Cs es l (fun x hx=>h x (jn _ hx)) i
theorem CV{α:Type}(es:Array α):∀(l:List Nat),(∀r∈l,r<es.size)→(l.filterMap fun r=>es[r]?).length=l.length
 | [],_=>rfl
 |r::l,h=>by
  have hr:=h r j9
  have e:es[r]?=some es[r]:=by simp[hr]
  rw[lR,e]
  simp[CV es l (fun x hx=>h x (jn _ hx))]
end
open PyProof.Rows
section
variable{prog:Program}{w:World}{A:js}{E:Value→c9→Prop}{s:c9}
noncomputable abbrev IK(prog:Program)(w:World)(h:Heap)(k:List Int)(a:Addr):Prop:=IsTupleKey (intKind prog w) h k a
noncomputable abbrev tk(prog:Program)(w:World):HeapKind prog w (List Int):=tupleKind (intKind prog w)
theorem FR{n:Int}{v:Value}(h:(intKind prog w).is n v=true):∃t,v=.int n t:=by
 cases v with
 |int m t=>
  have h2:(intKind prog w).is m (.int m t)=true:=intKind_is _ _ _ _
  have e:=(intKind prog w).inj _ _ _ h h2
  subst e
  exact⟨t,rfl⟩
 |_=>exact absurd h (by simp[intKind,Value.isInt])
theorem HN{ks:List Int}{vs:List Value}(h:ItemsAre (intKind prog w) ks vs):∀v∈vs,∃n t,v=.int n t:=by
 induction h with
 |nil=>intro v hv;simp at hv
 |cons h1 _ ih=>
  intro v hv
  rcases i6.mp hv with rfl|hv
  ·obtain⟨t,e⟩:=FR h1
   exact⟨_,t,e⟩
  ·exact ih v hv
theorem cS{k:List Int}{a:Addr}{Q:Bool→c9→Prop}(hk:IK prog w s.heap k a)(h:Q true s):wpAny (model prog w) A (hashByValue 8 (.ref a)) Q E s:=by
 have hT:=hk.typeIs
 obtain⟨o,items,n,ho,_,hd,hi⟩:=hk
 have hints:=HN hi
 unfold hashByValue
 refine b6 (rK hT PySem.F.slot_tuple_hash.lookup ?_)
 dsimp only
 refine b6 (lN ho hd ?_)
 show wpAny _ _ ((forIn items _ _)>>=_) _ _ s
 rw[←Array.forIn_toList]
 refine b6 (oF _ (fun rest r s'=>r.1=none∧s'=s∧∀v∈rest,∃n t,v=sv n t) _ ?_ ?_ _ _ ⟨rfl,rfl,hints⟩)
 ·rintro v rest r s' ⟨hr,rfl,hall⟩
  obtain⟨n,t,rfl⟩:=hall v j9
  refine b6 (e6 ?_)
  simp only[oU,jt,if_false]
  exact e6 ⟨rfl,rfl,fun u hu'=>hall u (jn _ hu')⟩
 ·rintro⟨r1,r2⟩ s' ⟨hr,rfl,_⟩
  simp only at hr
  subst hr
  exact e6 h
theorem Oa{k:List Int}{a:Addr}{Q:Bool→c9→Prop}(hk:IK prog w s.heap k a)(h:Q false s):wpAny (model prog w) A (qK 8 (.ref a)) Q E s:=by
 have hT:=hk.typeIs
 obtain⟨o,items,n,ho,hc,hd,hi⟩:=hk
 have hints:=HN hi
 unfold qK
 refine b6 (qt hT ?_)
 dsimp only
 rw[if_pos (by decide)]
 refine b6 (e6 ?_)
 simp only[oU,jt,if_false]
 refine b6 (lN ho hd ?_)
 show wpAny _ _ ((forIn items _ _)>>=_) _ _ s
 rw[←Array.forIn_toList]
 refine b6 (oF _ (fun rest r s'=>r.1=none∧s'=s∧∀v∈rest,∃n t,v=sv n t) _ ?_ ?_ _ _ ⟨rfl,rfl,hints⟩)
 ·rintro v rest r s' ⟨hr,rfl,hall⟩
  obtain⟨n,t,rfl⟩:=hall v j9
  unfold qK
  refine b6 (e6 ?_)
  simp only[jt,if_false]
  exact e6 ⟨rfl,rfl,fun u hu'=>hall u (jn _ hu')⟩
 ·rintro⟨r1,r2⟩ s' ⟨hr,rfl,_⟩
  simp only at hr
  subst hr
  exact e6 h
theorem VV{k:List Int}{a:Addr}{Q:Bool→c9→Prop}{l:List Value}(hk:IK prog w s.heap k a)(hl:∀v∈l,∃k' b,v=.ref b∧IK prog w s.heap k' b)(h:Q false s):wpAny (model prog w) A (searchCouldBeSeen (.ref a) l) Q E s:=by
 unfold searchCouldBeSeen
 refine b6 (oF _ (fun rest r s'=>r.1=none∧s'=s∧∀v∈rest,∃k' b,v=Value.ref b∧IK prog w s.heap k' b) _ ?_ ?_ _ _ ⟨rfl,rfl,hl⟩)
 ·rintro v rest r s' ⟨hr,rfl,hall⟩
  obtain⟨k',b,rfl,hb⟩:=hall v j9
  have go:∀u∈rest,∃k' b,u=Value.ref b∧IK prog w s'.heap k' b:=fun u hu'=>hall u (jn _ hu')
  dsimp only
  split
  ·exact e6 ⟨rfl,rfl,go⟩
  ·refine b6 (wpAny_eqIsQuiet_tuple hk ?_)
   simp only[oU,jt,if_false]
   refine b6 (wpAny_eqIsQuiet_tuple hb ?_)
   simp only[oU,jt,if_false]
   refine b6 (Oa hk ?_)
   simp only[jt,if_false]
   refine b6 (Oa hb ?_)
   simp only[jt,if_false]
   exact e6 ⟨rfl,rfl,go⟩
 ·rintro⟨r1,r2⟩ s' ⟨hr,rfl,_⟩
  simp only at hr
  subst hr
  exact e6 h
end
local macro_rules | `(tactic| omega) => `(tactic| first | lia | omega)
open PySem PySem.SetTable PyProof.Rows
section
variable{prog:Program}{w:World}{A:js}{E:Value→c9→Prop}{s:c9}
noncomputable def QL(xs:List (List Int×Addr))(prog:Program)(w:World):List (Int×Value):=xs.map fun p=> ((tk prog w).hash p.1,Value.ref p.2)
structure SetD(prog:Program)(w:World)(h:Heap)(a:Addr)(xs:List (List Int×Addr))(o:Obj)(es:Array (Int×Value))(ep:Nat)(t:lu):Prop where
 get:h.get? a=some o
 ex:o.ExactSet
 dat:o.data=.set es ep t
 es:es.toList=QL xs prog w
 key:∀(i:Nat) (k:List Int) (x:Addr),xs[i]?=some (k,x)→IK prog w h k x
 nd:(xs.map (·.1)).Nodup
 tb:Tb t (xs.map fun p=> (tk prog w).hash p.1)
 pl:t.plain=true
 room:xs.length*5<t.mask*3
 led:t.led=!w.params.followText "set-order"
variable{a:Addr}{xs:List (List Int×Addr)}{o:Obj}{es:Array (Int×Value)}{ep:Nat}{t:lu}
theorem SetD.size(S:SetD prog w s.heap a xs o es ep t):es.size=xs.length:=by
 rw[←jg,S.es];simp[QL]
theorem SetD.fits(S:SetD prog w s.heap a xs o es ep t):t.fits es.size=true:=by
 have h1:=S.tb.size
 have h2:=S.room
 have h3:t.fill=t.place.size:=by unfold sD;rw[S.tb.dum];rfl
 rw[e7] at h1
 unfold lu.fits
 rw[h3,S.size,h1]
 simp only[beq_self_eq_true,qb,decide_eq_true_eq]
 omega
theorem SetD.len(S:SetD prog w s.heap a xs o es ep t):(xs.map fun p=> (tk prog w).hash p.1).length≤t.mask:=by
 have:=S.room
 rw[e7];omega
theorem SetD.at(S:SetD prog w s.heap a xs o es ep t){i:Nat}{k:List Int}{x:Addr}(h:xs[i]?=some (k,x)):es[i]?=some ((tk prog w).hash k,.ref x):=by
 have:es[i]?=es.toList[i]?:=by simp
 rw[this,S.es,QL,e9,h]
 rfl
theorem SetD.of_at(S:SetD prog w s.heap a xs o es ep t){i:Nat}(h:i<xs.length):∃k x,xs[i]?=some (k,x):=⟨_,_,by simp[h];rfl⟩
noncomputable abbrev GH:Array (Int×Value)→Nat→Int:=PySem.W.hashAt
theorem SetD.hash(S:SetD prog w s.heap a xs o es ep t){i:Nat}{k:List Int}{x:Addr}(h:xs[i]?=some (k,x)):GH es i=(tk prog w).hash k:=by
 show((es[i]?).map mn).getD 0=_
 rw[S.at h]
 rfl
theorem LS(S:SetD prog w s.heap a xs o es ep t)(hu:A.units<cLine){k:List Int}{x:Addr}(hk:IK prog w s.heap k x){Q:SetFound→c9→Prop}
  (hT:∀(i:Nat) (y:Addr),xs[i]?=some (k,y)→Q (.there none) s)
  (hF:(∀(i:Nat) (y:Addr),xs[i]?≠some (k,y))→∀n,¬LN t (advN t.mask n (start t.mask ((tk prog w).hash k))).j→(∀c,c<n→LN t (advN t.mask c (start t.mask ((tk prog w).hash k))).j)→Q (.free (advN t.mask n (start t.mask ((tk prog w).hash k))).j false) s):
  ∀(fuel c:Nat) (stand:Option Probe),stand.getD (t.probeStart ((tk prog w).hash k))=advN t.mask c (start t.mask ((tk prog w).hash k))→
   (∀c',c'<c→LN t (advN t.mask c' (start t.mask ((tk prog w).hash k))).j∧∀(i:Nat) (y:Addr),t.place[i]?=some (advN t.mask c' (start t.mask ((tk prog w).hash k))).j→xs[i]?≠some (k,y))→
   (∃N,c≤N∧¬LN t (advN t.mask N (start t.mask ((tk prog w).hash k))).j∧N-c<fuel)→
   wpAny (model prog w) A (setSearchFrom a (.ref x) ((tk prog w).hash k) true fuel stand) Q E s:=by
 intro fuel
 induction fuel with
 |zero=>rintro c stand _ _ ⟨N,_,_,h⟩;exact absurd h (oX _)
 |succ fuel ih=>
  rintro c stand hst hpre ⟨N,hcN,hN,hfu⟩
  have hsz:t.place.size=xs.length:=by have:=S.tb.size;rwa[e7] at this
  unfold setSearchFrom
  refine b6 (lT S.get S.dat S.fits ?_)
  dsimp only
  have hgw:t.gaveWay=false:=by unfold lu.gaveWay;rw[S.tb.odd];rfl
  rw[hgw]
  simp only[jt,if_false]
  obtain⟨n,hn,hstop⟩:=LP S.tb S.len (p:=advN t.mask c (start t.mask ((tk prog w).hash k))) (Pr.start _ _).advN (GH es) ((tk prog w).hash k)
  rw[hst]
  have hadd:∀m,advN t.mask m (advN t.mask c (start t.mask ((tk prog w).hash k)))=advN t.mask (c+m) (start t.mask ((tk prog w).hash k)):=fun m=> (CF _ _ _ _).symm
  have pre2:∀c',c'<c+n→LN t (advN t.mask c' (start t.mask ((tk prog w).hash k))).j∧∀(i:Nat) (y:Addr),t.place[i]?=some (advN t.mask c' (start t.mask ((tk prog w).hash k))).j→xs[i]?≠some (k,y):=fun c' hc'=>by
   by_cases hlt:c'<c
   ·exact hpre c' hlt
   ·obtain⟨i,h1,h2⟩:=hn (c'-c) (by omega)
    rw[hadd,show c+(c'-c)=c' by omega] at h1
    refine⟨⟨i,h1⟩,fun i' y h1' e=>?_⟩
    have:i'=i:=by
     rw[←CD S.tb.ris h1',←CD S.tb.ris h1]
    subst this
    exact h2 (S.hash e)
  obtain⟨met,hmet⟩:∃met,t.probe (GH es) ((tk prog w).hash k) (advN t.mask c (start t.mask ((tk prog w).hash k)))=some met:=by
   rcases hstop with⟨_,hp⟩| ⟨_,_,_,hp⟩<;>exact⟨_,hp⟩
  split
  case h_2 heq=>exact absurd hmet (heq met)
  rename_i met' heq
  have heq:t.probe (GH es) ((tk prog w).hash k) (advN t.mask c (start t.mask ((tk prog w).hash k)))=some met':=heq
  rcases hstop with⟨hf,hp⟩| ⟨i,h1,h2,hp⟩
  ·rw[hp] at heq
   cases heq
   dsimp only
   rw[EF]
   show wpAny _ _ (pure _) _ _ s
   rw[hadd] at hf ⊢
   refine e6 (hF (fun i y e=>?_) (c+n) hf fun c' hc'=> (pre2 c' hc').1)
   have hi:i<xs.length:=(jc.mp e).1
   have hpl:t.place[i]?=some (t.place[i]'(by omega)):=by simp[show i<t.place.size by omega]
   obtain⟨n',e1,w1⟩:=S.tb.fnd i _ ((tk prog w).hash k) hpl (by rw[e9,e];rfl)
   by_cases hlt:n'<c+n
   ·exact(pre2 n' hlt).2 i y (by rw[e1];exact hpl) e
   ·by_cases heq:n'=c+n
    ·subst heq
     exact hf ⟨i,by rw[e1];exact hpl⟩
    ·exact hf (w1 (c+n) (by omega))
  ·rw[hp] at heq
   cases heq
   dsimp only
   rw[hadd] at h1
   have hi:i<xs.length:=by rw[←hsz];exact(kQ.mp h1).1
   obtain⟨k',y,ek⟩:=S.of_at hi
   have hky:=S.key i k' y ek
   have seen:∀v,v∈(es.filter fun e=>e.1==(tk prog w).hash k).toList.map (·.2)→∃k' b,v=Value.ref b∧IK prog w s.heap k' b:=fun v hv=>by
    obtain⟨⟨h',v'⟩,hm,rfl⟩:=jl.mp hv
    have hm:(h',v')∈es.toList:=by
     have:=hm
     simp only[Array.toList_filter] at this
     exact(jo.mp this).1
    rw[S.es,QL] at hm
    obtain⟨⟨k2,b⟩,hb,eb⟩:=jl.mp hm
    cases eb
    obtain⟨j,hj⟩:=kK hb
    exact⟨k2,b,rfl,S.key j k2 b hj⟩
   cases hled:t.led with
   |true=>
    simp only[oU,jt,if_false]
    rw[S.at ek]
    dsimp only
    refine b6 (kh (wpAny_eqBool_tuple hu hky hk ?_))
    refine b6 (lT S.get S.dat S.fits ?_)
    dsimp only
    by_cases hkk:k'=k
    ·subst hkk
     rw[decide_eq_true rfl]
     exact e6 (hT i y ek)
    ·rw[decide_eq_false hkk]
     have hsm:t.sameMemory t.moves t.mask=some true:=by unfold lu.sameMemory;rw[if_pos (by simp)]
     rw[hsm]
     simp only[qI,jt,if_false,if_true]
     rw[hadd,S.tb.live h1]
     dsimp only
     rw[S.at ek]
     dsimp only
     have hss:isSame (Value.ref y) (Value.ref y)=pure true:=by
      show(if(y==y)=true then _ else _)=_
      rw[if_pos (beq_self_eq_true y)]
     rw[hss]
     refine b6 (e6 ?_)
     simp only[if_true]
     refine b6 (e6 ?_)
     dsimp only
     rw[hadd]
     refine ih (c+n+1) _ rfl (fun c' hc'=>?_) ?_
     ·by_cases hlt:c'<c+n
      ·exact pre2 c' hlt
      ·have:c'=c+n:=by omega
       subst this
       refine⟨⟨i,h1⟩,fun i' y' h1' e=>?_⟩
       have:i'=i:=by
        rw[←CD S.tb.ris h1',←CD S.tb.ris h1]
       subst this
       rw[ek] at e
       exact hkk (congrArg mn (ki.inj e))
     ·have hle:c+n<N:=by
       rcases nG (c+n) N with hlt|heq|hgt
       ·exact hlt
       ·exact absurd ⟨i,by rw[←heq];exact h1⟩ hN
       ·exact absurd (pre2 N hgt).1 hN
      exact⟨N,by omega,hN,by omega⟩
   |false=>
    simp only[qH,if_true]
    refine b6 (VV hk seen ?_)
    simp only[jt,if_false]
    rw[S.at ek]
    dsimp only
    refine b6 (kh (wpAny_eqBool_tuple hu hky hk ?_))
    refine b6 (lT S.get S.dat S.fits ?_)
    dsimp only
    by_cases hkk:k'=k
    ·subst hkk
     rw[decide_eq_true rfl]
     exact e6 (hT i y ek)
    ·rw[decide_eq_false hkk]
     have hsm:t.sameMemory t.moves t.mask=some true:=by unfold lu.sameMemory;rw[if_pos (by simp)]
     rw[hsm]
     simp only[qI,jt,if_false,if_true]
     rw[hadd,S.tb.live h1]
     dsimp only
     rw[S.at ek]
     dsimp only
     have hss:isSame (Value.ref y) (Value.ref y)=pure true:=by
      show(if(y==y)=true then _ else _)=_
      rw[if_pos (beq_self_eq_true y)]
     rw[hss]
     refine b6 (e6 ?_)
     simp only[if_true]
     refine b6 (e6 ?_)
     dsimp only
     rw[hadd]
     refine ih (c+n+1) _ rfl (fun c' hc'=>?_) ?_
     ·by_cases hlt:c'<c+n
      ·exact pre2 c' hlt
      ·have:c'=c+n:=by omega
       subst this
       refine⟨⟨i,h1⟩,fun i' y' h1' e=>?_⟩
       have:i'=i:=by
        rw[←CD S.tb.ris h1',←CD S.tb.ris h1]
       subst this
       rw[ek] at e
       exact hkk (congrArg mn (ki.inj e))
     ·have hle:c+n<N:=by
       rcases nG (c+n) N with hlt|heq|hgt
       ·exact hlt
       ·exact absurd ⟨i,by rw[←heq];exact h1⟩ hN
       ·exact absurd (pre2 N hgt).1 hN
      exact⟨N,by omega,hN,by omega⟩
end
end StT
namespace StT
local macro_rules | `(tactic| omega) => `(tactic| first | lia | omega)
open PySem PySem.SetTable PyProof.Rows
section
variable{prog:Program}{w:World}{A:js}{E:Value→c9→Prop}{s:c9}
variable{a:Addr}{xs:List (List Int×Addr)}{o:Obj}{es:Array (Int×Value)}{ep:Nat}{t:lu}
noncomputable def SetX(prog:Program)(w:World)(h:Heap)(a:Addr)(xs:List (List Int×Addr)):Prop:=∃o es ep t,SetD prog w h a xs o es ep t
theorem Rq{h:Heap}{k:List Int}{x:Addr}(hk:IK prog w h k x)(hg:h.get? a=some o)(he:o.ExactSet):x≠a:=by
 rintro rfl
 obtain⟨o',items,n,ho,hc,_⟩:=hk
 rw[hg] at ho
 cases ho
 rw[he.1] at hc
 exact absurd hc (by decide)
theorem Cu{h h':Heap}{k:List Int}{x:Addr}(hk:IK prog w h k x)(hs:∀u,h.get? x=some u→h'.get? x=some u):IK prog w h' k x:=by
 obtain⟨o',items,n,ho,hc,hd,hi⟩:=hk
 exact⟨o',items,n,hs _ ho,hc,hd,hi⟩
theorem Im(hg:s.heap.get? a=some o)(hd:o.data=.set es ep t)(es':Array (Int×Value))(t':lu):(s.heap.update a (qF es' t')).get? a=some {o with data:=.set es' (ep+1) t'}:=by
 have:=nu (qF es' t') hg (by rw[putSet_of es' t' hd];rfl)
 rw[putSet_of es' t' hd] at this;exact this
theorem NF:(QL xs prog w).length=xs.length:=by simp[QL]
theorem Rr{n:Nat}(hg:s.heap.get? a=some o)(he:o.ExactSet)(hd:o.data=.set es ep t)(hes:es.toList=QL xs prog w)(hkey:∀(i:Nat) (k:List Int) (x:Addr),xs[i]?=some (k,x)→IK prog w s.heap k x)
  (hnd:(xs.map (·.1)).Nodup) (htb:Tb t (xs.map fun p=> (tk prog w).hash p.1)) (hpl:t.plain=true) (hled:t.led=!w.params.followText "set-order") (hn:xs.length=n+1) (h1:n*5<t.mask*3) (h2:t.mask*3≤(n+1)*5) (h3:n<300) {Q:Unit→c9→Prop}
  (h:∀h' xs',mG a s.heap h'→SetX prog w h' a xs'→(∀p,p∈xs'↔p∈xs)→xs'.length=xs.length→Q () {s with heap:=h'}):wpAny (model prog w) A (setRelay a (grown (n+1))) Q E s:=by
 obtain⟨m1,m2,m3,m4⟩:=QK htb.mask h1 h2 h3
 have hsz:es.size=n+1:=by rw[←jg,hes,NF,hn]
 have hfill:t.fill=t.place.size:=by unfold sD;rw[htb.dum];rfl
 have hps:t.place.size=n+1:=by have:=htb.size;rw[e7,hn] at this;exact this
 have hlow:=htb.low
 have hfit:t.fits es.size=true:=by
  unfold lu.fits
  rw[hfill,hsz,hps]
  simp only[beq_self_eq_true,qb,decide_eq_true_eq]
  omega
 unfold setRelay
 refine b6 (lT hg hd hfit ?_)
 dsimp only
 rw[if_neg (by rw[lI];omega)]
 refine b6 ?_
 obtain⟨t',order,el,q1,q2,q3,q4,q5,q6,q7,q8,q9⟩:=VU m1 (es.map (·.1)) (by rw[Array.size_map,hsz];omega) t.finger (t.movedTo (si (grown (n+1))-1)) t.led t.plain
 rw[Array.size_map] at q5 q6 q8
 have el':t.relaid (es.map (·.1)) (grown (n+1))=some (t',order):=el
 rw[el']
 have hfm:(order.filterMap (es[·]?)).toList=order.toList.filterMap fun r=>es[r]?:=by simp
 have hmem:∀r∈order.toList,r<es.size:=fun r hr=>by
  obtain⟨i,hi⟩:=kK hr
  exact q6 i r (by simpa using hi)
 have hes':(order.filterMap (es[·]?)).size=es.size:=by
  rw[←jg,hfm,CV es _ hmem,jg,q5]
 show wpAny _ _ (if((order.filterMap fun r=>es[r]?).size !=es.size)=true then _ else pure (order.filterMap fun r=>es[r]?,t')) _ _ s
 rw[if_neg (by rw[hes'];simp)]
 refine e6 ?_
 dsimp only
 refine wpAny_storeSet_of hg hd ?_ (by rw[hes',hsz,lI];omega)
 generalize hE:order.filterMap (es[·]?)=es' at*
 have hxs:∀r,r<es.size→∃p,xs[r]?=some p:=fun r hr=> ⟨_,by simp[show r<xs.length by rw[hn];omega];rfl⟩
 have hfx:(order.toList.filterMap fun r=>xs[r]?).length=es.size:=by
  have:=CV xs.toArray order.toList (fun r hr=>by rw[ji,hn];have:=hmem r hr;omega)
  simp only[List.getElem?_toArray] at this
  rw[this,jg,q5]
 have at_:∀i:Nat,(order.toList.filterMap fun r=>xs[r]?)[i]?=(order.toList[i]?).bind fun r=>xs[r]?:=fun i=>by
  have:=Cs xs.toArray order.toList (fun r hr=>by rw[ji,hn];have:=hmem r hr;omega) i
  simpa only[List.getElem?_toArray] using this
 have mem:∀p,p∈(order.toList.filterMap fun r=>xs[r]?)↔p∈xs:=fun p=>by
  rw[ml]
  constructor
  ·rintro⟨r,_,e⟩;exact i9 e
  ·intro hp
   obtain⟨r,hr⟩:=kK hp
   have hrl:r<es.size:=by rw[hsz,←hn];exact(jc.mp hr).1
   obtain⟨i,hi⟩:=q8 r hrl
   exact⟨r,i9 (i:=i) (by simpa using hi),hr⟩
 have hesx:∀i:Nat,es[i]?=(xs[i]?).map fun p=> ((tk prog w).hash p.1,Value.ref p.2):=fun i=>by
  have:es[i]?=es.toList[i]?:=by simp
  rw[this,hes,QL,e9]
 refine h _ (order.toList.filterMap fun r=>xs[r]?) (nS ..) ⟨_,es',ep+1,t',⟨Im hg hd es' t',he,rfl,?_,fun i k x e=>?_,?_,?_,?_,?_,?_⟩⟩ mem (by rw[hfx,hsz,hn])
 ·apply lH
  intro i
  rw[hfm,Cs es _ hmem,QL,e9,at_]
  cases order.toList[i]? with
  |none=>rfl
  |some r=>exact hesx r
 ·have hp:(k,x)∈xs:=(mem _).mp (i9 e)
  obtain⟨r,hr⟩:=kK hp
  have ik:=hkey r k x hr
  exact Cu ik fun u hu=> ((nS s.heap a (qF es' t')).2 x (Rq ik hg he)).trans hu
 ·rw[lX]
  refine lg.mpr fun i j hi hj hij e=>?_
  rw[e7] at hi hj
  have e1:=at_ i
  have e2:=at_ j
  rw[i8 hi] at e1
  rw[i8 hj] at e2
  rw[pX,pX] at e
  cases r1:order.toList[i]? with
  |none=>rw[r1] at e1;cases e1
  |some r=>
   cases r2:order.toList[j]? with
   |none=>rw[r2] at e2;cases e2
   |some r'=>
    rw[r1] at e1
    rw[r2] at e2
    have e1:xs[r]?=some _:=e1.symm
    have e2:xs[r']?=some _:=e2.symm
    obtain⟨l1,g1⟩:=jc.mp e1
    obtain⟨l2,g2⟩:=jc.mp e2
    have ee:(xs.map (·.1))[r]'(by simpa using l1)=(xs.map (·.1))[r']'(by simpa using l2):=by rw[pX,pX,g1,g2];exact e
    have nd:=lX.mp hnd
    have:r=r':=by
     rcases nG r r' with hlt|heq|hgt
     ·exact absurd ee (lg.mp nd r r' _ _ hlt)
     ·exact heq
     ·exact absurd ee.symm (lg.mp nd r' r _ _ hgt)
    subst this
    have:=q7 i j r (by simpa using r1) (by simpa using r2)
    omega
 ·have:(order.toList.filterMap fun r=>xs[r]?).map (fun p=> (tk prog w).hash p.1)=order.toList.map fun r=> (es.map (·.1)).getD r 0:=by
   apply lH
   intro i
   rw[e9,at_,e9]
   cases hr:order.toList[i]? with
   |none=>rfl
   |some r=>
    have hrl:=hmem r (i9 hr)
    obtain⟨p,hp⟩:=hxs r hrl
    show(xs[r]?).map _=some ((es.map (·.1)).getD r 0)
    rw[hp]
    have e3:=hesx r
    rw[hp] at e3
    obtain⟨l,g⟩:=kQ.mp e3
    simp[qJ,hrl,g]
  rw[this]
  exact q9
 ·rw[q3];exact hpl
 ·rw[hfx,hsz,q1];exact m3
 ·rw[q2];exact hled
end
end StT
namespace StT
local macro_rules | `(tactic| omega) => `(tactic| first | lia | omega)
open PySem PySem.SetTable PyProof.Rows
section
variable{prog:Program}{w:World}{A:js}{E:Value→c9→Prop}{s:c9}
variable{a:Addr}{xs:List (List Int×Addr)}{o:Obj}{es:Array (Int×Value)}{ep:Nat}{t:lu}
theorem ZF(S:SetX prog w s.heap a xs)(hu:A.units<cLine){k:List Int}{x:Addr}(hk:IK prog w s.heap k x)(hl:xs.length<300){Q:Bool→c9→Prop}
  (hT:∀y,(k,y)∈xs→Q false s)
  (hF:(∀y,(k,y)∉xs)→∀h' xs',mG a s.heap h'→SetX prog w h' a xs'→(∀p,p∈xs'↔p∈xs∨p=(k,x))→xs'.length=xs.length+1→Q true {s with heap:=h'}):
  wpAny (model prog w) A (setAddHashed a (.ref x) ((tk prog w).hash k)) Q E s:=by
 obtain⟨o,es,ep,t,S⟩:=S
 unfold setAddHashed setAddHashedIn
 refine kh (b6 (lT S.get S.dat S.fits ?_))
 dsimp only
 have hbs:byScan (.ref x) es=false:=rfl
 rw[hbs]
 simp only[jt,if_false]
 obtain⟨e,he,hne⟩:=S.tb.room S.len
 obtain⟨N,hN,eN⟩:=XX S.tb.mask (Pr.start t.mask ((tk prog w).hash k)) he
 have hm511:t.mask≤511:=by rcases S.tb.mask with h|h|h|h<;>omega
 refine b6 (LS S hu hk (fun i y e=>?_) (fun hno n hf hw=>?_) 100000 0 none (Rn t _) (fun c hc=>absurd hc (oX _)) ⟨N,kN _,by rw[eN];exact hne,by omega⟩)
 ·dsimp only
  exact e6 (hT y (i9 e))
 ·dsimp only
  refine b6 (lT S.get S.dat S.fits ?_)
  dsimp only
  obtain⟨p1,p2,p3,p4,p5,p6⟩:=S.tb.put hf hw
  generalize hJ:(advN t.mask n (start t.mask ((tk prog w).hash k))).j=J at*
  generalize hput:t.put J=tp at*
  obtain⟨t1,q⟩:=tp
  dsimp only at p1 p2 p3 p4 p5 p6 ⊢
  rw[e7] at p2
  rw[p4,S.pl]
  simp only[if_true]
  refine b6 (cS hk ?_)
  simp only[if_true]
  refine b6 (wpAny_storeSet_of S.get S.dat ?_ (by
   rw[Dz _ _ _ (by rw[S.size];exact p2),S.size,lI];omega))
  have hes1:(mK es q ((tk prog w).hash k,.ref x)).toList=QL (xs.take q++(k,x)::xs.drop q) prog w:=by
   rw[BR,S.es]
   simp[QL]
  have hmem:∀p,p∈xs.take q++(k,x)::xs.drop q↔p∈xs∨p=(k,x):=fun p=>by
   rw[ju,i6]
   constructor
   ·rintro(h|h|h)
    ·exact .inl (oD h)
    ·exact .inr h
    ·exact .inl (List.mem_of_mem_drop h)
   ·rintro(h|h)
    ·rw[←kU q xs] at h
     rcases ju.mp h with h|h
     ·exact .inl h
     ·exact .inr (.inr h)
    ·exact .inr (.inl h)
  have hlen:(xs.take q++(k,x)::xs.drop q).length=xs.length+1:=by
   rw[jf,jm,j8,mN];omega
  have hnod:((xs.take q++(k,x)::xs.drop q).map (·.1)).Nodup:=by
   have hxs:(xs.take q).map (·.1)++(xs.drop q).map (·.1)=xs.map (·.1):=by rw[←jX,kU]
   have nd:=S.nd
   rw[←hxs] at nd
   rw[jX,jr]
   have hkn:k∉(xs.take q).map (·.1)++(xs.drop q).map (·.1):=by
    rw[hxs]
    intro hm
    obtain⟨⟨k',y⟩,hp,rfl⟩:=jl.mp hm
    obtain⟨i,hi⟩:=kK hp
    exact hno i y hi
   rw[ju,not_or] at hkn
   obtain⟨n1,n2,n3⟩:=kS.mp nd
   refine kS.mpr ⟨n1,kg.mpr ⟨hkn.2,n2⟩,fun b hb c hc=>?_⟩
   rcases i6.mp hc with rfl|hc
   ·rintro rfl;exact hkn.1 hb
   ·exact n3 b hb c hc
  have hsb:=nS s.heap a (qF (mK es q ((tk prog w).hash k,.ref x)) t1)
  have hg1:=Im (s:=s) S.get S.dat (mK es q ((tk prog w).hash k,.ref x)) t1
  have hkey1:∀(i:Nat) (k':List Int) (x':Addr),(xs.take q++(k,x)::xs.drop q)[i]?=some (k',x')→IK prog w (s.heap.update a (qF (mK es q ((tk prog w).hash k,.ref x)) t1)) k' x':=fun i k' x' e=>by
   have ik:IK prog w s.heap k' x':=by
    rcases(hmem _).mp (i9 e) with h|h
    ·obtain⟨j,hj⟩:=kK h
     exact S.key j k' x' hj
    ·cases h;exact hk
   exact Cu ik fun u hu=> (hsb.2 x' (Rq ik S.get S.ex)).trans hu
  have htb1:Tb t1 ((xs.take q++(k,x)::xs.drop q).map fun p=> (tk prog w).hash p.1):=by
   simpa using p1
  have hno':∀y,(k,y)∉xs:=fun y hy=>by
   obtain⟨i,hi⟩:=kK hy
   exact hno i y hi
  have hfill:t1.fill=xs.length+1:=by
   unfold sD
   rw[htb1.dum]
   have:=htb1.size
   rw[e7,hlen] at this
   rw[this];rfl
  have hroom:=S.room
  simp only[qH,qb]
  cases htf:t1.tooFull with
  |true=>
   simp only[if_true]
   have htf':t1.mask*3≤(xs.length+1)*5:=by
    unfold lu.tooFull at htf
    rw[hfill] at htf
    simpa using htf
   rw[S.size]
   refine b6 (Rr (s:={s with heap:=s.heap.update a (qF (mK es q ((tk prog w).hash k,.ref x)) t1)}) hg1 S.ex rfl hes1 hkey1 hnod htb1 (by rw[p4];exact S.pl) (by rw[p5];exact S.led) hlen (by rw[p3];exact hroom) htf' hl fun h' xs' sb sx mm ll=>?_)
   refine e6 (hF hno' h' xs' (hsb.trans sb) sx (fun p=> (mm p).trans (hmem p)) (ll.trans hlen))
  |false=>
   simp only[jt,if_false]
   refine e6 (hF hno' _ _ hsb ⟨_,_,_,t1,hg1,S.ex,rfl,hes1,hkey1,hnod,htb1,by rw[p4];exact S.pl,?_,by rw[p5];exact S.led⟩ hmem hlen)
   unfold lu.tooFull at htf
   rw[hfill] at htf
   rw[hlen]
   simpa using htf
noncomputable def Jh(ks:List (List Int×Addr))(xs:List (List Int×Addr)):Prop:=(∀p,p∈xs→p∈ks)∧(∀k y,(k,y)∈ks→∃y',(k,y')∈xs)∧xs.length≤ks.length
theorem SetX.keep'{h h':Heap}(S:SetX prog w h a xs)(ha:∀u,h.get? a=some u→h'.get? a=some u)(hk:∀k x,(k,x)∈xs→∀u,h.get? x=some u→h'.get? x=some u):SetX prog w h' a xs:=by
 obtain⟨o,es,ep,t,S⟩:=S
 exact⟨o,es,ep,t,ha _ S.get,S.ex,S.dat,S.es,fun i k x e=>Cu (S.key i k x e) (hk k x (i9 e)),S.nd,S.tb,S.pl,S.room,S.led⟩
theorem VW{I l:Addr}{items:Array Value}{ps:List (List Int×Addr)}(hh:A.in1.handled=none)(hne:l≠I)(hI:a≠I)(hla:a≠l)(hps:items.toList=ps.map fun p=>Value.ref p.2)(hz:ps.length≤300)(hu:A.units+1<cLine)
  {R:tB→c9→Prop}:∀(n i:Nat) (s:c9) (xs:List (List Int×Addr)),n=ps.length-i→i≤ps.length→s.heap.IsListIter I l i→s.heap.IsList l items→(∀k x,(k,x)∈ps→IK prog w s.heap k x∧x≠I)→SetX prog w s.heap a xs→Jh (ps.take i) xs→
   (∀h' tk' xs',(∀b u,b≠a→b≠I→s.heap.get? b=some u→h'.get? b=some u)→SetX prog w h' a xs'→Jh ps xs'→R (.ok (.ret .none)) {s with heap:=h',toks:=tk'})→
   oG (model prog w) A (.builtin "set.update.loop" ⟨[.ref a,.ref I],[]⟩) R s:=by
 have W:=Walks.list (A:=A.in1) (prog:=prog) (w:=w) hh I l hne items
 have hsz:items.size=ps.length:=by rw[←jg,hps,e7]
 intro n
 induction n with
 |zero=>
  intro i s xs hn hi hit hl hp hX hS hR
  have:i=ps.length:=by omega
  subst this
  rw[kI] at hS
  refine mU PyProof.Rows.F.entry_set_update_loop ?_
  rw[mR l9 _]
  show wpAny _ A.in1 (oz (.ref I)>>=_) _ _ s
  refine b6 (pS hh hit hl (by simp[hsz]) fun h' hk=>?_)
  show wpAny _ A.in1 (ret mV) _ _ _
  refine e6 (hR h' s.toks xs (fun b u _ hb e=>hk b u hb e) (hX.keep' (fun u e=>hk a u hI e) fun k x hx u e=>hk x u (hp k x (hS.1 _ hx)).2 e) hS)
 |succ n ih=>
  intro i s xs hn hi hit hl hp hX hS hR
  have hlt:i<ps.length:=by omega
  obtain⟨⟨k,x⟩,hkx⟩:∃p,ps[i]?=some p:=⟨_,by simp[hlt];rfl⟩
  have hitem:items[i]?=some (.ref x):=by
   have:items[i]?=items.toList[i]?:=by simp
   rw[this,hps,e9,hkx];rfl
  refine mU PyProof.Rows.F.entry_set_update_loop ?_
  rw[mR l9 _]
  show wpAny _ A.in1 (oz (.ref I)>>=_) _ _ s
  refine b6 (nX hit hl hitem fun h1 hit1 sb1=>?_)
  have hk1:∀b u,b≠I→s.heap.get? b=some u→h1.get? b=some u:=fun b u hb e=> (sb1.2 b hb).trans e
  have kx:=hp k x (i9 hkx)
  have hX1:SetX prog w h1 a xs:=hX.keep' (fun u e=>hk1 a u hI e) fun k x hx u e=>hk1 x u (hp k x (oD (hS.1 _ hx))).2 e
  have ik1:∀k x,(k,x)∈ps→IK prog w h1 k x∧x≠I:=fun k x hx=> ⟨Cu (hp k x hx).1 fun u e=>hk1 x u (hp k x hx).2 e,(hp k x hx).2⟩
  have hl1:h1.IsList l items:=hl.at fun o e=>hk1 l o hne e
  show wpAny _ A.in1 (holding [Value.ref x] (setAdd a (.ref x))>>=_) _ _ _
  refine b6 (kh ?_)
  unfold setAdd
  refine kh ?_
  refine b6 ((tk prog w).pyHash (s:={s with heap:=h1}) hu (ik1 k x (i9 hkx)).1 ?_)
  have htake:ps.take (i+1)=ps.take i++[(k,x)]:=by rw[kO,hkx];rfl
  have hlen:xs.length≤i:=by have:=hS.2.2;rw[j8] at this;omega
  refine ZF (s:={s with heap:=h1,toks:=s.toks+(tk prog w).draws k}) hX1 hu (ik1 k x (i9 hkx)).1 (by omega) (fun y hy=>?_) (fun hno h2 xs' sb sx mm ll=>?_)
  ·refine e6 ⟨om l9 _,ih (i+1) _ xs (by omega) (by omega) hit1 hl1 ik1 hX1 ⟨fun p hp'=>by rw[htake];exact mq _ (hS.1 p hp'),fun k' y' hm=>?_,by rw[htake,jf];have:=hS.2.2;omega⟩ fun h' tk' xs' kp sx so=>hR h' tk' xs' (fun b u h1' h2' e=>kp b u h1' h2' (hk1 b u h2' e)) sx so⟩
   rw[htake] at hm
   rcases ju.mp hm with hm|hm
   ·exact hS.2.1 k' y' hm
   ·cases jd.mp hm
    exact⟨y,hy⟩
  ·have keep2:∀b u,b≠a→h1.get? b=some u→h2.get? b=some u:=fun b u hb e=> (sb.2 b hb).trans e
   have nea:∀k x,(k,x)∈ps→x≠a:=fun k x hx=>by
    obtain⟨o,es,ep,t,S⟩:=hX1
    exact Rq (ik1 k x hx).1 S.get S.ex
   refine e6 ⟨om l9 _,ih (i+1) {s with heap:=h2,toks:=s.toks+(tk prog w).draws k} xs' (by omega) (by omega) (hit1.at fun o e=>keep2 I o (Ne.symm hI) e) (hl1.at fun o e=>keep2 l o (Ne.symm hla) e)
    (fun k x hx=> ⟨Cu (ik1 k x hx).1 fun u e=>keep2 x u (nea k x hx) e,(hp k x hx).2⟩) sx ⟨fun p hp'=>?_,fun k' y' hm=>?_,by rw[htake,jf,ll];have:=hS.2.2;simp;omega⟩ fun h' tk' xs2 kp sx so=>hR h' tk' xs2 (fun b u h1' h2' e=>kp b u h1' h2' (keep2 b u h1' (hk1 b u h2' e))) sx so⟩
   ·rw[htake]
    rcases(mm p).mp hp' with h|h
    ·exact mq _ (hS.1 p h)
    ·exact kM _ (jd.mpr h)
   ·rw[htake] at hm
    rcases ju.mp hm with hm|hm
    ·obtain⟨y2,hy2⟩:=hS.2.1 k' y' hm
     exact⟨y2,(mm _).mpr (.inl hy2)⟩
    ·cases jd.mp hm
     exact⟨x,(mm _).mpr (.inr rfl)⟩
end
end StT
namespace StT
open PySem PySem.SetTable PyProof.Rows
theorem Ar:Slot "set_iterator" "__next__" "set_iterator.__next__" :=
 .of (owner:="set_iterator") (n:="__next__") (by rw[typeLookup_type,builtinLookup_eq_fast];kernel_rfl) (by decide+kernel) (by decide+kernel) (by decide+kernel)
  (by first|exact .inl (by decide+kernel)|exact .inr (by decide+kernel)) (by rw[rV];kernel_rfl)
theorem DI:Slot "set_iterator" "__iter__" "set_iterator.__iter__" :=
 .of (owner:="set_iterator") (n:="__iter__") (by rw[typeLookup_type,builtinLookup_eq_fast];kernel_rfl) (by decide+kernel) (by decide+kernel) (by decide+kernel)
  (by first|exact .inl (by decide+kernel)|exact .inr (by decide+kernel)) (by rw[rV];kernel_rfl)
theorem Ce:entryFor table "set_iterator.__next__" =some Builtin.«set_iterator.__next__»:=entryFor_of_tree (by kernel_rfl)
theorem FS:entryFor table "set_iterator.__iter__" =some Builtin.«dict_keyiterator.__iter__»:=
 entryFor_alias (id':="dict_keyiterator.__iter__") (by kernel_rfl) (by first|rfl|decide+kernel| (unfold String.splitOn;simp+decide [String.splitOnAux])) (by decide+kernel) (by kernel_rfl)
theorem HP:entryFor table "set.__iter__" =some Builtin.«frozenset.__iter__»:=
 entryFor_alias (id':="frozenset.__iter__") (by kernel_rfl) (by first|rfl|decide+kernel| (unfold String.splitOn;simp+decide [String.splitOnAux])) (by decide+kernel) (by kernel_rfl)
theorem Fq:Manifest.owners.lookup (String.ofList ['r','o','t','a','r','e','t','i','_','t','e','s'].reverse)=some Manifest.sig_set_iterator:=by kernel_rfl
theorem DJ(a:Value):argsOk "set_iterator.__next__" ⟨[a],[]⟩:=by
 unfold argsOk;rw[signature?_of (id:="set_iterator.__next__") (n:=['_','_','t','x','e','n','_','_']) (o:=['r','o','t','a','r','e','t','i','_','t','e','s']) (by kernel_rfl) Fq];kernel_rfl
theorem GC(a:Value):argsOk "set_iterator.__iter__" ⟨[a],[]⟩:=by
 unfold argsOk;rw[signature?_of (id:="set_iterator.__iter__") (n:=['_','_','r','e','t','i','_','_']) (o:=['r','o','t','a','r','e','t','i','_','t','e','s']) (by kernel_rfl) Fq];kernel_rfl
theorem Ob{α:Type}:∀(l:List α) (i:Nat) (h:i<l.length),(l[i]::l.eraseIdx i).Perm l
 |x::l,0,_=>nC.refl _
 |x::l,i+1,h=>by
  have ih:=Ob l i (by simpa using h)
  simp only[List.getElem_cons_succ,List.eraseIdx_cons_succ]
  exact(nC.swap _ _ _).trans (ih.cons x)
theorem Oc{α:Type}(next:Nat→Nat):∀(n k:Nat) (left:List α) (out:Array α),left.length=n→(sN next n k left out).toList.Perm (out.toList++left)
 |0,k,left,out,h=>by
  have:left=[]:=pD.mp h
  subst this
  simp[sN]
 |n+1,k,left,out,h=>by
  have hlt:next k%left.length<left.length:=sM _ (by omega)
  have e:left[next k%left.length]?=some left[next k%left.length]:=by simp[hlt]
  rw[sN,e]
  have ih:=Oc next n (k+1) (left.eraseIdx (next k%left.length)) (out.push left[next k%left.length]) (by rw[List.length_eraseIdx_of_lt hlt];omega)
  refine ih.trans ?_
  rw[nI,k4]
  exact nC.append_left _ (Ob left _ hlt)
theorem QM{α:Type}(next:Nat→Nat)(xs:Array α):(qy next xs).toList.Perm xs.toList:=by
 have:=Oc next xs.size 0 xs.toList #[] (by simp)
 simp only[List.nil_append] at this
 exact this
noncomputable def EG(w:World)(a:Addr)(ep:Nat)(es:Array (Int×Value)):Array (Int×Value):=if w.params.followText "set-order" =true then qy (w.params.setOrder a ep) es else es
theorem Io(w:World)(a:Addr)(ep:Nat)(es:Array (Int×Value)):(EG w a ep es).toList.Perm es.toList:=by
 unfold EG
 split
 ·exact QM _ _
 ·exact nC.refl _
theorem FT(w:World)(a:Addr)(ep:Nat)(es:Array (Int×Value)):(EG w a ep es).size=es.size:=by
 rw[←jg,←jg];exact(Io w a ep es).length_eq
theorem NG{xs:Array Nat}(r:Rm xs){i:Nat}(hi:i≤xs.size){slot:Nat}(hs:(i=0∧slot=0)∨(0<i∧∃j,xs[i-1]?=some j∧slot=j+1)):below xs slot=i:=by
 obtain⟨b1,b2,b3⟩:=Cr (j:=slot) r
 rcases hs with⟨rfl,rfl⟩| ⟨h0,j,hj,rfl⟩
 ·apply l8
  intro hne
  have h0:0<xs.size:=by omega
  have:=b2 0 xs[0] (by omega) (by simp[h0])
  omega
 ·have hlt:i-1<xs.size:=(kQ.mp hj).1
  rcases nG (below xs (j+1)) i with hl|he|hg
  ·have hx:xs[below xs (j+1)]?=some xs[below xs (j+1)]:=by simp[show below xs (j+1)<xs.size by omega]
   have h1:=b3 _ _ (jb _) hx
   by_cases hq:below xs (j+1)=i-1
   ·have hx2:xs[below xs (j+1)]?=some j:=by rw[hq];exact hj
    have:=ki.inj (hx.symm.trans hx2)
    omega
   ·have:=HH r hx hj (by omega)
    omega
  ·exact he
  ·have hx:xs[i]?=some xs[i]:=by simp[show i<xs.size by omega]
   have h1:=b2 i _ hg hx
   have:=HH r hj hx (by omega)
   omega
section
variable{prog:Program}{w:World}{A:js}{E:Value→c9→Prop}{s:c9}
variable{a:Addr}{xs:List (List Int×Addr)}{o:Obj}{es:Array (Int×Value)}{ep:Nat}{t:lu}
noncomputable def Cf(w:World)(h:Heap)(I a:Addr)(t:lu)(ep n i:Nat):Prop:=∃slot:Nat,h.get? I=some {cls:=.type "set_iterator",dict:=none,data:=.fields #[pG slot,pG i,.ref a,pG n,pG ep],slots:=#[]}∧
 (w.params.followText "set-order" =false→(i=0∧slot=0)∨(0<i∧∃j,t.place[i-1]?=some j∧slot=j+1))
theorem HQ(hg:s.heap.get? a=some o)(hd:o.data=.set es ep t)(hf:t.fits es.size=true)(hr:Rm t.place)(hpl:t.plain=true)(hled:t.led=!w.params.followText "set-order"){i slot:Nat}(hi:i≤es.size)
  (hs:w.params.followText "set-order" =false→(i=0∧slot=0)∨(0<i∧∃j,t.place[i-1]?=some j∧slot=j+1)) {Q:Option (Value×Nat)→c9→Prop}
  (hsome:∀e slot',(EG w a ep es)[i]?=some e→(w.params.followText "set-order" =false→∃j,t.place[i]?=some j∧slot'=j+1)→Q (some (e.2,slot')) s) (hnone:i=es.size→Q none s):wpAny (model prog w) A (setNext a slot i ep) Q E s:=by
 have hps:t.place.size=es.size:=by
  simp only[lu.fits,km,beq_iff_eq] at hf
  exact hf.1
 have ask:∀{R:Bool→c9→Prop},R (w.params.followText "set-order") s→wpAny (model prog w) A setsByText R E s:=fun h=>b6 (pV (e6 h))
 unfold setNext
 refine b6 (lT hg hd hf ?_)
 dsimp only
 refine b6 (ask ?_)
 cases hb:w.params.followText "set-order" with
 |true=>
  simp only[if_true]
  rw[if_neg (by simp)]
  refine b6 ?_
  unfold setWalk
  refine b6 (lT hg hd hf ?_)
  dsimp only
  refine b6 (ask ?_)
  rw[hb]
  simp only[if_true]
  refine b6 (pV (e6 ?_))
  refine e6 ?_
  have ho:EG w a ep es=qy (w.params.setOrder a ep) es:=by unfold EG;rw[if_pos hb]
  show Q (((qy (w.params.setOrder a ep) es)[i]?).map fun e=> (e.2,slot)) s
  rw[←ho]
  cases he:(EG w a ep es)[i]? with
  |some e=>exact hsome e slot he fun z=>by rw[hb] at z;cases z
  |none=>
   refine hnone ?_
   have:=Array.getElem?_eq_none_iff.mp he
   rw[FT] at this
   omega
 |false=>
  rw[hb] at hled
  simp only[jt,if_false]
  have hdr:(!t.plain&&decide (es.size>1))=false:=by rw[hpl];rfl
  show wpAny _ _ (if(!t.plain&&decide (es.size>1))=true then _ else _) _ _ s
  rw[hdr]
  simp only[jt,if_false]
  refine b6 ?_
  show wpAny _ _ (if(!t.led&&!es.isEmpty)=true then _ else pure ()) _ _ s
  rw[hled]
  simp only[qH,oU,Bool.false_and,jt,if_false]
  refine e6 ?_
  rw[NG hr (by omega) (hs hb)]
  have ho:EG w a ep es=es:=by unfold EG;rw[if_neg (by rw[hb];decide)]
  by_cases hlt:i<es.size
  ·have e1:es[i]?=some es[i]:=by simp[hlt]
   have e2:t.place[i]?=some (t.place[i]'(by omega)):=by simp[show i<t.place.size by omega]
   rw[e1,e2]
   exact e6 (hsome es[i] _ (by rw[ho];exact e1) fun _=> ⟨_,e2,rfl⟩)
  ·have e1:es[i]?=none:=by simp;omega
   rw[e1]
   exact e6 (hnone (by omega))
end
section
variable{prog:Program}{w:World}{A:js}{E:Value→c9→Prop}{s:c9}
variable{a I:Addr}{xs:List (List Int×Addr)}{o:Obj}{es:Array (Int×Value)}{ep:Nat}{t:lu}
structure Wk(w:World)(o:Obj)(es:Array (Int×Value))(ep:Nat)(t:lu):Prop where
 cls:o.cls=.type "set"
 dat:o.data=.set es ep t
 fits:t.fits es.size=true
 ris:Rm t.place
 pl:t.plain=true
 led:t.led=!w.params.followText "set-order"
theorem SetD.wk(S:SetD prog w s.heap a xs o es ep t):Wk w o es ep t:=⟨S.ex.1,S.dat,S.fits,S.tb.ris,S.pl,S.led⟩
theorem CW(K:Wk w o es ep t)(hg:s.heap.get? a=some o){Q:Array (Int×Value)→c9→Prop}(h:Q es s):wpAny (model prog w) A (sI a) Q E s:=by
 unfold sI
 exact b6 (lT hg K.dat K.fits (e6 h))
theorem Dl(K:Wk w o es ep t)(hg:s.heap.get? a=some o)(hne:a≠I){i:Nat}(hi:i<es.size)(it:Cf w s.heap I a t ep es.size i){Q:Option Value→c9→Prop}
  (hQ:∀e h',(EG w a ep es)[i]?=some e→Cf w h' I a t ep es.size (i+1)→mG I s.heap h'→Q (some e.2) {s with heap:=h'}):wpAny (model prog w) A (oz (.ref I)) Q E s:=by
 obtain⟨slot,ho,hsl⟩:=it
 have hT:s.TypeIs (.ref I) "set_iterator":=⟨_,ho,rfl⟩
 unfold oz
 refine b6 (oj (lE (name:=nZ "__next__") hT Ar (lD Ar hT Ce ?_ (DJ _))))
 refine b6 (e6 ?_)
 refine b6 (wpAny_fieldsOf ho rfl ?_)
 show wpAny _ _ (sI a>>=_) _ _ s
 refine b6 (CW K hg ?_)
 rw[if_neg (by simp)]
 show wpAny _ _ (setNext a ((slot:Int).toNat) ((i:Int).toNat) ((ep:Int).toNat)>>=_) _ _ s
 simp only[kH]
 refine b6 (HQ hg K.dat K.fits K.ris K.pl K.led (pK hi) hsl (fun e slot' he hs'=>?_) fun z=>by omega)
 dsimp only
 refine b6 (lV ho (by simp) fun h1 ho1 hs1=>?_)
 refine b6 (lV (s:={s with heap:=h1}) ho1 (by simp) fun h2 ho2 hs2=>?_)
 refine e6 ⟨_,rfl,e6 (hQ e h2 he ⟨slot',?_,fun hb=> .inr ⟨sV _,?_⟩⟩ (hs1.trans hs2))⟩
 ·simpa using ho2
 ·simpa using hs' hb
theorem Ei(K:Wk w o es ep t)(hh:A.handled=none)(hg:s.heap.get? a=some o)(hne:a≠I)(it:Cf w s.heap I a t ep es.size es.size){Q:Option Value→c9→Prop}
  (hQ:∀h',qi I s.heap h'→Q none {s with heap:=h'}):wpAny (model prog w) A (oz (.ref I)) Q E s:=by
 obtain⟨slot,ho,hsl⟩:=it
 have hT:s.TypeIs (.ref I) "set_iterator":=⟨_,ho,rfl⟩
 unfold oz
 refine b6 (oj (lE (name:=nZ "__next__") hT Ar (lD Ar hT Ce ?_ (DJ _))))
 refine b6 (e6 ?_)
 refine b6 (wpAny_fieldsOf ho rfl ?_)
 show wpAny _ _ (sI a>>=_) _ _ s
 refine b6 (CW K hg ?_)
 rw[if_neg (by simp)]
 show wpAny _ _ (setNext a ((slot:Int).toNat) ((es.size:Int).toNat) ((ep:Int).toNat)>>=_) _ _ s
 simp only[kH]
 refine b6 (HQ hg K.dat K.fits K.ris K.pl K.led (jb _) hsl (fun e slot' he hs'=>?_) fun z=>?_)
 ·have:=(kQ.mp he).1
  rw[FT] at this
  omega
 dsimp only
 refine b6 (lV ho (by simp) fun h1 ho1 hs1=>?_)
 show wpAny _ _ (newExc (.type "StopIteration") []>>=_) _ _ _
 refine b6 ?_
 simp only[newExc,newTuple]
 refine b6 (lh ?_ (by size_fits))
 refine b6 (m:=qD _ _) (qd (a:=mV) (by first|rfl| (simp only[qD];rfl)) ?_)
 refine lh ?_ (by size_fits)
 simp only[raiseNew]
 refine b6 (wpAny_handled ?_)
 rw[show A.in1.handled=none from hh]
 refine b6 (e6 (wpAny_throw ?_))
 refine b6 (qX (T:="StopIteration") (b:=true) ⟨_,jq _ rfl,rfl⟩ isSubtype_stop ?_)
 exact e6 (hQ _ ((hs1.extBut.push _).push _))
theorem QN{n i:Nat}(it:Cf w s.heap I a t ep n i){Q:Value→c9→Prop}(h:Q (.ref I) s):wpAny (model prog w) A (sJ (.ref I)) Q E s:=by
 obtain⟨slot,ho,_⟩:=it
 have hT:s.TypeIs (.ref I) "set_iterator":=⟨_,ho,rfl⟩
 refine wpAny_pyIter_slot hT DI (lD DI hT FS ?_ (GC _))
 show wpAny _ _ (ret (.ref I)) _ _ s
 exact e6 ⟨_,rfl,"set_iterator",_,hT,Ar.lookup,h⟩
theorem Rt(K:Wk w o es ep t)(hg:s.heap.get? a=some o){Q:Value→c9→Prop}
  (h:Q (.ref s.heap.objs.size) {s with heap:=s.heap.push {cls:=.type "set_iterator",data:=.fields #[pG 0,pG 0,.ref a,pG es.size,pG ep]}}):wpAny (model prog w) A (sJ (.ref a)) Q E s:=by
 have hT:s.TypeIs (.ref a) "set":=⟨_,hg,K.cls⟩
 have ask:∀{A:js} {E:Value→c9→Prop} {R:Bool→c9→Prop},R (w.params.followText "set-order") s→wpAny (model prog w) A setsByText R E s:=fun h=>b6 (pV (e6 h))
 refine wpAny_pyIter_slot hT PySem.F.slot_set_iter (lD PySem.F.slot_set_iter hT HP ?_ (PySem.F.args_set_iter_1 _))
 unfold Builtin.«frozenset.__iter__»
 refine b6 (b6 (e6 (e6 ?_)))
 refine b6 (b6 (CW K hg (e6 ?_)))
 refine b6 ?_
 unfold setDrawn
 refine b6 (lT hg K.dat K.fits ?_)
 dsimp only
 refine b6 (ask (e6 ?_))
 have hdr:(!w.params.followText "set-order" &&(!t.plain&&decide (es.size>1)))=false:=by rw[K.pl];simp
 show wpAny _ _ (if(!w.params.followText "set-order" &&(!t.plain&&decide (es.size>1)))=true then _ else _) _ _ s
 rw[hdr]
 simp only[jt,if_false]
 refine b6 (e6 ?_)
 refine b6 (wpAny_setEpoch_of hg K.dat K.fits ?_)
 refine b6 ?_
 unfold newFields
 refine lh ?_
 refine e6 ⟨_,rfl,"set_iterator",_,⟨_,jq _ rfl,rfl⟩,Ar.lookup,h⟩
theorem QO(K:Wk w o es ep t)(hh:A.handled=none)(hne:a≠I):Walks prog w A I [I,a] [I] es.size (fun i v=>∃h,(EG w a ep es)[i]?=some (h,v)) (fun i h=>Cf w h I a t ep es.size i∧h.get? a=some o) where
 sub:=fun b hb=>by simp at hb;simp[hb]
 frame:=fun i h h' st hk=>by
  obtain⟨⟨slot,h1,h2⟩,h3⟩:=st
  exact⟨⟨slot,hk I (by simp) _ h1,h2⟩,hk a (by simp) _ h3⟩
 item:=fun i s Q E hi st hQ=>Dl K st.2 hne hi st.1 fun e h' he it' sb=>hQ e.2 h' s.toks ⟨e.1,he⟩ ⟨it',(sb.2 a hne).trans st.2⟩ fun b o hb e=> (sb.2 b (fun z=>hb (by simp[z]))).trans e
 done:=fun s Q E st hQ=>Ei K hh st.2 hne st.1 fun h' he=>hQ h' s.toks fun b o hb e=>he b o (fun z=>hb (by simp[z])) e
 self:=fun i s Q E st hQ=>QN st.1 hQ
theorem Ru{r:Addr}{Q:Bool→c9→Prop}(hT:s.TypeIs (.ref r) "set")(h:Q false s):wpAny (model prog w) A (Builtin.List.listLengthHint (.ref r)) Q E s:=by
 unfold Builtin.List.listLengthHint
 refine b6 (rK hT PySem.F.slot_set_len.lookup ?_)
 generalize hid:("set.__len__" :String)=id0
 wp_delta
 rw[show splitId id0=some ("set","__len__") from by subst hid;decide+kernel]
 subst hid
 refine b6 (qX (T:="set") (b:=true) hT (by rw[rV];kernel_rfl) ?_)
 refine wpAny_ite_split (fun hab=>absurd hab (by decide)) (fun _=>?_)
 refine wpAny_ite_split (fun _=>?_) (fun hab=>absurd (by decide+kernel) hab)
 refine b6 (qt hT ?_)
 exact e6 h
theorem VX(K:Wk w o es ep t):PySem.W.KdlSrc prog w "set" a a es.size (fun i v=>∃h,(EG w a ep es)[i]?=some (h,v)) (fun h=>h.get? a=some o) where
 type:=fun _ hm=> ⟨_,hm,K.cls⟩
 there:=fun _ hm=> ⟨je hm,je hm⟩
 keep:=fun _ _ hm hk=>hk a (.inl rfl) _ hm
 notList:=by decide
 notTuple:=by decide
 hint:=fun _ _ _ _ hm hq=>Ru ⟨_,hm,K.cls⟩ hq
 iter:=fun A s hh hm=> ⟨_,_,(fun _ _ hq=>Rt K hm hq),QO K hh (jY (je hm)),⟨⟨0,jq _ rfl,fun _=> .inl ⟨rfl,rfl⟩⟩,e8 _ hm⟩⟩
end
end StT
namespace SrtG
open PySem PyProof.Rows
noncomputable def Od:Bool→Keyed→Array Keyed→Nat→Nat→Nat→StateT SortSt Sem (Option Nat):=sortPriv%PySem.Builtin.gallop
noncomputable def BK(left:Bool)(key:Keyed)(arr:Array Keyed)(base i:Nat):StateT kc Sem (Option Bool):=do
 let x←elem' arr (base+i)
 if left then lt' x key else return(←lt' key x).map (!·)
section
variable{prog:Program}{w:World}{A:js}{E:Value→c9→Prop}{s:c9}
noncomputable def Qx(prog:Program)(w:World)(A:js)(E:Value→c9→Prop)(s:c9)(kd:oB)(U:Keyed→Prop)(rk:Keyed→Int):Prop:=
 ∀(st:kc) (x y:Keyed) (Q:Option Bool→kc→Prop),kindOf st=kd→U x→U y→Q (some (decide (rk x<rk y))) st→wpS (model prog w) A E s (lt' x y) Q st
variable{kd:oB}{U:Keyed→Prop}{rk:Keyed→Int}
noncomputable def RK(rk:Keyed→Int)(xs:Array Keyed)(i:Nat):Int:=match xs[i]? with
 |some p=>rk p
 |none=>0
noncomputable def AllU(U:Keyed→Prop)(xs:Array Keyed):Prop:=∀(i:Nat) (p:Keyed),xs[i]?=some p→U p
noncomputable def bt(left:Bool)(rk:Keyed→Int)(key:Keyed)(arr:Array Keyed)(base i:Nat):Bool:=if left then decide (RK rk arr (base+i)<rk key) else !decide (rk key<RK rk arr (base+i))
theorem VY{left:Bool}{key:Keyed}{arr:Array Keyed}{base i:Nat}{st:kc}{Q:Option Bool→kc→Prop}(C:Qx prog w A E s kd U rk)(hk:kindOf st=kd)(hK:U key)(hU:AllU U arr)(hi:base+i<arr.size)
  (h:Q (some (bt left rk key arr base i)) st):wpS (model prog w) A E s (BK left key arr base i) Q st:=by
 unfold BK
 have e:arr[base+i]?=some arr[base+i]:=getElem?_pos arr (base+i) hi
 rw[elem'_eq,e]
 refine ja (jj ?_)
 have eR:RK rk arr (base+i)=rk arr[base+i]:=by unfold RK;rw[e]
 unfold bt at h
 rw[eR] at h
 cases left with
 |true=>
  rw[if_pos rfl] at h ⊢
  exact C st _ _ _ hk (hU _ _ e) hK h
 |false=>
  rw[if_neg i5] at h ⊢
  exact ja (C st _ _ _ hk hK (hU _ _ e) (jj h))
noncomputable def XZ(P:Nat→Bool)(n r:Nat):Prop:=r≤n∧(∀i,i<r→P i=true)∧∀i,r≤i→i<n→P i=false
theorem Rv{α:Type}{P:Nat→Bool}{b:Nat→StateT kc Sem (Option Bool)}{n l h:Nat}{st:kc}(hb:∀i (Q:Option Bool→kc→Prop),i<n→Q (some (P i)) st→wpS (model prog w) A E s (b i) Q st)
  (mono:∀i j,i≤j→j<n→P j=true→P i=true) (hl:l≤h) (hn:h≤n) (h1:∀i,i<l→P i=true) (h2:∀i,h≤i→i<n→P i=false):
  wpS (model prog w) A E s (forIn [:n] ((none:Option (Option Nat)),l,h) fun x __s=>
   if __s.snd.fst≥__s.snd.snd then pure (ForInStep.done (none,__s.snd.fst,__s.snd.snd))
   else do
    let __x←b (__s.snd.fst+(__s.snd.snd-__s.snd.fst)/2)
    match __x with
     |some mr=>
      if mr=true then pure (mH (none,__s.snd.fst+(__s.snd.snd-__s.snd.fst)/2+1,__s.snd.snd))
      else pure (mH (none,__s.snd.fst,__s.snd.fst+(__s.snd.snd-__s.snd.fst)/2))
     |x=>pure (ForInStep.done (some none,__s.snd.fst,__s.snd.snd))) (fun c st'=>st'=st∧c.1=none∧XZ P n c.2.2) st:=by
 refine kP (I:=fun x c st'=>st'=st∧∃l h,c=(none,l,h)∧l≤h∧h≤n∧(∀i,i<l→P i=true)∧(∀i,h≤i→i<n→P i=false)∧h-l≤n-x) ?_ ?_ ⟨rfl,l,h,rfl,hl,hn,h1,h2,by omega⟩
 ·rintro x c st' _ hx ⟨rfl,l,h,rfl,hl,hn,h1,h2,hm⟩
  dsimp only
  by_cases hlh:l≥h
  ·rw[if_pos hlh]
   have e:l=h:=by omega
   subst e
   exact jj ⟨rfl,rfl,hn,h1,h2⟩
  ·rw[if_neg hlh]
   refine ja (hb _ _ (by omega) ?_)
   dsimp only
   cases hP:P (l+(h-l)/2) with
   |true=>
    rw[if_pos rfl]
    exact jj ⟨rfl,_,_,rfl,by omega,hn,fun i hi=>mono i _ (by omega) (by omega) hP,h2,by omega⟩
   |false=>
    rw[if_neg i5]
    refine jj ⟨rfl,_,_,rfl,by omega,by omega,h1,fun i hi hin=>?_,by omega⟩
    cases q:P i with
    |false=>rfl
    |true=>rw[mono _ i hi hin q] at hP;cases hP
 ·rintro c st' ⟨rfl,l,h,rfl,hl,hn,h1,h2,hm⟩
  have e:l=h:=by
   have:max 0 n=n:=by omega
   rw[this] at hm
   omega
  subst e
  exact⟨rfl,rfl,hn,h1,h2⟩
theorem Bl {left : Bool} {key : Keyed} {arr : Array Keyed} {base n hint : Nat} {st : kc} {Q : Option Nat → kc → Prop} (C : Qx prog w A E s kd U rk) (hk : kindOf st = kd) (hK : U key) (hU : AllU U arr) (hb : base + n ≤ arr.size) (hh : hint < n)
    (mono : ∀ i j, i ≤ j → j < n → bt left rk key arr base j = true → bt left rk key arr base i = true)
    (h : ∀ r, XZ (bt left rk key arr base) n r → Q (some r) st) : wpS (model prog w) A E s (Od left key arr base n hint) Q st := by
  delta Od
  have hbey : ∀ i (Q : Option Bool → kc → Prop), i < n → Q (some (bt left rk key arr base i)) st → wpS (model prog w) A E s (BK left key arr base i) Q st := fun i Q hi q => VY C hk hK hU (by omega) q
  have fals : ∀ i j, i ≤ j → j < n → bt left rk key arr base i = false → bt left rk key arr base j = false := fun i j hij hj e => by
    cases q : bt left rk key arr base j with
    | false => rfl
    | true => rw [mono i j hij hj q] at e; cases e
  refine ja (hbey _ _ hh ?_)
  dsimp only
  cases hP : bt left rk key arr base hint with
  | true =>
    rw [if_pos rfl]
    refine ja (lZ (kP (I := fun x c st' => st' = st ∧ ∃ la o, c = (none, la, o) ∧ la < o ∧ x + 1 ≤ o ∧ hint + la < n ∧ bt left rk key arr base (hint + la) = true)
      (Q := fun c st' => st' = st ∧ ∃ la o, c = (none, la, o) ∧ la < o ∧ hint + la < n ∧ bt left rk key arr base (hint + la) = true ∧ (n - hint ≤ o ∨ bt left rk key arr base (hint + o) = false)) ?_ ?_ ⟨rfl, 0, 1, rfl, by omega, by omega, hh, hP⟩) ?_)
    · rintro x c st' _ hx ⟨rfl, la, o, rfl, h1, h2, h3, h4⟩
      dsimp only
      by_cases ho : o ≥ n - hint
      · rw [if_pos ho]
        exact jj ⟨rfl, la, o, rfl, h1, h3, h4, .inl ho⟩
      · rw [if_neg ho]
        refine ja (hbey _ _ (by omega) ?_)
        dsimp only
        cases hq : bt left rk key arr base (hint + o) with
        | false =>
          rw [if_pos (by decide)]
          exact jj ⟨rfl, la, o, rfl, h1, h3, h4, .inr hq⟩
        | true =>
          rw [if_neg (by decide)]
          exact jj ⟨rfl, o, _, rfl, by omega, by omega, by omega, hq⟩
    · rintro c st' ⟨rfl, la, o, rfl, h1, h2, h3, h4⟩
      exact ⟨rfl, la, o, rfl, h1, h3, h4, .inl (by have : max 0 n = n := by omega
                                                   omega)⟩
    · rintro c st' ⟨rfl, la, o, rfl, h1, h3, h4, h5⟩
      dsimp only
      refine ja (lZ (Rv (α := Unit) hbey mono (by omega) (by omega) (fun i hi => mono i (hint + la) (by omega) h3 h4) (fun i hi hin => ?_)) ?_)
      · rcases h5 with h5 | h5
        · omega
        · exact fals (hint + o) i (by omega) hin h5
      · rintro ⟨c1, c2, c3⟩ st'' ⟨rfl, e, pt⟩
        cases e
        exact jj (h _ pt)
  | false =>
    rw [if_neg i5]
    refine ja (lZ (kP (I := fun x c st' => st' = st ∧ ∃ la o, c = (none, la, o) ∧ la < o ∧ x + 1 ≤ o ∧ la ≤ hint ∧ bt left rk key arr base (hint - la) = false)
      (Q := fun c st' => st' = st ∧ ∃ la o, c = (none, la, o) ∧ la < o ∧ la ≤ hint ∧ bt left rk key arr base (hint - la) = false ∧ (hint + 1 ≤ o ∨ bt left rk key arr base (hint - o) = true)) ?_ ?_ ⟨rfl, 0, 1, rfl, by omega, by omega, by omega, hP⟩) ?_)
    · rintro x c st' _ hx ⟨rfl, la, o, rfl, h1, h2, h3, h4⟩
      dsimp only
      by_cases ho : o ≥ hint + 1
      · rw [if_pos ho]
        exact jj ⟨rfl, la, o, rfl, h1, h3, h4, .inl ho⟩
      · rw [if_neg ho]
        refine ja (hbey _ _ (by omega) ?_)
        dsimp only
        cases hq : bt left rk key arr base (hint - o) with
        | true =>
          rw [if_pos rfl]
          exact jj ⟨rfl, la, o, rfl, h1, h3, h4, .inr hq⟩
        | false =>
          rw [if_neg i5]
          exact jj ⟨rfl, o, _, rfl, by omega, by omega, by omega, hq⟩
    · rintro c st' ⟨rfl, la, o, rfl, h1, h2, h3, h4⟩
      exact ⟨rfl, la, o, rfl, h1, h3, h4, .inl (by have : max 0 n = n := by omega
                                                   omega)⟩
    · rintro c st' ⟨rfl, la, o, rfl, h1, h3, h4, h5⟩
      dsimp only
      refine ja (lZ (Rv (α := Unit) hbey mono (by omega) (by omega) (fun i hi => ?_) (fun i hi hin => fals (hint - la) i hi hin h4)) ?_)
      · rcases h5 with h5 | h5
        · omega
        · exact mono i (hint - o) (by omega) (by omega) h5
      · rintro ⟨c1, c2, c3⟩ st'' ⟨rfl, e, pt⟩
        cases e
        exact jj (h _ pt)
end
local macro_rules | `(tactic| omega) => `(tactic| first | lia | omega)
open PySem PyProof.Rows
variable{rk:Keyed→Int}
noncomputable def FU(rk:Keyed→Int)(a:Array Keyed):Prop:=∀i j,i≤j→j<a.size→RK rk a i≤RK rk a j
structure Mrg(rk:Keyed→Int)(a b out:Array Keyed)(i j:Nat):Prop where
 hi:i≤a.size
 hj:j≤b.size
 perm:out.toList.Perm (a.toList.take i++b.toList.take j)
 srt:out.toList.Pairwise fun x y=>rk x≤rk y
 ha:∀x,x∈out.toList→∀y,i≤y→y<a.size→rk x≤RK rk a y
 hb:∀x,x∈out.toList→∀y,j≤y→y<b.size→rk x≤RK rk b y
structure Fin2(rk:Keyed→Int)(a b r:Array Keyed):Prop where
 perm:r.toList.Perm (a.toList++b.toList)
 srt:r.toList.Pairwise fun x y=>rk x≤rk y
theorem BI{a:Array Keyed}{i:Nat}(h:i<a.size):RK rk a i=rk a[i]:=by
 unfold RK
 rw[getElem?_pos a i h]
theorem Mrg.sym{a b out:Array Keyed}{i j:Nat}(m:Mrg rk a b out i j):Mrg rk b a out j i:=
 ⟨m.hj,m.hi,m.perm.trans mL,m.srt,m.hb,m.ha⟩
theorem Mrg.pushA{a b out:Array Keyed}{i j:Nat}(m:Mrg rk a b out i j)(sa:FU rk a)(h:i<a.size)(hb:∀y,j≤y→y<b.size→rk a[i]≤RK rk b y):Mrg rk a b (out.push a[i]) (i+1) j:=by
 have e:(out.push a[i]).toList=out.toList++[a[i]]:=nI ..
 have t:a.toList.take (i+1)=a.toList.take i++[a[i]]:=by
  rw[List.take_succ]
  have:a.toList[i]?=some a[i]:=by rw[kl];exact getElem?_pos a i h
  rw[this];rfl
 refine⟨h,m.hj,?_,?_,?_,?_⟩
 ·rw[e,t]
  have p1:=m.perm.append_right [a[i]]
  refine p1.trans ?_
  rw[k4,k4]
  exact nC.append_left _ mL
 ·rw[e,qh]
  refine⟨m.srt,mS _ _,fun x hx y hy=>?_⟩
  cases jd.mp hy
  have:=m.ha x hx i (jb _) h
  rwa[BI h] at this
 ·intro x hx y hy hys
  rw[e] at hx
  rcases ju.mp hx with hx|hx
  ·exact m.ha x hx y (by omega) hys
  ·cases jd.mp hx
   have:=sa i y (by omega) hys
   rwa[BI h] at this
 ·intro x hx y hy hys
  rw[e] at hx
  rcases ju.mp hx with hx|hx
  ·exact m.hb x hx y hy hys
  ·cases jd.mp hx
   exact hb y hy hys
theorem Mrg.pushB{a b out:Array Keyed}{i j:Nat}(m:Mrg rk a b out i j)(sb:FU rk b)(h:j<b.size)(ha:∀y,i≤y→y<a.size→rk b[j]≤RK rk a y):Mrg rk a b (out.push b[j]) i (j+1):=(m.sym.pushA sb h ha).sym
theorem Ji(a:Array Keyed)(i k:Nat)(h:i+k<a.size):a.extract i (i+(k+1))=(a.extract i (i+k)).push a[i+k]:=by
 apply ph
 rw[nI,kY,kY,kA,kA]
 have e1:i+(k+1)-i=k+1:=by omega
 have e2:i+k-i=k:=by omega
 rw[e1,e2,List.take_succ,lx,kl,getElem?_pos a (i+k) h]
 rfl
theorem Mrg.appA{a b:Array Keyed}{i j:Nat}:∀(k:Nat) {out:Array Keyed},Mrg rk a b out i j→FU rk a→i+k≤a.size→(∀x,x<k→∀y,j≤y→y<b.size→RK rk a (i+x)≤RK rk b y)→Mrg rk a b (out++a.extract i (i+k)) (i+k) j
 |0,out,m,_,_,_=>by
  have:out++a.extract i (i+0)=out:=by
   apply ph
   rw[mX,kY,kA]
   have:i+0-i=0:=by omega
   rw[this,pL,mj]
  rw[this];exact m
 |k+1,out,m,sa,h,hb=>by
  have m':=Mrg.appA k m sa (by omega) fun x hx=>hb x (by omega)
  have hk:i+k<a.size:=by omega
  rw[Ji a i k hk,Array.append_push]
  exact m'.pushA sa hk fun y h1 h2=>by
   have:=hb k (by omega) y h1 h2
   rwa[BI hk] at this
theorem Mrg.appB{a b:Array Keyed}{i j:Nat}(k:Nat){out:Array Keyed}(m:Mrg rk a b out i j)(sb:FU rk b)(h:j+k≤b.size)(ha:∀x,x<k→∀y,i≤y→y<a.size→RK rk b (j+x)≤RK rk a y):Mrg rk a b (out++b.extract j (j+k)) i (j+k):=(Mrg.appA k m.sym sb h ha).sym
theorem Mrg.fin{a b out:Array Keyed}(m:Mrg rk a b out a.size b.size):Fin2 rk a b out:=by
 have p:=m.perm
 rw[←jg,←jg,kI,kI] at p
 exact⟨p,m.srt⟩
theorem Mrg.restAB{a b out:Array Keyed}{i j:Nat}(m:Mrg rk a b out i j)(sa:FU rk a)(sb:FU rk b)(h:∀x y,i≤x→x<a.size→j≤y→y<b.size→RK rk a x≤RK rk b y):Fin2 rk a b (out++a.extract i a.size++b.extract j b.size):=by
 have hi:=m.hi
 have hj:=m.hj
 have m1:=m.appA (a.size-i) sa (by omega) fun x hx y h1 h2=>h _ _ (by omega) (by omega) h1 h2
 have e1:i+(a.size-i)=a.size:=by omega
 rw[e1] at m1
 have m2:=m1.appB (b.size-j) sb (by omega) fun x hx y h1 h2=>by omega
 have e2:j+(b.size-j)=b.size:=by omega
 rw[e2] at m2
 exact m2.fin
theorem Mrg.restBA{a b out:Array Keyed}{i j:Nat}(m:Mrg rk a b out i j)(sa:FU rk a)(sb:FU rk b)(h:∀x y,i≤x→x<a.size→j≤y→y<b.size→RK rk b y≤RK rk a x):Fin2 rk a b (out++b.extract j b.size++a.extract i a.size):=by
 have f:=m.sym.restAB sb sa fun x y h1 h2 h3 h4=>h y x h3 h4 h1 h2
 exact⟨f.perm.trans mL,f.srt⟩
end SrtG
namespace SrtG
local macro_rules | `(tactic| omega) => `(tactic| first | lia | omega)
open PySem PyProof.Rows
noncomputable def LU:Array Keyed→Array Keyed→StateT SortSt Sem (Array Keyed):=sortPriv%PySem.Builtin.mergeLo
noncomputable def Of:Nat→StateT SortSt Sem Unit:=sortPriv%PySem.Builtin.setMinGallop
theorem NH(g:Nat):Of g=modify fun s=>rF (kindOf s) (arrOf s) (pendingOf s) g (nT s):=rfl
noncomputable abbrev dn(a b out:Array Keyed)(ia ib:Nat):Array Keyed:=out++a.extract ia a.size++b.extract ib b.size
noncomputable abbrev la(a b out:Array Keyed)(ia ib:Nat):Array Keyed:=out++b.extract ib b.size++a.extract ia a.size
section
variable{prog:Program}{w:World}{A:js}{E:Value→c9→Prop}{s:c9}{kd:oB}{U:Keyed→Prop}{rk:Keyed→Int}
structure Like(st st':kc):Prop where
 kd:kindOf st'=kindOf st
 arr:arrOf st'=arrOf st
 pd:pendingOf st'=pendingOf st
 fl:nT st'=nT st
theorem Like.refl(st:kc):Like st st:=⟨rfl,rfl,rfl,rfl⟩
theorem Cv{g:Nat}{st0 st:kc}{Q:Unit→kc→Prop}(l:Like st0 st)(h:∀st',Like st0 st'→Q () st'):wpS (model prog w) A E s (Of g) Q st:=by
 rw[NH]
 exact nW (h _ ⟨l.kd,l.arr,l.pd,l.fl⟩)
theorem Aa{arr:Array Keyed}{i:Nat}{st:kc}{Q:Keyed→kc→Prop}(hi:i<arr.size)(h:Q arr[i] st):wpS (model prog w) A E s (elem' arr i) Q st:=by
 rw[elem'_eq,getElem?_pos arr i hi]
 exact jj h
structure Hd(rk:Keyed→Int)(a b out:Array Keyed)(i j n:Nat):Prop where
 m:Mrg rk a b out i j
 hi:i+1<a.size
 hj:j<b.size
 hn:n≤i+j
theorem BA{α:Type}{c:Prop}{hc:Decidable c}{t e:StateT kc Sem α}{Q:α→kc→Prop}{st:kc}(h1:c→wpS (model prog w) A E s t Q st)(h2:¬c→wpS (model prog w) A E s e Q st):wpS (model prog w) A E s (if c then t else e) Q st:=by
 by_cases h:c
 ·rw[if_pos h];exact h1 h
 ·rw[if_neg h];exact h2 h
theorem Aj{α:Type}{x y:Nat}{t e:StateT kc Sem α}{Q:α→kc→Prop}{st:kc}(h1:x=y→wpS (model prog w) A E s t Q st)(h2:¬x=y→wpS (model prog w) A E s e Q st):wpS (model prog w) A E s (if(x==y)=true then t else e) Q st:=BA (fun h=>h1 (beq_iff_eq.mp h)) (fun h=>h2 fun q=>h (beq_iff_eq.mpr q))
theorem Og{γ δ α:Type}{jp:γ→δ→StateT kc Sem α}{X:StateT kc Sem α}{Q:α→kc→Prop}{st:kc}(P:δ→Prop)(h1:(∀u x,P x→wpS (model prog w) A E s (jp u x) Q st)→wpS (model prog w) A E s X Q st)(h2:∀u x,P x→wpS (model prog w) A E s (jp u x) Q st):wpS (model prog w) A E s X Q st:=h1 h2
theorem GI{γ δ ε α:Type}{jp:γ→δ→ε→StateT kc Sem α}{X:StateT kc Sem α}{Q:α→kc→Prop}{st:kc}(P:δ→ε→Prop)(h1:(∀u x y,P x y→wpS (model prog w) A E s (jp u x y) Q st)→wpS (model prog w) A E s X Q st)(h2:∀u x y,P x y→wpS (model prog w) A E s (jp u x y) Q st):wpS (model prog w) A E s X Q st:=h1 h2
theorem LV{a b:Array Keyed}{st:kc}{Q:Array Keyed→kc→Prop}(C:Qx prog w A E s kd U rk)(hk:kindOf st=kd)(uA:AllU U a)(uB:AllU U b)(sa:FU rk a)(sb:FU rk b)(ha0:0<a.size)(hb0:0<b.size)
  (hfst:RK rk b 0≤RK rk a 0) (hlst:RK rk b (b.size-1)≤RK rk a (a.size-1))
  (h:∀r st',Like st st'→Fin2 rk a b r→Q r st'):wpS (model prog w) A E s (LU a b) Q st:=by
 have Udn:∀{out i j},Mrg rk a b out i j→i=a.size∨j=b.size→Fin2 rk a b (dn a b out i j):=fun m hh=>m.restAB sa sb fun x y _ _ _ _=>by omega
 have Ula:∀{out i j},Mrg rk a b out i j→i+1=a.size→Fin2 rk a b (la a b out i j):=fun{out i j} m hh=>m.restBA sa sb fun x y h1 h2 h3 h4=>by
  have e1:=sb y (b.size-1) (by omega) (by omega)
  have e:x=a.size-1:=by omega
  subst e
  omega
 have uAt:∀{i} (hi:i<a.size),U a[i]:=fun hi=>uA _ _ (getElem?_pos a _ hi)
 have uBt:∀{i} (hi:i<b.size),U b[i]:=fun hi=>uB _ _ (getElem?_pos b _ hi)
 delta LU
 refine ja (qB (mT ⟨rfl,?_⟩))
 refine ja (Aa hb0 ?_)
 have m0:Mrg rk a b #[] 0 0:=⟨by omega,by omega,nC.nil,mF,(fun x hx=>by cases hx),(fun x hx=>by cases hx)⟩
 have m1:Mrg rk a b #[b[0]] 0 1:=m0.pushB sb hb0 fun y _ hy=>by
  have e1:=sa 0 y (by omega) hy
  rw[←BI (rk:=rk) hb0]
  omega
 refine Aj (fun c1=>jj (h _ _ (Like.refl _) (Udn m1 (.inr c1)))) fun c1=>?_
 refine Aj (fun c2=>jj (h _ _ (Like.refl _) (Ula m1 c2))) fun c2=>?_
 refine ja (pE ?_)
 refine ja (lZ (kP (I:=fun x c st'=>Like st st'∧∃out i j mg,c=(none,out,i,j,mg)∧Hd rk a b out i j (x+1))
  (Q:=fun c st'=>Like st st'∧∃r,c.1=some r∧Fin2 rk a b r) ?_ ?_ ⟨Like.refl _,_,_,_,_,rfl,m1,by omega,by omega,by omega⟩) ?_)
 ·rintro x c st1 _ hx ⟨lk,out,i,j,mg,rfl,hd⟩
  refine ja (lZ (kP (I:=fun _ c st'=>Like st st'∧∃out i j ac bc,c=(none,out,i,j,ac,bc)∧Hd rk a b out i j (x+1))
   (Q:=fun c st'=>Like st st'∧((∃r,c.1=some r∧Fin2 rk a b r)∨∃out i j ac bc,c=(none,out,i,j,ac,bc)∧Hd rk a b out i j (x+1))) ?_ ?_ ⟨lk,_,_,_,_,_,rfl,hd⟩) ?_)
  ·rintro x1 c st2 _ hx1 ⟨lk,out,i,j,ac,bc,rfl,hd⟩
   have hia:i<a.size:=by have:=hd.hi;omega
   have hjb:=hd.hj
   have hin:=hd.hn
   refine ja (Aa hd.hj ?_)
   refine ja (Aa hia ?_)
   refine ja (C _ _ _ _ (lk.kd.trans hk) (uBt hd.hj) (uAt hia) ?_)
   refine BA (fun hlt=>?_) (fun hlt=>?_)
   ·have hlt:rk b[j]<rk a[i]:=of_decide_eq_true hlt
    have m:=hd.m.pushB sb hd.hj fun y h1 h2=>by
     have:=sa i y h1 h2
     rw[BI hia] at this
     omega
    refine ja (Aa hd.hj ?_)
    refine Aj (fun c3=>jj ⟨lk,.inl ⟨_,rfl,Udn m (.inr c3)⟩⟩) fun c3=>?_
    have c3:¬j+1=b.size:=c3
    have hd':Hd rk a b (out.push b[j]) i (j+1) (x+1):=⟨m,hd.hi,by have:=hd.hj;omega,by omega⟩
    exact BA (fun _=>jj ⟨lk,.inr ⟨_,_,_,_,_,rfl,hd'⟩⟩) fun _=>jj ⟨lk,_,_,_,_,_,rfl,hd'⟩
   ·have hlt:¬rk b[j]<rk a[i]:=fun q=>hlt (decide_eq_true q)
    have m:=hd.m.pushA sa hia fun y h1 h2=>by
     have:=sb j y h1 h2
     rw[BI hd.hj] at this
     omega
    refine ja (Aa hia ?_)
    refine Aj (fun c3=>jj ⟨lk,.inl ⟨_,rfl,Ula m c3⟩⟩) fun c3=>?_
    have c3:¬i+1+1=a.size:=c3
    have hd':Hd rk a b (out.push a[i]) (i+1) j (x+1):=⟨m,by have:=hd.hi;omega,hd.hj,by omega⟩
    exact BA (fun _=>jj ⟨lk,.inr ⟨_,_,_,_,_,rfl,hd'⟩⟩) fun _=>jj ⟨lk,_,_,_,_,_,rfl,hd'⟩
  ·rintro c st2 ⟨lk,hh⟩
   exact⟨lk,.inr hh⟩
  rintro c st2 ⟨lk,⟨r,e,f⟩| ⟨out,i,j,ac,bc,rfl,hd⟩⟩
  ·obtain⟨c1,c2⟩:=c
   cases e
   exact jj ⟨lk,_,rfl,f⟩
  refine ja (qB (mT ⟨rfl,?_⟩))
  refine ja (lZ (kP (I:=fun y c st'=>Like st st'∧∃out i j mg ac bc,c=(none,out,i,j,mg,ac,bc)∧Hd rk a b out i j (x+1+y))
   (Q:=fun c st'=>Like st st'∧((∃r,c.1=some r∧Fin2 rk a b r)∨∃out i j mg ac bc,c=(none,out,i,j,mg,ac,bc)∧Hd rk a b out i j (x+1+1))) ?_ ?_ ⟨lk,_,_,_,_,_,_,rfl,hd⟩) ?_)
  ·rintro x1 c st2 _ hx1 ⟨lk,out,i,j,mg,ac,bc,rfl,hd⟩
   have hia:i<a.size:=by have:=hd.hi;omega
   have hjb:=hd.hj
   have hin:=hd.hn
   extract_lets s1 o1 s2 i1 s3 j1 s4 g1 s5 ac1 bc1 j2 jp
   refine Og (jp:=jp) (fun _=>True) (fun k1=>BA (fun _=>k1 () _ trivial) fun _=>k1 () _ trivial) ?_
   intro u g _
   refine ja (Cv lk fun st3 lk=>?_)
   refine ja (Aa hjb ?_)
   refine ja (Bl C (lk.kd.trans hk) (uBt hjb) uA (by show i+(a.size-i)≤a.size;omega) (by show 0<a.size-i;omega) ?_ ?_)
   ·intro p q hpq hq e
    have hq:q<a.size-i:=hq
    have e:bt false rk b[j] a i q=true:=e
    show bt false rk b[j] a i p=true
    unfold bt at e ⊢
    rw[if_neg i5] at e ⊢
    have e':=of_decide_eq_false (k6 _|>.mp e)
    have:=sa (i+p) (i+q) (by omega) (by omega)
    exact(k6 _).mpr (decide_eq_false (by omega))
   rintro k ⟨kn,kt,kf⟩
   have kn:k≤a.size-i:=kn
   have kf':∀y,i+k≤y→y<a.size→rk b[j]≤RK rk a y:=fun y h1 h2=>by
    have e:bt false rk b[j] a i (y-i)=false:=kf (y-i) (by omega) (by show y-i<a.size-i;omega)
    unfold bt at e
    rw[if_neg i5] at e
    have e':=of_decide_eq_true (oh _|>.mp e)
    have ey:i+(y-i)=y:=by omega
    rw[ey] at e'
    omega
   have m:=hd.m.appA k sa (by omega) fun x hx y h1 h2=>by
    have:=sb j y h1 h2
    have e:bt false rk b[j] a i x=true:=kt x hx
    unfold bt at e
    rw[if_neg i5] at e
    have e':=of_decide_eq_false (k6 _|>.mp e)
    rw[BI hjb] at this
    omega
   dsimp-zeta only
   extract_lets ac2 jp2
   refine GI (jp:=jp2) (fun out i=>Mrg rk a b out i j∧i+1<a.size∧(∀y,i≤y→y<a.size→rk b[j]≤RK rk a y)∧x+1+x1≤i+j) (fun k2=>?_) ?_
   ·refine BA (fun k0=>?_) (fun k0=>k2 () _ _ ⟨hd.m,hd.hi,fun y (h1:i≤y) h2=>kf' y (by omega) h2,hin⟩)
    refine Aj (fun c3=>jj ⟨lk,.inl ⟨_,rfl,Ula m c3⟩⟩) fun c3=>?_
    refine Aj (fun c4=>jj ⟨lk,.inl ⟨_,rfl,Udn m (.inl c4)⟩⟩) fun c4=>?_
    have c3:¬i+k+1=a.size:=c3
    have c4:¬i+k=a.size:=c4
    exact k2 () _ _ ⟨m,by show i+k+1<a.size;omega,kf',by show x+1+x1≤i+k+j;omega⟩
   clear m kf' kt kf kn
   rintro u out i ⟨m,hi2,kf',hn'⟩
   have hi':i<a.size:=by omega
   refine ja (Aa hjb ?_)
   have m2:=m.pushB sb hjb kf'
   refine Aj (fun c5=>jj ⟨lk,.inl ⟨_,rfl,Udn m2 (.inr c5)⟩⟩) fun c5=>?_
   have c5:¬j+1=b.size:=c5
   refine ja (Aa hi' ?_)
   refine ja (Bl C (lk.kd.trans hk) (uAt hi') uB (by show j+1+(b.size- (j+1))≤b.size;omega) (by show 0<b.size- (j+1);omega) ?_ ?_)
   ·intro p q hpq hq e
    have hq:q<b.size- (j+1):=hq
    have e:bt true rk a[i] b (j+1) q=true:=e
    show bt true rk a[i] b (j+1) p=true
    unfold bt at e ⊢
    rw[if_pos rfl] at e ⊢
    have e':=of_decide_eq_true e
    have:=sb (j+1+p) (j+1+q) (by omega) (by omega)
    exact decide_eq_true (by omega)
   rintro k2 ⟨k2n,k2t,k2f⟩
   have k2n:k2≤b.size- (j+1):=k2n
   have k2f':∀y,j+1+k2≤y→y<b.size→rk a[i]≤RK rk b y:=fun y h1 h2=>by
    have e:bt true rk a[i] b (j+1) (y- (j+1))=false:=k2f (y- (j+1)) (by omega) (by show y- (j+1)<b.size- (j+1);omega)
    unfold bt at e
    rw[if_pos rfl] at e
    have e':=of_decide_eq_false e
    have ey:j+1+(y- (j+1))=y:=by omega
    rw[ey] at e'
    omega
   have m3:=m2.appB k2 sb (by omega) fun x hx y h1 h2=>by
    have e:bt true rk a[i] b (j+1) x=true:=k2t x hx
    unfold bt at e
    rw[if_pos rfl] at e
    have e':=of_decide_eq_true e
    have:=sa _ y h1 h2
    rw[BI hi'] at this
    omega
   dsimp-zeta only
   extract_lets bc2 i3 jp3
   refine GI (jp:=jp3) (fun out j2=>Mrg rk a b out i j2∧j2<b.size∧x+1+x1+1≤i+j2∧∀y,j2≤y→y<b.size→rk a[i]≤RK rk b y) (fun k3=>?_) ?_
   ·refine BA (fun k20=>?_) (fun k20=>k3 () _ _ ⟨m2,by show j+1<b.size;omega,by show x+1+x1+1≤i+(j+1);omega,fun y (h1:j+1≤y) h2=>k2f' y (by omega) h2⟩)
    refine Aj (fun c6=>jj ⟨lk,.inl ⟨_,rfl,Udn m3 (.inr c6)⟩⟩) fun c6=>?_
    have c6:¬j+1+k2=b.size:=c6
    exact k3 () _ _ ⟨m3,by show j+1+k2<b.size;omega,by show x+1+x1+1≤i+(j+1+k2);omega,k2f'⟩
   clear m3 k2f' k2t k2f m2
   rintro u o2 j3 ⟨m3,hj2,hn2,k2f'⟩
   have m4:=m3.pushA sa hi' k2f'
   refine ja (Aa hi' ?_)
   refine Aj (fun c7=>jj ⟨lk,.inl ⟨_,rfl,Ula m4 c7⟩⟩) fun c7=>?_
   have c7:¬i+1+1=a.size:=c7
   exact BA (fun _=>jj ⟨lk,.inr ⟨_,_,_,_,_,_,rfl,m4,by omega,by omega,by omega⟩⟩) fun _=>jj ⟨lk,_,_,_,_,_,_,rfl,m4,by omega,by omega,by omega⟩
  ·rintro c st2 ⟨lk,out,i,j,mg,ac,bc,rfl,hd⟩
   have e:max 0 (a.size+b.size)=a.size+b.size:=by omega
   rw[e] at hd
   exact⟨lk,.inr ⟨_,_,_,_,_,_,rfl,hd.m,hd.hi,hd.hj,by have:=hd.hn;omega⟩⟩
  rintro c st2 ⟨lk,⟨r,e,f⟩| ⟨out,i,j,mg,ac,bc,rfl,hd⟩⟩
  ·obtain⟨c1,c2⟩:=c
   cases e
   exact jj ⟨lk,_,rfl,f⟩
  refine ja (Cv lk fun st3 lk=>?_)
  exact jj ⟨lk,_,_,_,_,rfl,hd⟩
 ·rintro c st1 ⟨lk,out,i,j,mg,rfl,hd⟩
  have e:max 0 (a.size+b.size)=a.size+b.size:=by omega
  rw[e] at hd
  have:=hd.hn
  have:=hd.hi
  have:=hd.hj
  omega
 ·rintro c st1 ⟨lk,r,e,f⟩
  obtain⟨c1,c2⟩:=c
  cases e
  exact jj (h _ _ lk f)
end
end SrtG
namespace SrtG
local macro_rules | `(tactic| omega) => `(tactic| first | lia | omega)
open PySem PyProof.Rows
variable{rk:Keyed→Int}
structure Mrh(rk:Keyed→Int)(a b out:Array Keyed)(i j:Nat):Prop where
 hi:i≤a.size
 hj:j≤b.size
 perm:out.toList.Perm (a.toList.drop i++b.toList.drop j)
 srt:out.toList.Pairwise fun x y=>rk y≤rk x
 ha:∀x,x∈out.toList→∀y,y<i→RK rk a y≤rk x
 hb:∀x,x∈out.toList→∀y,y<j→RK rk b y≤rk x
theorem Mrh.sym{a b out:Array Keyed}{i j:Nat}(m:Mrh rk a b out i j):Mrh rk b a out j i:=
 ⟨m.hj,m.hi,m.perm.trans mL,m.srt,m.hb,m.ha⟩
theorem Mrh.pushA{a b out:Array Keyed}{i j:Nat}(m:Mrh rk a b out (i+1) j)(sa:FU rk a)(h:i<a.size)(hb:∀y,y<j→RK rk b y≤rk a[i]):Mrh rk a b (out.push a[i]) i j:=by
 have e:(out.push a[i]).toList=out.toList++[a[i]]:=nI ..
 have t:a.toList.drop i=a[i]::a.toList.drop (i+1):=by
  have hl:i<a.toList.length:=by rw[jg];exact h
  rw[mJ hl]
  rfl
 refine⟨by omega,m.hj,?_,?_,?_,?_⟩
 ·rw[e,t]
  exact mL.trans (m.perm.cons a[i])
 ·rw[e,qh]
  refine⟨m.srt,mS _ _,fun x hx y hy=>?_⟩
  cases jd.mp hy
  have:=m.ha x hx i (m5 _)
  rwa[BI h] at this
 ·intro x hx y hy
  rw[e] at hx
  rcases ju.mp hx with hx|hx
  ·exact m.ha x hx y (by omega)
  ·cases jd.mp hx
   have:=sa y i (by omega) h
   rwa[BI h] at this
 ·intro x hx y hy
  rw[e] at hx
  rcases ju.mp hx with hx|hx
  ·exact m.hb x hx y hy
  ·cases jd.mp hx
   exact hb y hy
theorem Mrh.pushB{a b out:Array Keyed}{i j:Nat}(m:Mrh rk a b out i (j+1))(sb:FU rk b)(h:j<b.size)(ha:∀y,y<i→RK rk a y≤rk b[j]):Mrh rk a b (out.push b[j]) i j:=(m.sym.pushA sb h ha).sym
theorem Jj(a:Array Keyed)(l h:Nat)(hl:l<h)(hh:h≤a.size):(a.extract l h).reverse=(a.extract (l+1) h).reverse.push (a[l]'(by omega)):=by
 apply ph
 rw[nI,lK,lK,kY,kY,kA,kA]
 have hln:l<a.toList.length:=by rw[jg];omega
 have e1:h-l=(h- (l+1))+1:=by omega
 rw[mJ hln,e1,List.take_succ_cons,pM]
 rfl
theorem Mrh.appA{a b:Array Keyed}{i j:Nat}:∀(k:Nat) {out:Array Keyed},Mrh rk a b out i j→FU rk a→k≤i→(∀x,i-k≤x→x<i→∀y,y<j→RK rk b y≤RK rk a x)→Mrh rk a b (out++(a.extract (i-k) i).reverse) (i-k) j
 |0,out,m,_,_,_=>by
  have:out++(a.extract (i-0) i).reverse=out:=by
   apply ph
   rw[mX,lK,kY,kA]
   have:i- (i-0)=0:=by omega
   rw[this,pL,List.reverse_nil,mj]
  rw[this];exact m
 |k+1,out,m,sa,h,hb=>by
  have hi:=m.hi
  have m':=Mrh.appA k m sa (by omega) fun x hx=>hb x (by omega)
  have hk:i- (k+1)<a.size:=by omega
  have e:i- (k+1)+1=i-k:=by omega
  rw[Jj a (i- (k+1)) i (by omega) hi,Array.append_push,e]
  rw[←e] at m'
  have q:=m'.pushA sa hk fun y h1=>by
   have:=hb (i- (k+1)) (by omega) (by omega) y h1
   rwa[BI hk] at this
  rw[e] at q
  exact q
theorem Mrh.appA'{a b out:Array Keyed}{i j l:Nat}(m:Mrh rk a b out i j)(sa:FU rk a)(h:l≤i)(hb:∀x,l≤x→x<i→∀y,y<j→RK rk b y≤RK rk a x):Mrh rk a b (out++(a.extract l i).reverse) l j:=by
 have e:i- (i-l)=l:=by omega
 have q:=m.appA (i-l) sa (by omega) (by rw[e];exact hb)
 rwa[e] at q
theorem Mrh.appB'{a b out:Array Keyed}{i j l:Nat}(m:Mrh rk a b out i j)(sb:FU rk b)(h:l≤j)(ha:∀x,l≤x→x<j→∀y,y<i→RK rk a y≤RK rk b x):Mrh rk a b (out++(b.extract l j).reverse) i l:=(m.sym.appA' sb h ha).sym
theorem Mrh.fin{a b out:Array Keyed}(m:Mrh rk a b out 0 0):Fin2 rk a b out.reverse:=by
 have p:=m.perm
 rw[sf,sf] at p
 constructor
 ·rw[lK]
  exact(List.reverse_perm _).trans p
 ·rw[lK,List.pairwise_reverse]
  exact m.srt
theorem Mrh.restAB{a b out:Array Keyed}{i j:Nat}(m:Mrh rk a b out i j)(sa:FU rk a)(sb:FU rk b)(h:∀x y,x<i→y<j→RK rk a x≤RK rk b y):Fin2 rk a b (a.extract 0 i++b.extract 0 j++out.reverse):=by
 have m1:=m.appB' (l:=0) sb (by omega) fun x _ hx y hy=>h y x hy hx
 have m2:=m1.appA' (l:=0) sa (by omega) fun x _ _ y hy=>by omega
 have f:=m2.fin
 have e:(out++(b.extract 0 j).reverse++(a.extract 0 i).reverse).reverse=a.extract 0 i++b.extract 0 j++out.reverse:=by
  apply ph
  rw[lK,mX,mX,mX,mX,lK,lK,lK,qo,qo,List.reverse_reverse,List.reverse_reverse,k4]
 rwa[e] at f
theorem Mrh.restBA{a b out:Array Keyed}{i j:Nat}(m:Mrh rk a b out i j)(sa:FU rk a)(sb:FU rk b)(h:∀x y,x<i→y<j→RK rk b y≤RK rk a x):Fin2 rk a b (b.extract 0 j++a.extract 0 i++out.reverse):=by
 have f:=m.sym.restAB sb sa fun x y h1 h2=>h y x h2 h1
 exact⟨f.perm.trans mL,f.srt⟩
noncomputable def LW:Array Keyed→Array Keyed→StateT SortSt Sem (Array Keyed):=sortPriv%PySem.Builtin.mergeHi
noncomputable abbrev iw(a b out:Array Keyed)(i j:Nat):Array Keyed:=a.extract 0 i++b.extract 0 j++out.reverse
noncomputable abbrev iy(a b out:Array Keyed)(i j:Nat):Array Keyed:=b.extract 0 j++a.extract 0 i++out.reverse
end SrtG
namespace SrtG
local macro_rules | `(tactic| omega) => `(tactic| first | lia | omega)
open PySem PyProof.Rows
variable{prog:Program}{w:World}{A:js}{E:Value→c9→Prop}{s:c9}{kd:oB}{U:Keyed→Prop}{rk:Keyed→Int}
theorem Mrh.pushA1{a b out:Array Keyed}{i j:Nat}(m:Mrh rk a b out i j)(sa:FU rk a)(h0:0<i)(h:i-1<a.size)(hb:∀y,y<j→RK rk b y≤rk a[i-1]):Mrh rk a b (out.push a[i-1]) (i-1) j:=by
 cases i with
 |zero=>omega
 |succ i=>exact m.pushA sa h hb
structure Hh(rk:Keyed→Int)(a b out:Array Keyed)(i j n:Nat):Prop where
 m:Mrh rk a b out i j
 hi:0<i
 hj:1<j
 hn:i+j+n≤a.size+b.size
theorem LX{a b:Array Keyed}{st:kc}{Q:Array Keyed→kc→Prop}(C:Qx prog w A E s kd U rk)(hk:kindOf st=kd)(uA:AllU U a)(uB:AllU U b)(sa:FU rk a)(sb:FU rk b)(ha0:0<a.size)(hb0:0<b.size)
  (hfst:RK rk b 0≤RK rk a 0) (hlst:RK rk b (b.size-1)≤RK rk a (a.size-1))
  (h:∀r st',Like st st'→Fin2 rk a b r→Q r st'):wpS (model prog w) A E s (LW a b) Q st:=by
 have Udn:∀{out i j},Mrh rk a b out i j→i=0∨j=0→Fin2 rk a b (iw a b out i j):=fun m hh=>m.restAB sa sb fun x y _ _=>by omega
 have Ula:∀{out i j},Mrh rk a b out i j→j=1→Fin2 rk a b (iy a b out i j):=fun{out i j} m hh=>m.restBA sa sb fun x y h1 h2=>by
  have hi:=m.hi
  have e1:=sa 0 x (by omega) (by omega)
  have e:y=0:=by omega
  subst e
  omega
 have uAt:∀{i} (hi:i<a.size),U a[i]:=fun hi=>uA _ _ (getElem?_pos a _ hi)
 have uBt:∀{i} (hi:i<b.size),U b[i]:=fun hi=>uB _ _ (getElem?_pos b _ hi)
 have hal:a.size-1<a.size:=by omega
 delta LW
 refine ja (qB (mT ⟨rfl,?_⟩))
 refine ja (Aa hal ?_)
 have m0:Mrh rk a b #[] (a.size-1+1) b.size:=by
  have e:a.size-1+1=a.size:=by omega
  rw[e]
  refine⟨by omega,by omega,?_,mF,(fun x hx=>by cases hx),(fun x hx=>by cases hx)⟩
  rw[←jg,←jg,List.drop_length,List.drop_length]
  exact nC.nil
 have m1:Mrh rk a b #[a[a.size-1]] (a.size-1) b.size:=m0.pushA sa hal fun y hy=>by
  have e1:=sb y (b.size-1) (by omega) (by omega)
  rw[←BI (rk:=rk) hal]
  omega
 refine Aj (fun c1=>jj (h _ _ (Like.refl _) (Udn m1 (.inl c1)))) fun c1=>?_
 refine Aj (fun c2=>jj (h _ _ (Like.refl _) (Ula m1 c2))) fun c2=>?_
 refine ja (pE ?_)
 refine ja (lZ (kP (I:=fun x c st'=>Like st st'∧∃out i j mg,c=(none,i,j,out,mg)∧Hh rk a b out i j (x+1))
  (Q:=fun c st'=>Like st st'∧∃r,c.1=some r∧Fin2 rk a b r) ?_ ?_ ⟨Like.refl _,_,_,_,_,rfl,m1,by omega,by omega,by omega⟩) ?_)
 ·rintro x c st1 _ hx ⟨lk,out,i,j,mg,rfl,hd⟩
  refine ja (lZ (kP (I:=fun _ c st'=>Like st st'∧∃out i j ac bc,c=(none,i,j,out,ac,bc)∧Hh rk a b out i j (x+1))
   (Q:=fun c st'=>Like st st'∧((∃r,c.1=some r∧Fin2 rk a b r)∨∃out i j ac bc,c=(none,i,j,out,ac,bc)∧Hh rk a b out i j (x+1))) ?_ ?_ ⟨lk,_,_,_,_,_,rfl,hd⟩) ?_)
  ·rintro x1 c st2 _ hx1 ⟨lk,out,i,j,ac,bc,rfl,hd⟩
   have hi0:=hd.hi
   have hj0:=hd.hj
   have hin:=hd.hn
   have hia:i-1<a.size:=by have:=hd.m.hi;omega
   have hjb:j-1<b.size:=by have:=hd.m.hj;omega
   have ei:i-1+1=i:=by omega
   have ej:j-1+1=j:=by omega
   have m:=hd.m
   refine ja (Aa hjb ?_)
   refine ja (Aa hia ?_)
   refine ja (C _ _ _ _ (lk.kd.trans hk) (uBt hjb) (uAt hia) ?_)
   refine BA (fun hlt=>?_) (fun hlt=>?_)
   ·have hlt:rk b[j-1]<rk a[i-1]:=of_decide_eq_true hlt
    rw[←ei] at m
    have m:=m.pushA sa hia fun y h1=>by
     have:=sb y (j-1) (by omega) hjb
     rw[BI hjb] at this
     omega
    refine ja (Aa hia ?_)
    refine Aj (fun c3=>jj ⟨lk,.inl ⟨_,rfl,Udn m (.inl c3)⟩⟩) fun c3=>?_
    have c3:¬i-1=0:=c3
    have hd':Hh rk a b (out.push a[i-1]) (i-1) j (x+1):=⟨m,by omega,by omega,by omega⟩
    exact BA (fun _=>jj ⟨lk,.inr ⟨_,_,_,_,_,rfl,hd'⟩⟩) fun _=>jj ⟨lk,_,_,_,_,_,rfl,hd'⟩
   ·have hlt:¬rk b[j-1]<rk a[i-1]:=fun q=>hlt (decide_eq_true q)
    rw[←ej] at m
    have m:=m.pushB sb hjb fun y h1=>by
     have:=sa y (i-1) (by omega) hia
     rw[BI hia] at this
     omega
    refine ja (Aa hjb ?_)
    refine Aj (fun c3=>jj ⟨lk,.inl ⟨_,rfl,Ula m c3⟩⟩) fun c3=>?_
    have c3:¬j-1=1:=c3
    have hd':Hh rk a b (out.push b[j-1]) i (j-1) (x+1):=⟨m,by omega,by omega,by omega⟩
    exact BA (fun _=>jj ⟨lk,.inr ⟨_,_,_,_,_,rfl,hd'⟩⟩) fun _=>jj ⟨lk,_,_,_,_,_,rfl,hd'⟩
  ·rintro c st2 ⟨lk,hh⟩
   exact⟨lk,.inr hh⟩
  rintro c st2 ⟨lk,⟨r,e,f⟩| ⟨out,i,j,ac,bc,rfl,hd⟩⟩
  ·obtain⟨c1,c2⟩:=c
   cases e
   exact jj ⟨lk,_,rfl,f⟩
  refine ja (qB (mT ⟨rfl,?_⟩))
  refine ja (lZ (kP (I:=fun y c st'=>Like st st'∧∃out i j mg ac bc,c=(none,i,j,out,mg,ac,bc)∧Hh rk a b out i j (x+1+y))
   (Q:=fun c st'=>Like st st'∧((∃r,c.1=some r∧Fin2 rk a b r)∨∃out i j mg ac bc,c=(none,i,j,out,mg,ac,bc)∧Hh rk a b out i j (x+1+1))) ?_ ?_ ⟨lk,_,_,_,_,_,_,rfl,hd⟩) ?_)
  ·rintro x1 c st2 _ hx1 ⟨lk,out,i,j,mg,ac,bc,rfl,hd⟩
   have hi0:=hd.hi
   have hj0:=hd.hj
   have hin:=hd.hn
   have hia:=hd.m.hi
   have hjl:=hd.m.hj
   have hjb:j-1<b.size:=by omega
   extract_lets s1 i1 s2 j1 s3 o1 s4 g1 s5 ac1 bc1 j2 jp
   refine Og (jp:=jp) (fun _=>True) (fun k1=>BA (fun _=>k1 () _ trivial) fun _=>k1 () _ trivial) ?_
   intro u g _
   refine ja (Cv lk fun st3 lk=>?_)
   refine ja (Aa hjb ?_)
   refine ja (Bl C (lk.kd.trans hk) (uBt hjb) uA (by show 0+i≤a.size;omega) (by show i-1<i;omega) ?_ ?_)
   ·intro p q hpq hq e
    have hq:q<i:=hq
    have e:bt false rk b[j-1] a 0 q=true:=e
    show bt false rk b[j-1] a 0 p=true
    unfold bt at e ⊢
    rw[if_neg i5] at e ⊢
    have e':=of_decide_eq_false (k6 _|>.mp e)
    have:=sa (0+p) (0+q) (by omega) (by omega)
    exact(k6 _).mpr (decide_eq_false (by omega))
   rintro p ⟨kn,kt,kf⟩
   have kn:p≤i:=kn
   have kf':∀y,y<p→RK rk a y≤rk b[j-1]:=fun y hy=>by
    have e:bt false rk b[j-1] a 0 y=true:=kt y hy
    unfold bt at e
    rw[if_neg i5] at e
    have e':=of_decide_eq_false (k6 _|>.mp e)
    rw[n6] at e'
    omega
   have m:=hd.m.appA' sa kn fun x h1 h2 y h3=>by
    have e:bt false rk b[j-1] a 0 x=false:=kf x h1 h2
    unfold bt at e
    rw[if_neg i5] at e
    have e':=of_decide_eq_true (oh _|>.mp e)
    rw[n6] at e'
    have:=sb y (j-1) (by omega) hjb
    rw[BI hjb] at this
    omega
   dsimp-zeta only
   extract_lets k ac2 jp2
   refine GI (jp:=jp2) (fun p out=>Mrh rk a b out p j∧0<p∧p≤i∧∀y,y<p→RK rk a y≤rk b[j-1]) (fun k2=>?_) ?_
   ·refine BA (fun k0=>?_) (fun k0=>k2 () _ _ ⟨hd.m,hi0,jb _,fun y (h1:y<i)=>kf' y (by have k0:¬i-p>0:=k0;omega)⟩)
    refine Aj (fun c3=>jj ⟨lk,.inl ⟨_,rfl,Udn m (.inl c3)⟩⟩) fun c3=>?_
    have c3:¬p=0:=c3
    exact k2 () _ _ ⟨m,by show 0<p;omega,kn,kf'⟩
   clear m kf' kt kf
   rintro u p out ⟨m,hI,kn',kf'⟩
   have ej:j-1+1=j:=by omega
   rw[←ej] at m
   have m2:=m.pushB sb hjb kf'
   refine ja (Aa hjb ?_)
   refine Aj (fun c5=>jj ⟨lk,.inl ⟨_,rfl,Ula m2 c5⟩⟩) fun c5=>?_
   have c5:¬j-1=1:=c5
   have hI1:p-1<a.size:=by omega
   refine ja (Aa hI1 ?_)
   refine ja (Bl C (lk.kd.trans hk) (uAt hI1) uB (by show 0+(j-1)≤b.size;omega) (by show j-1-1<j-1;omega) ?_ ?_)
   ·intro p' q hpq hq e
    have hq:q<j-1:=hq
    have e:bt true rk a[p-1] b 0 q=true:=e
    show bt true rk a[p-1] b 0 p'=true
    unfold bt at e ⊢
    rw[if_pos rfl] at e ⊢
    have e':=of_decide_eq_true e
    have:=sb (0+p') (0+q) (by omega) (by omega)
    exact decide_eq_true (by omega)
   rintro q ⟨k2n,k2t,k2f⟩
   have k2n:q≤j-1:=k2n
   have k2t':∀y,y<q→RK rk b y≤rk a[p-1]:=fun y hx=>by
    have e:bt true rk a[p-1] b 0 y=true:=k2t y hx
    unfold bt at e
    rw[if_pos rfl] at e
    have e':=of_decide_eq_true e
    rw[n6] at e'
    omega
   have m3:=m2.appB' sb k2n fun x h1 h2 y h3=>by
    have e:bt true rk a[p-1] b 0 x=false:=k2f x h1 h2
    unfold bt at e
    rw[if_pos rfl] at e
    have e':=of_decide_eq_false e
    rw[n6] at e'
    have:=sa y (p-1) (by omega) hI1
    rw[BI hI1] at this
    omega
   dsimp-zeta only
   extract_lets kk bc2 p2 jp3
   refine GI (jp:=jp3) (fun q out=>Mrh rk a b out p q∧1<q∧q≤j-1∧∀y,y<q→RK rk b y≤rk a[p-1]) (fun k3=>?_) ?_
   ·refine BA (fun k20=>?_) (fun k20=>k3 () _ _ ⟨m2,by show 1<j-1;omega,jb _,fun y (h1:y<j-1)=>k2t' y (by have k20:¬j-1-q>0:=k20;omega)⟩)
    refine Aj (fun c6=>jj ⟨lk,.inl ⟨_,rfl,Ula m3 c6⟩⟩) fun c6=>?_
    refine Aj (fun c8=>jj ⟨lk,.inl ⟨_,rfl,Udn m3 (.inr c8)⟩⟩) fun c8=>?_
    have c6:¬q=1:=c6
    have c8:¬q=0:=c8
    exact k3 () _ _ ⟨m3,by show 1<q;omega,k2n,k2t'⟩
   clear m3 k2t' k2t k2f m2
   rintro u q o2 ⟨m3,hq1,hq2,k2t'⟩
   have m4:=m3.pushA1 sa hI hI1 k2t'
   refine ja (Aa hI1 ?_)
   refine Aj (fun c7=>jj ⟨lk,.inl ⟨_,rfl,Udn m4 (.inl c7)⟩⟩) fun c7=>?_
   have c7:¬p-1=0:=c7
   exact BA (fun _=>jj ⟨lk,.inr ⟨_,_,_,_,_,_,rfl,m4,by show 0<p-1;omega,by omega,by show p-1+q+_≤_;omega⟩⟩) fun _=>jj ⟨lk,_,_,_,_,_,_,rfl,m4,by show 0<p-1;omega,by omega,by show p-1+q+_≤_;omega⟩
  ·rintro c st2 ⟨lk,out,i,j,mg,ac,bc,rfl,hd⟩
   have e:max 0 (a.size+b.size)=a.size+b.size:=by omega
   rw[e] at hd
   exact⟨lk,.inr ⟨_,_,_,_,_,_,rfl,hd.m,hd.hi,hd.hj,by have:=hd.hn;omega⟩⟩
  rintro c st2 ⟨lk,⟨r,e,f⟩| ⟨out,i,j,mg,ac,bc,rfl,hd⟩⟩
  ·obtain⟨c1,c2⟩:=c
   cases e
   exact jj ⟨lk,_,rfl,f⟩
  refine ja (Cv lk fun st3 lk=>?_)
  exact jj ⟨lk,_,_,_,_,rfl,hd⟩
 ·rintro c st1 ⟨lk,out,i,j,mg,rfl,hd⟩
  have e:max 0 (a.size+b.size)=a.size+b.size:=by omega
  rw[e] at hd
  have:=hd.hn
  have:=hd.hi
  have:=hd.hj
  omega
 ·rintro c st1 ⟨lk,r,e,f⟩
  obtain⟨c1,c2⟩:=c
  cases e
  exact jj (h _ _ lk f)
end SrtG
namespace SrtG
local macro_rules | `(tactic| omega) => `(tactic| first | lia | omega)
open PySem PyProof.Rows
variable{rk:Keyed→Int}
noncomputable def Seg(rk:Keyed→Int)(arr:Array Keyed)(lo hi:Nat):Prop:=∀x y,lo≤x→x≤y→y<hi→RK rk arr x≤RK rk arr y
structure Upd(rk:Keyed→Int)(arr arr':Array Keyed)(lo hi:Nat):Prop where
 perm:arr'.toList.Perm arr.toList
 out:∀x,x<lo∨hi≤x→arr'[x]?=arr[x]?
 seg:Seg rk arr' lo hi
theorem CY{arr arr':Array Keyed}{x:Nat}(h:arr'[x]?=arr[x]?):RK rk arr' x=RK rk arr x:=by unfold RK;rw[h]
noncomputable abbrev back(l:List (Keyed×Nat))(lo:Nat)(arr:Array Keyed):Array Keyed:=l.foldl (fun a (p,j)=>a.setIfInBounds (lo+j) p) arr
theorem HR(lo:Nat):∀(l:List Keyed) (n:Nat) (arr:Array Keyed),lo+n+l.length≤arr.size→∀x,(back (l.zipIdx n) lo arr)[x]?=if lo+n≤x∧x<lo+n+l.length then l[x- (lo+n)]? else arr[x]?
 | [],n,arr,_,x=>by
  rw[if_neg (by rintro⟨h1,h2⟩;simp only[lB] at h2;omega)]
  rfl
 |p::l,n,arr,h,x=>by
  rw[jm] at h
  have e:back ((p::l).zipIdx n) lo arr=back (l.zipIdx (n+1)) lo (arr.setIfInBounds (lo+n) p):=by rw[rh];rfl
  rw[e,HR lo l (n+1) _ (by rw[Array.size_setIfInBounds];omega) x,jm]
  by_cases c:lo+(n+1)≤x∧x<lo+(n+1)+l.length
  ·rw[if_pos c,if_pos (by omega)]
   have e2:x- (lo+n)=(x- (lo+(n+1)))+1:=by omega
   rw[e2,nV]
  ·rw[if_neg c,Array.getElem?_setIfInBounds]
   by_cases c2:lo+n=x
   ·rw[if_pos c2,if_pos (by omega),if_pos (by omega)]
    have e2:x- (lo+n)=0:=by omega
    rw[e2];rfl
   ·rw[if_neg c2,if_neg (by omega)]
theorem QP{arr:Array Keyed}{l:List Keyed}{lo:Nat}(h:lo+l.length≤arr.size):(back l.zipIdx lo arr).toList=arr.toList.take lo++l++arr.toList.drop (lo+l.length):=by
 apply lH
 intro x
 rw[kl,HR lo l 0 arr (by omega) x]
 have hlen:arr.toList.length=arr.size:=jg
 by_cases c1:x<lo
 ·rw[if_neg (by omega),k4,jz (by rw[j8];omega),nj,if_pos c1,kl]
 ·by_cases c2:x<lo+l.length
  ·rw[if_pos (by omega),jz (by rw[jf,j8];omega),jw (by rw[j8];omega),j8]
   have e:min lo arr.toList.length=lo:=by omega
   rw[e]
   rfl
  ·rw[if_neg (by omega),jw (by rw[jf,j8];omega),lx,jf,j8]
   have e:lo+l.length+(x- (min lo arr.toList.length+l.length))=x:=by omega
   rw[e,kl]
theorem Rx{arr merged:Array Keyed}{lo hi s0 e0:Nat}(hhi:lo≤hi)(hs:s0≤lo)(he:hi≤e0)(hz:e0≤arr.size)(perm:merged.toList.Perm (arr.extract lo hi).toList)(srt:merged.toList.Pairwise fun x y=>rk x≤rk y)
  (hL:∀x z,s0≤x→x<lo→x≤z→z<e0→RK rk arr x≤RK rk arr z) (hR:∀z y,s0≤z→z≤y→hi≤y→y<e0→RK rk arr z≤RK rk arr y):Upd rk arr (back merged.toList.zipIdx lo arr) s0 e0:=by
 have hx:(arr.extract lo hi).toList=(arr.toList.drop lo).take (hi-lo):=by rw[kY,kA]
 have hlenA:arr.toList.length=arr.size:=jg
 have hlen:merged.toList.length=hi-lo:=by
  rw[perm.length_eq,hx,j8,mN]
  omega
 have hfit:lo+merged.toList.length≤arr.size:=by omega
 have hget:=HR lo merged.toList 0 arr (by omega)
 have hmid:∀m,m∈merged.toList→∃z,lo≤z∧z<hi∧rk m=RK rk arr z:=fun m hm=>by
  have hm':=perm.mem_iff.mp hm
  rw[hx] at hm'
  obtain⟨i,hi'⟩:=List.mem_iff_getElem?.mp hm'
  rw[nj] at hi'
  split at hi'
  ·rename_i hlt
   rw[lx,kl] at hi'
   exact⟨lo+i,by omega,by omega,by unfold RK;rw[hi']⟩
  ·cases hi'
 have hRK:∀x,lo≤x→x<hi→∃m,m∈merged.toList∧merged.toList[x-lo]?=some m∧RK rk (back merged.toList.zipIdx lo arr) x=rk m:=fun x h1 h2=>by
  have hl:x-lo<merged.toList.length:=by omega
  refine⟨_,kT hl,i8 hl,?_⟩
  unfold RK
  rw[hget x,if_pos (by omega)]
  have e:x- (lo+0)=x-lo:=by omega
  rw[e,i8 hl]
 have hout:∀x,x<lo∨hi≤x→(back merged.toList.zipIdx lo arr)[x]?=arr[x]?:=fun x h=>by
  rw[hget x,if_neg (by omega)]
 refine⟨?_,fun x h=>hout x (by omega),?_⟩
 ·rw[QP hfit]
  have e:arr.toList=arr.toList.take lo++((arr.toList.drop lo).take (hi-lo))++arr.toList.drop (lo+merged.toList.length):=by
   rw[k4]
   have e2:lo+merged.toList.length=lo+(hi-lo):=by omega
   rw[e2,←List.drop_drop,kU,kU]
  rw[hx] at perm
  have:=(perm.append_left (arr.toList.take lo)).append_right (arr.toList.drop (lo+merged.toList.length))
  rw[←e] at this
  exact this
 ·intro x y h1 h2 h3
  by_cases cx:x<lo
  ·rw[CY (hout x (.inl cx))]
   by_cases cy:lo≤y∧y<hi
   ·obtain⟨m,hm,_,e⟩:=hRK y cy.1 cy.2
    obtain⟨z,z1,z2,ez⟩:=hmid m hm
    rw[e,ez]
    exact hL x z h1 cx (by omega) (by omega)
   ·rw[CY (hout y (by omega))]
    exact hL x y h1 cx h2 h3
  ·by_cases cx2:x<hi
   ·obtain⟨m,hm,hm2,e⟩:=hRK x (by omega) cx2
    rw[e]
    by_cases cy:y<hi
    ·obtain⟨m',hm',hm2',e'⟩:=hRK y (by omega) cy
     rw[e']
     by_cases exy:x=y
     ·subst exy
      rw[hm2] at hm2'
      cases hm2'
      exact me _
     ·have hl:y-lo<merged.toList.length:=by omega
      have hl':x-lo<merged.toList.length:=by omega
      have:=lg.mp srt (x-lo) (y-lo) hl' hl (by omega)
      rw[i8 hl'] at hm2
      rw[i8 hl] at hm2'
      cases hm2
      cases hm2'
      exact this
    ·rw[CY (hout y (by omega))]
     obtain⟨z,z1,z2,ez⟩:=hmid m hm
     rw[ez]
     exact hR z y (by omega) (by omega) (by omega) h3
   ·rw[CY (hout x (by omega)),CY (hout y (by omega))]
    exact hR x y h1 h2 (by omega) h3
end SrtG
namespace SrtG
local macro_rules | `(tactic| omega) => `(tactic| first | lia | omega)
open PySem PyProof.Rows
variable{rk:Keyed→Int}
theorem GJ{arr:Array Keyed}{l h:Nat}(hh:h≤arr.size):(arr.extract l h).size=h-l:=by rw[Array.size_extract];omega
theorem Ry{arr:Array Keyed}{l h x:Nat}(hx:x<h-l)(hh:h≤arr.size):(arr.extract l h)[x]?=arr[l+x]?:=by
 rw[←kl,kY,kA,nj,if_pos hx,lx,kl]
theorem Ip{arr:Array Keyed}{l h x:Nat}(hx:x<h-l)(hh:h≤arr.size):RK rk (arr.extract l h) x=RK rk arr (l+x):=by unfold RK;rw[Ry hx hh]
theorem AllU.ex{U:Keyed→Prop}{arr:Array Keyed}{l h:Nat}(u:AllU U arr)(hh:h≤arr.size):AllU U (arr.extract l h):=fun i p e=>by
 have hi:i< (arr.extract l h).size:=by
  apply l8
  intro hn
  rw[Array.getElem?_eq_none (pW hn)] at e
  cases e
 rw[GJ hh] at hi
 rw[Ry hi hh] at e
 exact u _ _ e
theorem Seg.ex{arr:Array Keyed}{l h:Nat}(sg:Seg rk arr l h)(hh:h≤arr.size):FU rk (arr.extract l h):=fun i j hij hj=>by
 rw[GJ hh] at hj
 rw[Ip (by omega) hh,Ip hj hh]
 exact sg _ _ (by omega) (by omega) (by omega)
section
variable{prog:Program}{w:World}{A:js}{E:Value→c9→Prop}{s:c9}{kd:oB}{U:Keyed→Prop}
theorem VZ{st st':kc}{Q:PUnit→kc→Prop}(h:Q ⟨⟩ st'):wpS (model prog w) A E s (set st':StateT kc Sem PUnit) Q st:=by
 unfold wpS;rw[StateT.run_set];exact e6 ⟨rfl,h⟩
theorem LY{i sa na pa sb nb pb:Nat}{st:kc}{Q:Bool→kc→Prop}(C:Qx prog w A E s kd U rk)(hk:kindOf st=kd)(hU:AllU U (arrOf st))(hf:nT st=none)
  (h1:(pendingOf st)[i]?=some (sa,na,pa)) (h2:(pendingOf st)[i+1]?=some (sb,nb,pb)) (hsb:sb=sa+na) (hna:0<na) (hnb:0<nb) (hsz:sb+nb≤(arrOf st).size) (S1:Seg rk (arrOf st) sa sb) (S2:Seg rk (arrOf st) sb (sb+nb))
  (h:∀st',kindOf st'=kd→nT st'=none→pendingOf st'=((pendingOf st).setIfInBounds i (sa,na+nb,pa)).eraseIdxIfInBounds (i+1)→Upd rk (arrOf st) (arrOf st') sa (sb+nb)→Q true st'):
  wpS (model prog w) A E s (mergeAt' i) Q st:=by
 delta mergeAt'
 refine ja (pE ?_)
 rw[h1,h2]
 dsimp only
 refine ja (VZ ?_)
 have hsbz:sb< (arrOf st).size:=by omega
 have uAt:∀{i} (hi:i< (arrOf st).size),U (arrOf st)[i]:=fun hi=>hU _ _ (getElem?_pos (arrOf st) _ hi)
 refine ja (Aa (arr:=arrOf st) hsbz ?_)
 refine ja (Bl (arr:=arrOf st) C hk (uAt hsbz) hU (by omega) hna ?_ ?_)
 ·intro p q hpq hq e
  unfold bt at e ⊢
  rw[if_neg i5] at e ⊢
  have e':=of_decide_eq_false (k6 _|>.mp e)
  have:=S1 (sa+p) (sa+q) (by omega) (by omega) (by omega)
  exact(k6 _).mpr (decide_eq_false (by omega))
 rintro k ⟨kn,kt,kf⟩
 have kt':∀x,sa≤x→x<sa+k→RK rk (arrOf st) x≤RK rk (arrOf st) sb:=fun x hx1 hx=>by
  have e:=kt (x-sa) (by omega)
  unfold bt at e
  rw[if_neg i5] at e
  have e':=of_decide_eq_false (k6 _|>.mp e)
  have ex:sa+(x-sa)=x:=by omega
  rw[ex] at e'
  rw[BI hsbz]
  omega
 have kf':∀x,sa+k≤x→x<sb→RK rk (arrOf st) sb<RK rk (arrOf st) x:=fun x hx1 hx=>by
  have e:=kf (x-sa) (by omega) (by omega)
  unfold bt at e
  rw[if_neg i5] at e
  have e':=of_decide_eq_true (oh _|>.mp e)
  have ex:sa+(x-sa)=x:=by omega
  rw[ex] at e'
  rw[BI hsbz]
  omega
 dsimp only
 by_cases c1:na-k=0
 ·rw[if_pos (beq_iff_eq.mpr c1)]
  refine jj (h _ hk hf rfl ⟨nC.refl _,fun _ _=>rfl,fun x y hx1 hx2 hx3=>?_⟩)
  by_cases cy:y<sb
  ·exact S1 x y hx1 hx2 cy
  ·by_cases cx:x<sb
   ·have e1:=kt' x hx1 (by omega)
    have e2:=S2 sb y (by omega) (by omega) hx3
    exact mY e1 e2
   ·exact S2 x y (by omega) hx2 hx3
 rw[if_neg (fun q=>c1 (beq_iff_eq.mp q))]
 have el:sa+k+(na-k)-1=sb-1:=by omega
 rw[el]
 have hlz:sb-1< (arrOf st).size:=by omega
 refine ja (Aa (arr:=arrOf st) hlz ?_)
 refine ja (Bl (arr:=arrOf st) C hk (uAt hlz) hU (by omega) (by omega) ?_ ?_)
 ·intro p q hpq hq e
  unfold bt at e ⊢
  rw[if_pos rfl] at e ⊢
  have e':=of_decide_eq_true e
  have:=S2 (sb+p) (sb+q) (by omega) (by omega) (by omega)
  exact decide_eq_true (by omega)
 rintro n2 ⟨nn,nt,nf⟩
 have nt':∀x,sb≤x→x<sb+n2→RK rk (arrOf st) x<RK rk (arrOf st) (sb-1):=fun x hx1 hx=>by
  have e:=nt (x-sb) (by omega)
  unfold bt at e
  rw[if_pos rfl] at e
  have e':=of_decide_eq_true e
  have ex:sb+(x-sb)=x:=by omega
  rw[ex] at e'
  rw[BI hlz]
  omega
 have nf':∀x,sb+n2≤x→x<sb+nb→RK rk (arrOf st) (sb-1)≤RK rk (arrOf st) x:=fun x hx1 hx=>by
  have e:=nf (x-sb) (by omega) (by omega)
  unfold bt at e
  rw[if_pos rfl] at e
  have e':=of_decide_eq_false e
  have ex:sb+(x-sb)=x:=by omega
  rw[ex] at e'
  rw[BI hlz]
  omega
 dsimp only
 have hlast:=kf' (sb-1) (by omega) (by omega)
 by_cases c2:n2=0
 ·have:=nf' sb (by omega) (by omega)
  omega
 rw[if_neg (fun q=>c2 (beq_iff_eq.mp q))]
 have hy:sb+n2≤(arrOf st).size:=by omega
 have hx':sb≤(arrOf st).size:=by omega
 have sA:FU rk ((arrOf st).extract (sa+k) sb):=Seg.ex (fun x y q1 q2 q3=>S1 x y (by omega) q2 q3) hx'
 have sB:FU rk ((arrOf st).extract sb (sb+n2)):=Seg.ex (fun x y q1 q2 q3=>S2 x y q1 q2 (by omega)) hy
 have zA:((arrOf st).extract (sa+k) sb).size=sb- (sa+k):=GJ hx'
 have zB:((arrOf st).extract sb (sb+n2)).size=sb+n2-sb:=GJ hy
 have q0:RK rk ((arrOf st).extract sb (sb+n2)) 0≤RK rk ((arrOf st).extract (sa+k) sb) 0:=by
  rw[Ip (by omega) hy,Ip (by omega) hx']
  have:=kf' (sa+k+0) (by omega) (by omega)
  exact mZ this
 have q1:RK rk ((arrOf st).extract sb (sb+n2)) (((arrOf st).extract sb (sb+n2)).size-1)≤RK rk ((arrOf st).extract (sa+k) sb) (((arrOf st).extract (sa+k) sb).size-1):=by
  rw[zA,zB,Ip (by omega) hy,Ip (by omega) hx']
  have:=nt' (sb+(sb+n2-sb-1)) (by omega) (by omega)
  have e:sa+k+(sb- (sa+k)-1)=sb-1:=by omega
  rw[e]
  exact mZ this
 have fin:∀r (st':kc),Like (qC st (((pendingOf st).setIfInBounds i (sa,na+nb,pa)).eraseIdxIfInBounds (i+1))) st'→Fin2 rk ((arrOf st).extract (sa+k) sb) ((arrOf st).extract sb (sb+n2)) r→
   wpS (model prog w) A E s (do
    modify fun z=>setArr z (back r.toList.zipIdx (sa+k) (arrOf z))
    return(nT (←get)).isNone) Q st':=fun r st' lk f=>by
  refine ja (nW ?_)
  refine ja (pE ?_)
  have e:(nT st').isNone=true:=by rw[lk.fl];show(nT st).isNone=true;rw[hf];rfl
  show wpS _ _ _ _ (pure ((nT st').isNone)) _ _
  rw[e]
  refine jj (h _ (lk.kd.trans hk) (lk.fl.trans hf) lk.pd ?_)
  have ea:arrOf st'=arrOf st:=lk.arr
  show Upd rk (arrOf st) (back r.toList.zipIdx (sa+k) (arrOf st')) sa (sb+nb)
  rw[ea]
  refine Rx (hi:=sb+n2) (by omega) (by omega) (by omega) hsz ?_ f.srt ?_ ?_
  ·have e2:((arrOf st).extract (sa+k) (sb+n2)).toList=((arrOf st).extract (sa+k) sb).toList++((arrOf st).extract sb (sb+n2)).toList:=by
    rw[kY,kY,kY,kA,kA,kA]
    have e3:sb+n2- (sa+k)=(sb- (sa+k))+(sb+n2-sb):=by omega
    rw[e3,List.take_add,List.drop_drop]
    have e4:sa+k+(sb- (sa+k))=sb:=by omega
    rw[e4]
   rw[e2]
   exact f.perm
  ·intro x z hx1 hx2 hx3 hx4
   by_cases cz:z<sb
   ·exact S1 x z hx1 hx3 cz
   ·have e1:=kt' x hx1 hx2
    have e2:=S2 sb z (by omega) (by omega) hx4
    exact mY e1 e2
  ·intro z y hx1 hx2 hx3 hx4
   by_cases cz:z<sb
   ·have e1:=S1 z (sb-1) hx1 (by omega) (by omega)
    exact mY e1 (nf' y hx3 hx4)
   ·exact S2 z y (by omega) hx2 hx4
 by_cases c3:na-k≤n2
 ·rw[if_pos c3]
  exact ja (LV (a:=(arrOf st).extract (sa+k) sb) (b:=(arrOf st).extract sb (sb+n2)) C hk (hU.ex hx') (hU.ex hy) sA sB (by omega) (by omega) q0 q1 fin)
 ·rw[if_neg c3]
  exact ja (LX (a:=(arrOf st).extract (sa+k) sb) (b:=(arrOf st).extract sb (sb+n2)) C hk (hU.ex hx') (hU.ex hy) sA sB (by omega) (by omega) q0 q1 fin)
end
end SrtG
namespace SrtG
open PySem PyProof.Rows
variable{rk:Keyed→Int}
structure Kp(st0 st:kc)(lo hi:Nat):Prop where
 kd:kindOf st=kindOf st0
 pd:pendingOf st=pendingOf st0
 fl:nT st=nT st0
 perm:(arrOf st).toList.Perm (arrOf st0).toList
 out:∀x,x<lo∨hi≤x→(arrOf st)[x]?=(arrOf st0)[x]?
theorem Kp.refl(st:kc)(lo hi:Nat):Kp st st lo hi:=⟨rfl,rfl,rfl,nC.refl _,fun _ _=>rfl⟩
theorem Kp.size{st0 st:kc}{lo hi:Nat}(k:Kp st0 st lo hi):(arrOf st).size=(arrOf st0).size:=by
 rw[←jg,←jg];exact k.perm.length_eq
theorem AllU.of_perm{U:Keyed→Prop}{a b:Array Keyed}(u:AllU U a)(p:b.toList.Perm a.toList):AllU U b:=fun i q e=>by
 have hm:q∈b.toList:=by rw[←kl] at e;exact i9 e
 have hm':=p.mem_iff.mp hm
 obtain⟨j,hj⟩:=List.mem_iff_getElem?.mp hm'
 rw[kl] at hj
 exact u j q hj
theorem Kp.setA{st0 st:kc}{lo hi:Nat}(k:Kp st0 st lo hi){xs:Array Keyed}(hp:xs.toList.Perm (arrOf st).toList)(ho:∀x,x<lo∨hi≤x→xs[x]?=(arrOf st)[x]?):Kp st0 (setArr st xs) lo hi:=
 ⟨k.kd,k.pd,k.fl,hp.trans k.perm,fun x hx=> (ho x hx).trans (k.out x hx)⟩
theorem DT{xs ys:Array Keyed}{i j:Nat}(h:xs[i]?=ys[j]?):RK rk xs i=RK rk ys j:=by unfold RK;rw[h]
theorem Iq{xs:Array Keyed}{src d:Nat}(hs:src<xs.size)(hd:d≤src)(k:Nat):RK rk (bubble xs src d) k=if k=src-d then RK rk xs src else if src-d<k∧k≤src then RK rk xs (k-1) else RK rk xs k:=by
 have e:=getElem?_bubble hs d hd k
 by_cases c1:k=src-d
 ·rw[if_pos c1] at e ⊢;exact DT e
 ·rw[if_neg c1] at e ⊢
  by_cases c2:src-d<k∧k≤src
  ·rw[if_pos c2] at e ⊢;exact DT e
  ·rw[if_neg c2] at e ⊢;exact DT e
section
variable{prog:Program}{w:World}{A:js}{E:Value→c9→Prop}{s:c9}{kd:oB}{U:Keyed→Prop}
theorem BY{st:kc}{i j:Nat}{Q:Option Bool→kc→Prop}(C:Qx prog w A E s kd U rk)(hk:kindOf st=kd)(hU:AllU U (arrOf st))(hi:i< (arrOf st).size)(hj:j< (arrOf st).size)
  (h:Q (some (decide (RK rk (arrOf st) i<RK rk (arrOf st) j))) st):wpS (model prog w) A E s (ltAt' i j) Q st:=by
 rw[ltAt'_eq]
 refine ja (pE ?_)
 refine ja (Aa hi ?_)
 refine ja (Aa hj ?_)
 rw[BI hi,BI hj] at h
 exact C _ _ _ _ hk (hU _ _ (getElem?_pos (arrOf st) _ hi)) (hU _ _ (getElem?_pos (arrOf st) _ hj)) h
theorem NI{st:kc}{lo n ok:Nat}{Q:Bool→kc→Prop}(C:Qx prog w A E s kd U rk)(hk:kindOf st=kd)(hU:AllU U (arrOf st))(hn:lo+n≤(arrOf st).size)(hok:ok≤n)(hs:Seg rk (arrOf st) lo (lo+ok))
  (h:∀st',Kp st st' lo (lo+n)→Seg rk (arrOf st') lo (lo+n)→Q true st'):wpS (model prog w) A E s (binarySort' lo n ok) Q st:=by
 rw[binarySort'_eq]
 refine ja (lZ (kP (I:=fun k c st'=>c=(none,())∧Kp st st' lo (lo+n)∧Seg rk (arrOf st') lo (lo+min k n))
  (Q:=fun c st'=>c=(none,())∧Kp st st' lo (lo+n)∧Seg rk (arrOf st') lo (lo+n)) ?step ?fin ?init) ?post)
 case post=>
  rintro c st' ⟨rfl,hB',hs'⟩
  exact jj (h st' hB' hs')
 case init=>
  refine⟨rfl,Kp.refl _ _ _,fun i j hi hij hj=>?_⟩
  by_cases c1:ok=0
  ·have:i=j:=by omega
   subst this;exact me _
  ·exact hs i j hi hij (by omega)
 case fin=>
  rintro c st' ⟨hc,hB',hs'⟩
  refine⟨hc,hB',?_⟩
  have e:min (max (max ok 1) n) n=n:=by omega
  rwa[e] at hs'
 case step=>
  rintro k c st' hak hkn ⟨rfl,hB',hs'⟩
  have e:min k n=k:=by omega
  rw[e] at hs'
  have hz:=hB'.size
  have hks:lo+k< (arrOf st').size:=by omega
  have hU':=hU.of_perm hB'.perm
  refine ja (lZ (kP (I:=fun x c st''=>st''=st'∧∃l r,c=(none,l,r)∧l≤r∧r≤k∧r-l≤k-x∧
    (∀i,i<l→RK rk (arrOf st') (lo+i)≤RK rk (arrOf st') (lo+k))∧(∀i,r≤i→i<k→RK rk (arrOf st') (lo+k)<RK rk (arrOf st') (lo+i)))
   (Q:=fun c st''=>st''=st'∧∃l r,c=(none,l,r)∧l≤k∧
    (∀i,i<l→RK rk (arrOf st') (lo+i)≤RK rk (arrOf st') (lo+k))∧(∀i,l≤i→i<k→RK rk (arrOf st') (lo+k)<RK rk (arrOf st') (lo+i))) ?istep ?ifin ?iinit) ?ipost)
  case iinit=>exact⟨rfl,0,k,rfl,by omega,by omega,by omega,fun i hi=>by omega,fun i h1 h2=>by omega⟩
  case ifin=>
   rintro c st'' ⟨rfl,l,r,rfl,hlr,hrk,hm,hlo,hhi⟩
   have:l=r:=by omega
   subst this
   exact⟨rfl,l,l,rfl,hrk,hlo,hhi⟩
  case istep=>
   rintro x c st'' _ hxk ⟨rfl,l,r,rfl,hlr,hrk,hm,hlo,hhi⟩
   dsimp only
   by_cases hge:l≥r
   ·rw[if_pos hge]
    have:l=r:=by omega
    subst this
    exact jj ⟨rfl,l,l,rfl,hrk,hlo,hhi⟩
   ·rw[if_neg hge]
    refine ja (BY C (hB'.kd.trans hk) hU' hks (by omega) ?_)
    dsimp only
    by_cases hless:RK rk (arrOf st'') (lo+k)<RK rk (arrOf st'') (lo+(l+r)/2)
    ·rw[if_pos (decide_eq_true hless)]
     refine jj ⟨rfl,l,(l+r)/2,rfl,by omega,by omega,by omega,hlo,fun i q1 q2=>?_⟩
     exact Int.lt_of_lt_of_le hless (hs' _ _ (by omega) (by omega) (by omega))
    ·rw[if_neg (fun q=>hless (of_decide_eq_true q))]
     refine jj ⟨rfl,(l+r)/2+1,r,rfl,by omega,by omega,by omega,fun i q1=>?_,hhi⟩
     exact mY (hs' (lo+i) (lo+(l+r)/2) (by omega) (by omega) (by omega)) (Int.not_lt.mp hless)
  case ipost=>
   rintro c st'' ⟨rfl,l,r,rfl,hlk,hlo,hhi⟩
   show wpS _ _ _ _ (do moveDown' (lo+k) (lo+l);pure (mH (none,()))) _ _
   rw[moveDown'_eq]
   have ed:lo+k- (lo+l)=k-l:=by omega
   refine ja (nW (jj ⟨rfl,hB'.setA (Array.perm_iff_toList_perm.mp (bubble_perm _ _ _)) ?_,?_⟩))
   ·intro x hx
    rw[ed,getElem?_bubble hks _ (by omega),if_neg (by omega),if_neg (by omega)]
   have e2:lo+min (k+1) n=lo+k+1:=by omega
   rw[e2]
   intro i j hi hij hj
   show RK rk (bubble (arrOf st'') (lo+k) (lo+k- (lo+l))) i≤RK rk (bubble (arrOf st'') (lo+k) (lo+k- (lo+l))) j
   rw[ed,Iq hks (by omega),Iq hks (by omega)]
   have e3:lo+k- (k-l)=lo+l:=by omega
   rw[e3]
   have hlo':∀i,lo≤i→i<lo+l→RK rk (arrOf st'') i≤RK rk (arrOf st'') (lo+k):=fun i q1 q2=>by
    have:=hlo (i-lo) (by omega)
    have e4:lo+(i-lo)=i:=by omega
    rwa[e4] at this
   have hhi':∀i,lo+l≤i→i<lo+k→RK rk (arrOf st'') (lo+k)≤RK rk (arrOf st'') i:=fun i q1 q2=>by
    have:=hhi (i-lo) (by omega) (by omega)
    have e4:lo+(i-lo)=i:=by omega
    rw[e4] at this
    exact mZ this
   repeat' split
   all_goals first
    | (exfalso;omega)
    |exact me _
    |exact hlo' _ (by omega) (by omega)
    |exact hhi' _ (by omega) (by omega)
    |exact hs' _ _ (by omega) (by omega) (by omega)
end
local macro_rules | `(tactic| omega) => `(tactic| first | lia | omega)
open PySem PyProof.Rows
variable{rk:Keyed→Int}
noncomputable def Dsc(rk:Keyed→Int)(arr:Array Keyed)(lo hi:Nat):Prop:=∀x y,lo≤x→x≤y→y<hi→RK rk arr y≤RK rk arr x
theorem QQ{xs:Array Keyed}{i j:Nat}(hj:j≤xs.size)(k:Nat):RK rk (mirror xs i j ((j-i)/2)) k=if i≤k∧k<j then RK rk xs (i+j-1-k) else RK rk xs k:=by
 have e:=getElem?_mirror_all (i:=i) hj k
 by_cases c1:i≤k∧k<j
 ·rw[if_pos c1] at e ⊢;exact DT e
 ·rw[if_neg c1] at e ⊢;exact DT e
section
variable{prog:Program}{w:World}{A:js}{E:Value→c9→Prop}{s:c9}{kd:oB}{U:Keyed→Prop}
theorem Ej{st0 st:kc}{lo hi i j:Nat}{Q:Unit→kc→Prop}(k:Kp st0 st lo hi)(h1:lo≤i)(h2:j≤hi)(hj:j≤(arrOf st).size)
  (h:∀st',Kp st0 st' lo hi→(∀k,RK rk (arrOf st') k=if i≤k∧k<j then RK rk (arrOf st) (i+j-1-k) else RK rk (arrOf st) k)→Q () st'):wpS (model prog w) A E s (reverseSlice' i j) Q st:=by
 rw[reverseSlice'_eq]
 refine nW (h _ (k.setA (Array.perm_iff_toList_perm.mp (mirror_perm _ _ _ _)) fun x hx=>?_) fun k=>QQ hj k)
 rw[getElem?_mirror_all hj,if_neg (by omega)]
theorem DU{st0 st:kc}{lo hi i j:Nat}{Q:Unit→kc→Prop}(k:Kp st0 st lo hi)(h1:lo≤i)(h2:j≤hi)(hj:j≤(arrOf st).size)(heq:∀k,i≤k→k<j→RK rk (arrOf st) k=RK rk (arrOf st) (j-1))
  (h:∀st',Kp st0 st' lo hi→(∀k,RK rk (arrOf st') k=RK rk (arrOf st) k)→Q () st'):wpS (model prog w) A E s (reverseSlice' i j) Q st:=by
 refine Ej (rk:=rk) k h1 h2 hj fun st' k' e=>h st' k' fun x=>?_
 rw[e x]
 split
 ·rw[heq _ (by omega) (by omega),heq x (by omega) (by omega)]
 ·rfl
theorem Seg.up{arr:Array Keyed}{lo n:Nat}(sg:Seg rk arr lo (lo+n))(h1:1≤n)(hx:¬RK rk arr (lo+n)<RK rk arr (lo+n-1)):Seg rk arr lo (lo+(n+1)):=fun i j hi hij hj=>by
 by_cases c:j<lo+n
 ·exact sg i j hi hij c
 ·have e:j=lo+n:=by omega
  subst e
  by_cases c2:i=lo+n
  ·subst c2;exact me _
  ·exact mY (sg i (lo+n-1) hi (by omega) (by omega)) (Int.not_lt.mp hx)
theorem Dsc.up{arr arr':Array Keyed}{lo n:Nat}(sg:Dsc rk arr lo (lo+n))(h1:1≤n)(hx:RK rk arr (lo+n)≤RK rk arr (lo+n-1))(he:∀k,RK rk arr' k=RK rk arr k):Dsc rk arr' lo (lo+(n+1)):=fun i j hi hij hj=>by
 rw[he,he]
 by_cases c:j<lo+n
 ·exact sg i j hi hij c
 ·have e:j=lo+n:=by omega
  subst e
  by_cases c2:i=lo+n
  ·subst c2;exact me _
  ·exact mY hx (sg i (lo+n-1) hi (by omega) (by omega))
theorem NJ{st:kc}{lo nrem:Nat}{Q:Option Nat→kc→Prop}(C:Qx prog w A E s kd U rk)(hk:kindOf st=kd)(hU:AllU U (arrOf st))(hn:lo+nrem≤(arrOf st).size)(h1:1≤nrem)
  (h:∀m st',Kp st st' lo (lo+nrem)→1≤m→m≤nrem→Seg rk (arrOf st') lo (lo+m)→Q (some m) st'):
  wpS (model prog w) A E s (countRun' lo nrem) Q st:=by
 rw[countRun'_eq]
 refine ja (lZ (kP (I:=fun x c st'=>st'=st∧c=(none,x)∧Seg rk (arrOf st) lo (lo+x))
  (Q:=fun c st'=>st'=st∧∃n,c=(none,n)∧1≤n∧n≤nrem∧Seg rk (arrOf st) lo (lo+n)∧(n=nrem∨RK rk (arrOf st) (lo+n)<RK rk (arrOf st) (lo+n-1))) ?step ?fin ⟨rfl,rfl,fun i j hi hij hj=>by have:i=j:=(by omega);subst this;exact me _⟩) ?post)
 case fin=>
  rintro c st' ⟨rfl,rfl,hs'⟩
  have e:max 1 nrem=nrem:=by omega
  rw[e] at hs' ⊢
  exact⟨rfl,nrem,rfl,h1,jb _,hs',.inl rfl⟩
 case step=>
  rintro x c st' hax hxn ⟨rfl,rfl,hs'⟩
  dsimp only
  refine ja (BY C hk hU (by omega) (by omega) ?_)
  dsimp only
  by_cases hless:RK rk (arrOf st') (lo+x)<RK rk (arrOf st') (lo+x-1)
  ·rw[if_pos (decide_eq_true hless)]
   exact jj ⟨rfl,x,rfl,hax,by omega,hs',.inr hless⟩
  ·rw[if_neg (fun q=>hless (of_decide_eq_true q))]
   exact jj ⟨rfl,rfl,hs'.up hax hless⟩
 case post=>
  rintro c st' ⟨rfl,n,rfl,hn1,hn2,hsn,hor⟩
  dsimp only
  by_cases hnn:n=nrem
  ·rw[if_pos (beq_iff_eq.mpr hnn)]
   exact jj (h n _ (Kp.refl _ _ _) hn1 hn2 hsn)
  rw[if_neg (fun q=>hnn (beq_iff_eq.mp q))]
  have hlt:=hor.resolve_left hnn
  by_cases hgt:n>1
  ·rw[if_pos hgt]
   refine ja (BY C hk hU (by omega) (by omega) ?_)
   dsimp only
   by_cases hrose:RK rk (arrOf st') lo<RK rk (arrOf st') (lo+n-1)
   ·rw[if_pos (decide_eq_true hrose)]
    exact jj (h n _ (Kp.refl _ _ _) hn1 hn2 hsn)
   rw[if_neg (fun q=>hrose (of_decide_eq_true q))]
   have hall:∀k,lo≤k→k<lo+n→RK rk (arrOf st') k=RK rk (arrOf st') (lo+n-1):=fun k q1 q2=>by
    have a1:=hsn lo k (by omega) q1 q2
    have a2:=hsn k (lo+n-1) q1 (by omega) (by omega)
    omega
   refine ja (DU (rk:=rk) (Kp.refl st' lo (lo+nrem)) (jb _) (by omega) (by omega) hall fun st2 kp hRK=>?_)
   have hd:Dsc rk (arrOf st2) lo (lo+(n+1)):=Dsc.up (arr:=arrOf st') (fun i j q1 q2 q3=>by rw[hall i q1 (by omega),hall j (by omega) q3];exact me _) hn1 (mZ hlt) hRK
   refine ja (qB (mT ⟨rfl,?_⟩))
   refine ja (lZ (kP (I:=fun x c st3=>∃neq,c=(none,x,neq)∧Kp st' st3 lo (lo+nrem)∧Dsc rk (arrOf st3) lo (lo+x)∧neq+1≤x∧(∀i,lo+x- (neq+1)≤i→i<lo+x→RK rk (arrOf st3) i=RK rk (arrOf st3) (lo+x-1)))
    (Q:=fun c st3=>∃m neq,c=(none,m,neq)∧Kp st' st3 lo (lo+nrem)∧n+1≤m∧m≤nrem∧Dsc rk (arrOf st3) lo (lo+m)∧neq+1≤m∧(∀i,lo+m- (neq+1)≤i→i<lo+m→RK rk (arrOf st3) i=RK rk (arrOf st3) (lo+m-1))) ?_ ?_ ⟨0,rfl,kp,hd,by omega,fun i q1 q2=>by congr 1;omega⟩) ?_)
   ·rintro x c st3 hax hxn ⟨neq,rfl,kp,hd,hq,he⟩
    have hz:=kp.size
    have hU3:=hU.of_perm kp.perm
    dsimp only
    refine ja (BY C (kp.kd.trans hk) hU3 (by omega) (by omega) ?_)
    dsimp only
    by_cases hless:RK rk (arrOf st3) (lo+x)<RK rk (arrOf st3) (lo+x-1)
    ·rw[if_pos (decide_eq_true hless)]
     by_cases hneq:neq>0
     ·rw[if_pos hneq]
      refine ja (DU (rk:=rk) kp (by omega) (by omega) (by omega) he fun st4 kp4 hRK=>?_)
      exact jj ⟨0,rfl,kp4,hd.up (by omega) (mZ hless) hRK,by omega,fun i q1 q2=>by congr 1;omega⟩
     ·rw[if_neg hneq]
      exact jj ⟨0,rfl,kp,hd.up (by omega) (mZ hless) fun _=>rfl,by omega,fun i q1 q2=>by congr 1;omega⟩
    ·rw[if_neg (fun q=>hless (of_decide_eq_true q))]
     refine ja (BY C (kp.kd.trans hk) hU3 (by omega) (by omega) ?_)
     dsimp only
     by_cases hlarger:RK rk (arrOf st3) (lo+x-1)<RK rk (arrOf st3) (lo+x)
     ·rw[if_pos (decide_eq_true hlarger)]
      exact jj ⟨x,neq,rfl,kp,hax,by omega,hd,hq,he⟩
     ·rw[if_neg (fun q=>hlarger (of_decide_eq_true q))]
      have heqx:RK rk (arrOf st3) (lo+x)=RK rk (arrOf st3) (lo+x-1):=by omega
      refine jj ⟨neq+1,rfl,kp,hd.up (by omega) (by omega) fun _=>rfl,by omega,fun i q1 q2=>?_⟩
      have e1:lo+(x+1)-1=lo+x:=by omega
      rw[e1]
      by_cases hix:i=lo+x
      ·rw[hix]
      ·rw[heqx];exact he i (by omega) (by omega)
   ·rintro c st3 ⟨neq,rfl,kp,hd,hq,he⟩
    have e:max (n+1) nrem=nrem:=by omega
    rw[e] at hd hq he ⊢
    exact⟨nrem,neq,rfl,kp,by omega,jb _,hd,hq,he⟩
   rintro c st3 ⟨m,neq,rfl,kp,hm1,hm2,hd,hq,he⟩
   have hz:=kp.size
   dsimp only
   have rest:∀(st4:kc),Kp st' st4 lo (lo+nrem)→Dsc rk (arrOf st4) lo (lo+m)→∀st5,Kp st' st5 lo (lo+nrem)→(∀k,RK rk (arrOf st5) k=if lo≤k∧k<lo+m then RK rk (arrOf st4) (lo+(lo+m)-1-k) else RK rk (arrOf st4) k)→Seg rk (arrOf st5) lo (lo+m):=fun st4 _ d4 st5 _ e5 i j q1 q2 q3=>by
    rw[e5,e5,if_pos (by omega),if_pos (by omega)]
    exact d4 _ _ (by omega) (by omega) (by omega)
   by_cases hneq:neq>0
   ·rw[if_pos hneq]
    refine ja (DU (rk:=rk) kp (by omega) (by omega) (by omega) he fun st4 kp4 hRK=>?_)
    have d4:Dsc rk (arrOf st4) lo (lo+m):=fun i j q1 q2 q3=>by rw[hRK,hRK];exact hd i j q1 q2 q3
    have hz4:=kp4.size
    refine ja (Ej (rk:=rk) kp4 (jb _) (by omega) (by omega) fun st5 kp5 e5=>?_)
    have s5:=rest _ kp4 d4 st5 kp5 e5
    have hz5:=kp5.size
    have hU5:=hU.of_perm kp5.perm
    refine ja (lZ (kP (I:=fun x c st6=>st6=st5∧c=(none,x)∧Seg rk (arrOf st5) lo (lo+x))
     (Q:=fun c st6=>st6=st5∧∃n,c=(none,n)∧1≤n∧n≤nrem∧Seg rk (arrOf st5) lo (lo+n)) ?_ ?_ ⟨rfl,rfl,s5⟩) ?_)
    ·rintro x c st6 hax hxn ⟨rfl,rfl,hs'⟩
     dsimp only
     refine ja (BY C (kp5.kd.trans hk) hU5 (by omega) (by omega) ?_)
     dsimp only
     by_cases hless:RK rk (arrOf st6) (lo+x)<RK rk (arrOf st6) (lo+x-1)
     ·rw[if_pos (decide_eq_true hless)]
      exact jj ⟨rfl,x,rfl,by omega,by omega,hs'⟩
     ·rw[if_neg (fun q=>hless (of_decide_eq_true q))]
      exact jj ⟨rfl,rfl,hs'.up (by omega) hless⟩
    ·rintro c st6 ⟨rfl,rfl,hs'⟩
     have e:max m nrem=nrem:=by omega
     rw[e] at hs' ⊢
     exact⟨rfl,nrem,rfl,h1,jb _,hs'⟩
    rintro c st6 ⟨rfl,n5,rfl,q1,q2,q3⟩
    exact jj (h n5 _ kp5 q1 q2 q3)
   ·rw[if_neg hneq]
    have kp4:=kp
    have d4:=hd
    have hz4:=hz
    refine ja (Ej (rk:=rk) kp4 (jb _) (by omega) (by omega) fun st5 kp5 e5=>?_)
    have s5:=rest _ kp4 d4 st5 kp5 e5
    have hz5:=kp5.size
    have hU5:=hU.of_perm kp5.perm
    refine ja (lZ (kP (I:=fun x c st6=>st6=st5∧c=(none,x)∧Seg rk (arrOf st5) lo (lo+x))
     (Q:=fun c st6=>st6=st5∧∃n,c=(none,n)∧1≤n∧n≤nrem∧Seg rk (arrOf st5) lo (lo+n)) ?_ ?_ ⟨rfl,rfl,s5⟩) ?_)
    ·rintro x c st6 hax hxn ⟨rfl,rfl,hs'⟩
     dsimp only
     refine ja (BY C (kp5.kd.trans hk) hU5 (by omega) (by omega) ?_)
     dsimp only
     by_cases hless:RK rk (arrOf st6) (lo+x)<RK rk (arrOf st6) (lo+x-1)
     ·rw[if_pos (decide_eq_true hless)]
      exact jj ⟨rfl,x,rfl,by omega,by omega,hs'⟩
     ·rw[if_neg (fun q=>hless (of_decide_eq_true q))]
      exact jj ⟨rfl,rfl,hs'.up (by omega) hless⟩
    ·rintro c st6 ⟨rfl,rfl,hs'⟩
     have e:max m nrem=nrem:=by omega
     rw[e] at hs' ⊢
     exact⟨rfl,nrem,rfl,h1,jb _,hs'⟩
    rintro c st6 ⟨rfl,n5,rfl,q1,q2,q3⟩
    exact jj (h n5 _ kp5 q1 q2 q3)
  ·rw[if_neg hgt]
   have hd:Dsc rk (arrOf st') lo (lo+(n+1)):=Dsc.up (arr:=arrOf st') (fun i j q1 q2 q3=>by have:i=j:=(by omega);subst this;exact me _) hn1 (mZ hlt) fun _=>rfl
   have kp:=Kp.refl st' lo (lo+nrem)
   refine ja (qB (mT ⟨rfl,?_⟩))
   refine ja (lZ (kP (I:=fun x c st3=>∃neq,c=(none,x,neq)∧Kp st' st3 lo (lo+nrem)∧Dsc rk (arrOf st3) lo (lo+x)∧neq+1≤x∧(∀i,lo+x- (neq+1)≤i→i<lo+x→RK rk (arrOf st3) i=RK rk (arrOf st3) (lo+x-1)))
    (Q:=fun c st3=>∃m neq,c=(none,m,neq)∧Kp st' st3 lo (lo+nrem)∧n+1≤m∧m≤nrem∧Dsc rk (arrOf st3) lo (lo+m)∧neq+1≤m∧(∀i,lo+m- (neq+1)≤i→i<lo+m→RK rk (arrOf st3) i=RK rk (arrOf st3) (lo+m-1))) ?_ ?_ ⟨0,rfl,kp,hd,by omega,fun i q1 q2=>by congr 1;omega⟩) ?_)
   ·rintro x c st3 hax hxn ⟨neq,rfl,kp,hd,hq,he⟩
    have hz:=kp.size
    have hU3:=hU.of_perm kp.perm
    dsimp only
    refine ja (BY C (kp.kd.trans hk) hU3 (by omega) (by omega) ?_)
    dsimp only
    by_cases hless:RK rk (arrOf st3) (lo+x)<RK rk (arrOf st3) (lo+x-1)
    ·rw[if_pos (decide_eq_true hless)]
     by_cases hneq:neq>0
     ·rw[if_pos hneq]
      refine ja (DU (rk:=rk) kp (by omega) (by omega) (by omega) he fun st4 kp4 hRK=>?_)
      exact jj ⟨0,rfl,kp4,hd.up (by omega) (mZ hless) hRK,by omega,fun i q1 q2=>by congr 1;omega⟩
     ·rw[if_neg hneq]
      exact jj ⟨0,rfl,kp,hd.up (by omega) (mZ hless) fun _=>rfl,by omega,fun i q1 q2=>by congr 1;omega⟩
    ·rw[if_neg (fun q=>hless (of_decide_eq_true q))]
     refine ja (BY C (kp.kd.trans hk) hU3 (by omega) (by omega) ?_)
     dsimp only
     by_cases hlarger:RK rk (arrOf st3) (lo+x-1)<RK rk (arrOf st3) (lo+x)
     ·rw[if_pos (decide_eq_true hlarger)]
      exact jj ⟨x,neq,rfl,kp,hax,by omega,hd,hq,he⟩
     ·rw[if_neg (fun q=>hlarger (of_decide_eq_true q))]
      have heqx:RK rk (arrOf st3) (lo+x)=RK rk (arrOf st3) (lo+x-1):=by omega
      refine jj ⟨neq+1,rfl,kp,hd.up (by omega) (by omega) fun _=>rfl,by omega,fun i q1 q2=>?_⟩
      have e1:lo+(x+1)-1=lo+x:=by omega
      rw[e1]
      by_cases hix:i=lo+x
      ·rw[hix]
      ·rw[heqx];exact he i (by omega) (by omega)
   ·rintro c st3 ⟨neq,rfl,kp,hd,hq,he⟩
    have e:max (n+1) nrem=nrem:=by omega
    rw[e] at hd hq he ⊢
    exact⟨nrem,neq,rfl,kp,by omega,jb _,hd,hq,he⟩
   rintro c st3 ⟨m,neq,rfl,kp,hm1,hm2,hd,hq,he⟩
   have hz:=kp.size
   dsimp only
   have rest:∀(st4:kc),Kp st' st4 lo (lo+nrem)→Dsc rk (arrOf st4) lo (lo+m)→∀st5,Kp st' st5 lo (lo+nrem)→(∀k,RK rk (arrOf st5) k=if lo≤k∧k<lo+m then RK rk (arrOf st4) (lo+(lo+m)-1-k) else RK rk (arrOf st4) k)→Seg rk (arrOf st5) lo (lo+m):=fun st4 _ d4 st5 _ e5 i j q1 q2 q3=>by
    rw[e5,e5,if_pos (by omega),if_pos (by omega)]
    exact d4 _ _ (by omega) (by omega) (by omega)
   by_cases hneq:neq>0
   ·rw[if_pos hneq]
    refine ja (DU (rk:=rk) kp (by omega) (by omega) (by omega) he fun st4 kp4 hRK=>?_)
    have d4:Dsc rk (arrOf st4) lo (lo+m):=fun i j q1 q2 q3=>by rw[hRK,hRK];exact hd i j q1 q2 q3
    have hz4:=kp4.size
    refine ja (Ej (rk:=rk) kp4 (jb _) (by omega) (by omega) fun st5 kp5 e5=>?_)
    have s5:=rest _ kp4 d4 st5 kp5 e5
    have hz5:=kp5.size
    have hU5:=hU.of_perm kp5.perm
    refine ja (lZ (kP (I:=fun x c st6=>st6=st5∧c=(none,x)∧Seg rk (arrOf st5) lo (lo+x))
     (Q:=fun c st6=>st6=st5∧∃n,c=(none,n)∧1≤n∧n≤nrem∧Seg rk (arrOf st5) lo (lo+n)) ?_ ?_ ⟨rfl,rfl,s5⟩) ?_)
    ·rintro x c st6 hax hxn ⟨rfl,rfl,hs'⟩
     dsimp only
     refine ja (BY C (kp5.kd.trans hk) hU5 (by omega) (by omega) ?_)
     dsimp only
     by_cases hless:RK rk (arrOf st6) (lo+x)<RK rk (arrOf st6) (lo+x-1)
     ·rw[if_pos (decide_eq_true hless)]
      exact jj ⟨rfl,x,rfl,by omega,by omega,hs'⟩
     ·rw[if_neg (fun q=>hless (of_decide_eq_true q))]
      exact jj ⟨rfl,rfl,hs'.up (by omega) hless⟩
    ·rintro c st6 ⟨rfl,rfl,hs'⟩
     have e:max m nrem=nrem:=by omega
     rw[e] at hs' ⊢
     exact⟨rfl,nrem,rfl,h1,jb _,hs'⟩
    rintro c st6 ⟨rfl,n5,rfl,q1,q2,q3⟩
    exact jj (h n5 _ kp5 q1 q2 q3)
   ·rw[if_neg hneq]
    have kp4:=kp
    have d4:=hd
    have hz4:=hz
    refine ja (Ej (rk:=rk) kp4 (jb _) (by omega) (by omega) fun st5 kp5 e5=>?_)
    have s5:=rest _ kp4 d4 st5 kp5 e5
    have hz5:=kp5.size
    have hU5:=hU.of_perm kp5.perm
    refine ja (lZ (kP (I:=fun x c st6=>st6=st5∧c=(none,x)∧Seg rk (arrOf st5) lo (lo+x))
     (Q:=fun c st6=>st6=st5∧∃n,c=(none,n)∧1≤n∧n≤nrem∧Seg rk (arrOf st5) lo (lo+n)) ?_ ?_ ⟨rfl,rfl,s5⟩) ?_)
    ·rintro x c st6 hax hxn ⟨rfl,rfl,hs'⟩
     dsimp only
     refine ja (BY C (kp5.kd.trans hk) hU5 (by omega) (by omega) ?_)
     dsimp only
     by_cases hless:RK rk (arrOf st6) (lo+x)<RK rk (arrOf st6) (lo+x-1)
     ·rw[if_pos (decide_eq_true hless)]
      exact jj ⟨rfl,x,rfl,by omega,by omega,hs'⟩
     ·rw[if_neg (fun q=>hless (of_decide_eq_true q))]
      exact jj ⟨rfl,rfl,hs'.up (by omega) hless⟩
    ·rintro c st6 ⟨rfl,rfl,hs'⟩
     have e:max m nrem=nrem:=by omega
     rw[e] at hs' ⊢
     exact⟨rfl,nrem,rfl,h1,jb _,hs'⟩
    rintro c st6 ⟨rfl,n5,rfl,q1,q2,q3⟩
    exact jj (h n5 _ kp5 q1 q2 q3)
end
end SrtG
namespace SrtG
local macro_rules | `(tactic| omega) => `(tactic| first | lia | omega)
open PySem PyProof.Rows
variable{rk:Keyed→Int}
noncomputable abbrev Rz:=Nat×Nat×Nat
noncomputable def Cov(rk:Keyed→Int)(arr:Array Keyed):Nat→List Rz→Nat→Prop
 |a,[],hi=>a=hi
 |a,e::l,hi=>e.1=a∧0<e.2.1∧Seg rk arr a (a+e.2.1)∧Cov rk arr (a+e.2.1) l hi
theorem Cov.le{arr:Array Keyed}:∀{l:List Rz} {a hi:Nat},Cov rk arr a l hi→a+l.length≤hi
 | [],a,hi,h=>by have:a=hi:=h;simp only[lB];omega
 |e::l,a,hi,h=>by have:=Cov.le h.2.2.2;have:=h.2.1;rw[jm];omega
theorem Cov.app{arr:Array Keyed}:∀{l1:List Rz} {l2:List Rz} {a hi:Nat},Cov rk arr a (l1++l2) hi↔∃m,Cov rk arr a l1 m∧Cov rk arr m l2 hi
 | [],l2,a,hi=> ⟨fun h=> ⟨a,rfl,h⟩,fun⟨m,h1,h2⟩=>by have:a=m:=h1;subst this;exact h2⟩
 |e::l1,l2,a,hi=> ⟨fun⟨h1,h2,h3,h4⟩=>by
   obtain⟨m,q1,q2⟩:=Cov.app.mp h4
   exact⟨m,⟨h1,h2,h3,q1⟩,q2⟩,fun⟨m,⟨h1,h2,h3,h4⟩,q2⟩=> ⟨h1,h2,h3,Cov.app.mpr ⟨m,h4,q2⟩⟩⟩
theorem Cov.cong{arr arr':Array Keyed}:∀{l:List Rz} {a hi:Nat},(∀x,a≤x→x<hi→RK rk arr' x=RK rk arr x)→Cov rk arr a l hi→Cov rk arr' a l hi
 | [],_,_,_,h=>h
 |e::l,a,hi,hx,⟨h1,h2,h3,h4⟩=>by
  have hl:=h4.le
  exact⟨h1,h2,fun x y q1 q2 q3=>by rw[hx x q1 (by omega),hx y (by omega) (by omega)];exact h3 x y q1 q2 q3,h4.cong fun x q1 q2=>hx x (by omega) q2⟩
theorem ZG{p:Array Rz}{i:Nat}(h:i+1<p.size):∃l1 e1 e2 l2,p.toList=l1++e1::e2::l2∧l1.length=i∧p[i]?=some e1∧p[i+1]?=some e2:=by
 have hl:p.toList.length=p.size:=jg
 have h1:i<p.toList.length:=by omega
 have h2:i+1<p.toList.length:=by omega
 refine⟨p.toList.take i,p.toList[i],p.toList[i+1],p.toList.drop (i+2),?_,?_,?_,?_⟩
 ·rw[←mJ h2,←mJ h1,kU]
 ·rw[j8];omega
 ·rw[←kl];exact i8 h1
 ·rw[←kl];exact i8 h2
theorem ZH{p:Array Rz}{i:Nat}{e e1 e2:Rz}{l1 l2:List Rz}(hp:p.toList=l1++e1::e2::l2)(hl:l1.length=i):((p.setIfInBounds i e).eraseIdxIfInBounds (i+1)).toList=l1++e::l2:=by
 have hz:i+1<p.size:=by
  rw[←jg,hp,jf,jm,jm];omega
 have hz':i+1< (p.setIfInBounds i e).size:=by rw[Array.size_setIfInBounds];exact hz
 unfold Array.eraseIdxIfInBounds
 rw[dif_pos hz',Array.toList_eraseIdx,Array.toList_setIfInBounds,hp]
 subst hl
 rw[List.set_append_right _ _ (jb _),sX,List.set_cons_zero,List.eraseIdx_append_of_length_le (by omega)]
 have e:l1.length+1-l1.length=1:=by omega
 rw[e]
 rfl
structure Bs(kd:oB)(a₀:Array Keyed)(st:kc):Prop where
 kd:kindOf st=kd
 fl:nT st=none
 perm:(arrOf st).toList.Perm a₀.toList
theorem Bs.size{kd:oB}{a₀:Array Keyed}{st:kc}(b:Bs kd a₀ st):(arrOf st).size=a₀.size:=by
 rw[←jg,←jg];exact b.perm.length_eq
theorem Bs.kp{kd:oB}{a₀:Array Keyed}{st st':kc}{lo hi:Nat}(b:Bs kd a₀ st)(k:Kp st st' lo hi):Bs kd a₀ st':=⟨k.kd.trans b.kd,k.fl.trans b.fl,k.perm.trans b.perm⟩
section
variable{prog:Program}{w:World}{A:js}{E:Value→c9→Prop}{s:c9}{kd:oB}{U:Keyed→Prop}{a₀:Array Keyed}
theorem EH{i hi:Nat}{st:kc}{Q:Bool→kc→Prop}(C:Qx prog w A E s kd U rk)(hU:AllU U a₀)(b:Bs kd a₀ st)(hc:Cov rk (arrOf st) 0 (pendingOf st).toList hi)(hhi:hi≤a₀.size)(hi1:i+1< (pendingOf st).size)
  (h:∀st',Bs kd a₀ st'→Cov rk (arrOf st') 0 (pendingOf st').toList hi→(pendingOf st').size+1=(pendingOf st).size→(∀x,hi≤x→RK rk (arrOf st') x=RK rk (arrOf st) x)→Q true st'):wpS (model prog w) A E s (mergeAt' i) Q st:=by
 obtain⟨l1,⟨s1,n1,p1⟩,⟨s2,n2,p2⟩,l2,hp,hl,e1,e2⟩:=ZG hi1
 have hc0:=hc
 rw[hp] at hc0
 obtain⟨m,c1,q1,q2,q3,q4,q5,q6,q7⟩:=Cov.app.mp hc0
 dsimp only at q1 q2 q3 q4 q5 q6 q7
 subst q1
 have hle:=q7.le
 have hz:=b.size
 refine LY C b.kd (hU.of_perm b.perm) b.fl e1 e2 q4 q2 q5 (by omega) (by rw[q4];exact q3) (by rw[q4];exact q6) fun st' k1 k2 k3 u=>?_
 have hj:=ZH (e:=(s1,n1+n2,p1)) hp hl
 have c1le:=c1.le
 refine h st' ⟨k1,k2,u.perm.trans b.perm⟩ ?_ ?_ ?_
 ·rw[k3,hj]
  refine Cov.app.mpr ⟨s1,c1.cong fun x _ hx=>CY (u.out x (.inl hx)),rfl,by show 0<n1+n2;omega,?_,?_⟩
  ·show Seg rk (arrOf st') s1 (s1+(n1+n2))
   have:=u.seg
   rw[q4,sG] at this
   exact this
  ·show Cov rk (arrOf st') (s1+(n1+n2)) l2 hi
   rw[←sG]
   exact q7.cong fun x hx _=>CY (u.out x (.inr (by omega)))
 ·rw[←jg,←jg,k3,hj,hp,jf,jf,jm,jm,jm]
  omega
 ·intro x hx
  exact CY (u.out x (.inr (by omega)))
end
end SrtG
namespace SrtG
local macro_rules | `(tactic| omega) => `(tactic| first | lia | omega)
open PySem PyProof.Rows
variable{rk:Keyed→Int}
theorem Cov.shape{arr:Array Keyed}:∀{l l':List Rz} {a hi:Nat},l'.map (fun e=> (e.1,e.2.1))=l.map (fun e=> (e.1,e.2.1))→Cov rk arr a l hi→Cov rk arr a l' hi
 | [],[],_,_,_,h=>h
 |e::l,e'::l',a,hi,hm,⟨h1,h2,h3,h4⟩=>by
  rw[jr,jr] at hm
  injection hm with hm1 hm2
  injection hm1 with q1 q2
  exact⟨q1.trans h1,by rw[q2];exact h2,by rw[q2];exact h3,by rw[q2];exact h4.shape hm2⟩
 | [],_::_,_,_,hm,_=>by cases hm
 |_::_,[],_,_,hm,_=>by cases hm
theorem Cov.power{arr:Array Keyed}{p:Array Rz}{i pw hi:Nat}(h:Cov rk arr 0 p.toList hi):Cov rk arr 0 (p.modify i fun e=> (e.1,e.2.1,pw)).toList hi:=by
 refine h.shape ?_
 apply lH
 intro j
 rw[e9,e9,kl,kl,Array.getElem?_modify]
 split
 ·cases p[j]?<;>rfl
 ·rfl
section
variable{prog:Program}{w:World}{A:js}{E:Value→c9→Prop}{s:c9}{kd:oB}{U:Keyed→Prop}{a₀:Array Keyed}
theorem SA{st:kc}{Q:Unit→kc→Prop}(C:Qx prog w A E s kd U rk)(hU:AllU U a₀)(b:Bs kd a₀ st)(hp:pendingOf st= #[])
  (h:∀st',Bs kd a₀ st'→FU rk (arrOf st')→Q () st'):wpS (model prog w) A E s sortRuns' Q st:=by
 rw[sortRuns'_eq]
 refine ja (pE ?_)
 dsimp only
 have hz:=b.size
 refine ja (lZ (kP
  (I:=fun x c st'=>∃lo,c=(none,lo)∧x≤lo∧lo≤(arrOf st).size∧Bs kd a₀ st'∧Cov rk (arrOf st') 0 (pendingOf st').toList lo)
  (Q:=fun c st'=>c.1=none∧Bs kd a₀ st'∧Cov rk (arrOf st') 0 (pendingOf st').toList (arrOf st).size) ?step ?fin ⟨0,rfl,jb _,kN _,b,by rw[hp];rfl⟩) ?post)
 case fin=>
  rintro c st' ⟨lo,rfl,h1,h2,bs,cv⟩
  have e:lo=(arrOf st).size:=by omega
  subst e
  exact⟨rfl,bs,cv⟩
 case step=>
  rintro x c st1 _ hx ⟨lo,rfl,h1,h2,bs,cv⟩
  dsimp only
  have hz1:=bs.size
  by_cases cl:lo≥(arrOf st).size
  ·rw[if_pos cl]
   have e:lo=(arrOf st).size:=by omega
   subst e
   exact jj ⟨rfl,bs,cv⟩
  rw[if_neg cl]
  have nextOf:∀(st3:kc) (n:Nat),Bs kd a₀ st3→Cov rk (arrOf st3) 0 (pendingOf st3).toList lo→0<n→lo+n≤(arrOf st).size→Seg rk (arrOf st3) lo (lo+n)→∀{c:Option PUnit×Nat},c=(none,lo+n)→∃lo',c=(none,lo')∧x+1≤lo'∧lo'≤(arrOf st).size∧Bs kd a₀ (qC st3 ((pendingOf st3).push (lo,n,0)))∧Cov rk (arrOf (qC st3 ((pendingOf st3).push (lo,n,0)))) 0 (pendingOf (qC st3 ((pendingOf st3).push (lo,n,0)))).toList lo':=fun st3 n bs3 cv3 hpos hfit sg c hc=>by
   refine⟨lo+n,hc,by omega,hfit,⟨bs3.kd,bs3.fl,bs3.perm⟩,?_⟩
   show Cov rk (arrOf st3) 0 ((pendingOf st3).push (lo,n,0)).toList (lo+n)
   rw[nI]
   exact Cov.app.mpr ⟨lo,cv3,rfl,hpos,sg,rfl⟩
  refine ja (NJ C bs.kd (hU.of_perm bs.perm) (by omega) (by omega) fun n st2 kp2 hn1 hn2 sg2=>?_)
  have bs2:=bs.kp kp2
  have cv2:Cov rk (arrOf st2) 0 (pendingOf st2).toList lo:=by
   rw[kp2.pd]
   exact cv.cong fun x _ hx=>CY (kp2.out x (.inl hx))
  dsimp only
  by_cases cm:n<sq (arrOf st).size (arrOf st).size 0
  ·rw[if_pos cm]
   refine ja (qB (mT ⟨rfl,?_⟩))
   have hz2:=bs2.size
   refine ja (NI (n:=min ((arrOf st).size-lo) (sq (arrOf st).size (arrOf st).size 0)) C bs2.kd (hU.of_perm bs2.perm) (by omega) (by omega) sg2 fun st3 kp3 sg3=>?_)
   rw[if_neg (by decide)]
   have bs3:=bs2.kp kp3
   have cv3:Cov rk (arrOf st3) 0 (pendingOf st3).toList lo:=by
    rw[kp3.pd]
    exact cv2.cong fun x _ hx=>CY (kp3.out x (.inl hx))
   have hpos:0<min ((arrOf st).size-lo) (sq (arrOf st).size (arrOf st).size 0):=by omega
   have hfit:lo+min ((arrOf st).size-lo) (sq (arrOf st).size (arrOf st).size 0)≤(arrOf st).size:=by omega
   refine ja (pE ?_)
   cases hb:(pendingOf st3).back? with
   |none=>
    dsimp only
    exact ja (nW (jj (nextOf st3 _ bs3 cv3 hpos hfit sg3 rfl)))
   |some e=>
    obtain⟨s1,n1,p1⟩:=e
    dsimp only
    refine ja (lZ (kP (I:=fun _ c st4=>c=(none,())∧Bs kd a₀ st4∧Cov rk (arrOf st4) 0 (pendingOf st4).toList lo∧∀x,lo≤x→RK rk (arrOf st4) x=RK rk (arrOf st3) x)
     (Q:=fun c st4=>c=(none,())∧Bs kd a₀ st4∧Cov rk (arrOf st4) 0 (pendingOf st4).toList lo∧∀x,lo≤x→RK rk (arrOf st4) x=RK rk (arrOf st3) x) ?_ (fun _ _ q=>q) ⟨rfl,bs3,cv3,fun _ _=>rfl⟩) ?_)
    ·rintro y c st4 _ _ ⟨rfl,bs4,cv4,ou4⟩
     refine ja (pE ?_)
     by_cases cp:(pendingOf st4).size>1
     ·rw[if_pos cp]
      obtain⟨o1,o2,o3⟩:=(pendingOf st4)[(pendingOf st4).size-2]
      have hge:(pendingOf st4)[(pendingOf st4).size-2]?=some (pendingOf st4)[(pendingOf st4).size-2]:=getElem?_pos _ _ (by omega)
      rw[hge]
      dsimp only
      by_cases co:(pendingOf st4)[(pendingOf st4).size-2].2.2≤power' (arrOf st).size (2*s1+n1) (2*s1+n1+n1+min ((arrOf st).size-lo) (sq (arrOf st).size (arrOf st).size 0)) (arrOf st).size
      ·rw[if_pos co]
       exact jj ⟨rfl,bs4,cv4,ou4⟩
      ·rw[if_neg co]
       refine ja (EH C hU bs4 cv4 (by omega) (by omega) fun st5 bs5 cv5 _ ou5=>?_)
       rw[if_neg (by decide)]
       exact jj ⟨rfl,bs5,cv5,fun x hx=> (ou5 x hx).trans (ou4 x hx)⟩
     ·rw[if_neg cp]
      exact jj ⟨rfl,bs4,cv4,ou4⟩
    ·rintro c st4 ⟨rfl,bs4,cv4,ou4⟩
     dsimp only
     refine ja (nW ?_)
     refine ja (nW (jj ?_))
     have sg4:Seg rk (arrOf st4) lo (lo+min ((arrOf st).size-lo) (sq (arrOf st).size (arrOf st).size 0)):=fun i j q1 q2 q3=>by rw[ou4 i q1,ou4 j (by omega)];exact sg3 i j q1 q2 q3
     exact nextOf (qC st4 ((pendingOf st4).modify ((pendingOf st4).size-1) fun e=> (e.1,e.2.1,power' (arrOf st).size (2*s1+n1) (2*s1+n1+n1+min ((arrOf st).size-lo) (sq (arrOf st).size (arrOf st).size 0)) (arrOf st).size))) _ ⟨bs4.kd,bs4.fl,bs4.perm⟩ (Cov.power cv4) hpos hfit sg4 rfl
  ·rw[if_neg cm]
   have bs3:=bs2
   have cv3:=cv2
   have sg3:=sg2
   have hpos:0<n:=by omega
   have hfit:lo+n≤(arrOf st).size:=by omega
   refine ja (pE ?_)
   cases hb:(pendingOf st2).back? with
   |none=>
    dsimp only
    exact ja (nW (jj (nextOf st2 _ bs3 cv3 hpos hfit sg3 rfl)))
   |some e=>
    obtain⟨s1,n1,p1⟩:=e
    dsimp only
    refine ja (lZ (kP (I:=fun _ c st4=>c=(none,())∧Bs kd a₀ st4∧Cov rk (arrOf st4) 0 (pendingOf st4).toList lo∧∀x,lo≤x→RK rk (arrOf st4) x=RK rk (arrOf st2) x)
     (Q:=fun c st4=>c=(none,())∧Bs kd a₀ st4∧Cov rk (arrOf st4) 0 (pendingOf st4).toList lo∧∀x,lo≤x→RK rk (arrOf st4) x=RK rk (arrOf st2) x) ?_ (fun _ _ q=>q) ⟨rfl,bs3,cv3,fun _ _=>rfl⟩) ?_)
    ·rintro y c st4 _ _ ⟨rfl,bs4,cv4,ou4⟩
     refine ja (pE ?_)
     by_cases cp:(pendingOf st4).size>1
     ·rw[if_pos cp]
      obtain⟨o1,o2,o3⟩:=(pendingOf st4)[(pendingOf st4).size-2]
      have hge:(pendingOf st4)[(pendingOf st4).size-2]?=some (pendingOf st4)[(pendingOf st4).size-2]:=getElem?_pos _ _ (by omega)
      rw[hge]
      dsimp only
      by_cases co:(pendingOf st4)[(pendingOf st4).size-2].2.2≤power' (arrOf st).size (2*s1+n1) (2*s1+n1+n1+n) (arrOf st).size
      ·rw[if_pos co]
       exact jj ⟨rfl,bs4,cv4,ou4⟩
      ·rw[if_neg co]
       refine ja (EH C hU bs4 cv4 (by omega) (by omega) fun st5 bs5 cv5 _ ou5=>?_)
       rw[if_neg (by decide)]
       exact jj ⟨rfl,bs5,cv5,fun x hx=> (ou5 x hx).trans (ou4 x hx)⟩
     ·rw[if_neg cp]
      exact jj ⟨rfl,bs4,cv4,ou4⟩
    ·rintro c st4 ⟨rfl,bs4,cv4,ou4⟩
     dsimp only
     refine ja (nW ?_)
     refine ja (nW (jj ?_))
     have sg4:Seg rk (arrOf st4) lo (lo+n):=fun i j q1 q2 q3=>by rw[ou4 i q1,ou4 j (by omega)];exact sg3 i j q1 q2 q3
     exact nextOf (qC st4 ((pendingOf st4).modify ((pendingOf st4).size-1) fun e=> (e.1,e.2.1,power' (arrOf st).size (2*s1+n1) (2*s1+n1+n1+n) (arrOf st).size))) _ ⟨bs4.kd,bs4.fl,bs4.perm⟩ (Cov.power cv4) hpos hfit sg4 rfl
 case post=>
  rintro⟨c1,c2⟩ st1 ⟨e,bs,cv⟩
  cases e
  dsimp only
  have done:∀st',Bs kd a₀ st'→Cov rk (arrOf st') 0 (pendingOf st').toList (arrOf st).size→(pendingOf st').size≤1→FU rk (arrOf st'):=fun st' bs' cv' hl=>by
   have hz':=bs'.size
   intro i j hij hj
   rw[←jg] at hl
   revert cv' hl
   generalize (pendingOf st').toList=l
   intro cv' hl
   match l,cv',hl with
   | [],cv',_=>
    have:0=(arrOf st).size:=cv'
    omega
   | [e],cv',_=>
    obtain⟨q1,q2,q3,q4⟩:=cv'
    have:0+e.2.1=(arrOf st).size:=q4
    exact q3 i j (by omega) hij (by omega)
   |_::_::_,_,hl=>simp only[jm] at hl;omega
  have hlen:=cv.le
  rw[jg] at hlen
  refine ja (lZ (kP (I:=fun x c st'=>c=(none,())∧Bs kd a₀ st'∧Cov rk (arrOf st') 0 (pendingOf st').toList (arrOf st).size∧(pendingOf st').size+x≤(arrOf st).size)
   (Q:=fun c st'=>c=(none,())∧Bs kd a₀ st'∧Cov rk (arrOf st') 0 (pendingOf st').toList (arrOf st).size∧(pendingOf st').size≤1) ?_ ?_ ⟨rfl,bs,cv,by omega⟩) ?_)
  ·rintro x c st2 _ hx ⟨rfl,bs2,cv2,hm⟩
   refine ja (pE ?_)
   by_cases cp:(pendingOf st2).size≤1
   ·rw[if_pos cp]
    exact jj ⟨rfl,bs2,cv2,cp⟩
   ·rw[if_neg cp]
    refine ja (EH C hU bs2 cv2 (by omega) ?_ fun st5 bs5 cv5 hs5 _=>?_)
    ·split<;>split<;>omega
    ·rw[if_neg (by decide)]
     exact jj ⟨rfl,bs5,cv5,by omega⟩
  ·rintro c st2 ⟨rfl,bs2,cv2,hm⟩
   exact⟨rfl,bs2,cv2,by omega⟩
  ·rintro c st2 ⟨rfl,bs2,cv2,hm⟩
   exact jj (h _ bs2 (done _ bs2 cv2 hm))
end
end SrtG
namespace SrtG
open PySem PyProof.Rows
noncomputable def NK(h:Heap)(v:Value)(a b:Int):Prop:=∃x o t u n,v=.ref x∧h.get? x=some o∧o.data=.seq #[.int a t,.int b u] n
noncomputable def Uo(h:Heap)(k:Keyed):Int:=match k.1 with
  | .ref x=>match h.get? x with
    |some o=>match o.data with
     | .seq xs _=>match (xs[0]?:Option Value),(xs[1]?:Option Value) with
      |some (.int a _),some (.int b _)=>65536*a+b
      |_,_=>0
     |_=>0
    |_=>0
  |_=>0
theorem FV{h:Heap}{k:Keyed}{a b:Int}(p:NK h k.1 a b):Uo h k=65536*a+b:=by
 obtain⟨x,o,t,u,n,e1,e2,e3⟩:=p
 unfold Uo
 rw[e1]
 dsimp only
 rw[e2]
 dsimp only
 rw[e3]
 rfl
noncomputable def cT(h:Heap)(k:Keyed):Prop:=∃a b,NK h k.1 a b∧0≤b∧b<65536
variable{prog:Program}{w:World}{A:js}{E:Value→c9→Prop}{s:c9}
theorem QR:Qx prog w A E s (tuples' true) (cT s.heap) (Uo s.heap):=by
 intro st x y Q hk hx hy h
 obtain⟨a,b,px,b0,b1⟩:=hx
 obtain⟨c,d,py,d0,d1⟩:=hy
 rw[FV px,FV py] at h
 obtain⟨p,o,t,u,n,e1,e2,e3⟩:=px
 obtain⟨p',o',t',u',n',e1',e2',e3'⟩:=py
 rw[lt'_eq]
 refine ja (pE ?_)
 rw[hk,e1,e1']
 refine ja (qB (oj ?_))
 refine PySem.W.kat_lt e2 e3 e2' e3' ?_
 have fin:∀r:Bool,r=decide (65536*a+b<65536*c+d)→(s=s∧wpS (model prog w) A E s (match (Except.ok r:Except Value Bool) with
   | .ok b=>pure (some b)
   | .error e=>do
    modify (fun s=>rF (kindOf s) (arrOf s) (pendingOf s) (gallopOf s) (some e))
    pure none) Q st):=fun r hr=> ⟨rfl,by rw[hr];exact jj h⟩
 refine PySem.W.kat_cons (qY ?_)
 refine PySem.W.kat_go (fun e=>?_) (fun e=>?_)
 ·have e':=eq_of_beq e
  refine PySem.W.kat_yes (PySem.W.kat_cons (qY ?_))
  refine PySem.W.kat_go (fun q=>?_) (fun q=>?_)
  ·have q':=eq_of_beq q
   exact PySem.W.kat_yes (PySem.W.kat_nil (fin _ (by rw[e',q'];simp)))
  ·exact PySem.W.kat_no (PySem.W.kat_one _ _ (lt_int (fin _ (by congr 1;rw[e'];apply propext;constructor<;>intro<;>omega))))
 ·have e':a≠c:=fun q=>by rw[q] at e;simp at e
  refine PySem.W.kat_no (oneLt_int (fin _ ?_))
  congr 1
  apply propext
  constructor<;>intro<;>omega
open PySem.Calls PySem.W
theorem HU:∀(vs:List Value),vs.zip vs=vs.map fun v=> (v,v)
 | []=>rfl
 |v::vs=>by rw[n9,jr,HU vs]
structure Rk(prog:Program)(w:World)(U:Heap→Value→Prop)(rk:Heap→Value→Int)(T:Value):Prop where
 cmp:∀{A:js} {E:Value→c9→Prop} {s:c9},Qx prog w A E s (tuples' true) (fun k=>U s.heap k.1) (fun k=>rk s.heap k.1)
 kept:∀{h h':Heap} {v:Value},U h v→(∀b o,o.cls=.type "tuple"→h.get? b=some o→h'.get? b=some o)→U h' v∧rk h' v=rk h v
 kat:∀{h:Heap} {vs:List Value},(∀v∈vs,U h v)→∃fs:List Value,KatTups h vs fs∧fs.length=vs.length∧∀v∈fs,∀M h',Looks M h' (typeOf v) T
 t1:(T==T)=true
 t2:(T !=o7 "tuple")=true
section
variable{prog:Program}{w:World}{A:js}{E:Value→c9→Prop}{s:c9}{U:Heap→Value→Prop}{rk:Heap→Value→Int}{T:Value}
theorem Va{vs:List Value}{Q:kc→c9→Prop}(R:Rk prog w U rk T)(ok:∀v∈vs,U s.heap v)
  (h:∀st',nT st'=none→((arrOf st').map (·.2)).toList.Perm vs→((arrOf st').map (·.2)).toList.Pairwise (fun x y=>rk s.heap x≤rk s.heap y)→Q st' s):
  wpAny (model prog w) A ((sortRuns').run (rF (tuples' true) (vs.toArray.zip vs.toArray) #[] 7 none)) (fun r s'=>Q r.2 s') E s:=by
 have hz:(vs.toArray.zip vs.toArray)=(vs.map fun v=> (v,v)).toArray:=by
  apply ph
  rw[Array.toList_zip]
  show vs.zip vs=vs.map fun v=> (v,v)
  exact HU vs
 have hU:AllU (fun k=>U s.heap k.1) (vs.toArray.zip vs.toArray):=fun i p e=>by
  rw[hz] at e
  have e':(vs.map fun v=> ((v,v):Keyed))[i]?=some p:=by rw[←kl] at e;exact e
  obtain⟨v,hv,rfl⟩:=jl.mp (i9 e')
  exact ok v hv
 have hwp:wpS (model prog w) A E s sortRuns' (fun _ st'=>Q st' s) (rF (tuples' true) (vs.toArray.zip vs.toArray) #[] 7 none):=by
  refine SA (a₀:=vs.toArray.zip vs.toArray) (rk:=fun k=>rk s.heap k.1) R.cmp hU ⟨rfl,rfl,nC.refl _⟩ rfl fun st' b srt=>?_
  have hpm:=b.perm
  rw[hz] at hpm
  have hsame:∀k,k∈(arrOf st').toList→k=(k.2,k.2):=fun k hk=>by
   obtain⟨v,_,rfl⟩:=jl.mp (hpm.mem_iff.mp hk)
   rfl
  refine h st' b.fl ?_ ?_
  ·rw[rm]
   have:=hpm.map (fun k:Keyed=>k.2)
   rw[show((vs.map fun v=> ((v,v):Keyed)).toArray.toList.map fun k:Keyed=>k.2)=vs from by
    show(vs.map fun v=> ((v,v):Keyed)).map (fun k:Keyed=>k.2)=vs
    rw[kv]
    exact List.map_id vs] at this
   exact this
  ·rw[rm,mE]
   refine lg.mpr fun i j hi hj hij=>?_
   have hi':i< (arrOf st').size:=by rw[←jg];exact hi
   have hj':j< (arrOf st').size:=by rw[←jg];exact hj
   have q:=srt i j (pK hij) hj'
   rw[BI hi',BI hj'] at q
   have e1:=hsame (arrOf st').toList[i] (kT hi)
   have e2:=hsame (arrOf st').toList[j] (kT hj)
   rw[←(show(arrOf st').toList[i].1=(arrOf st').toList[i].2 from congrArg mn e1),←(show(arrOf st').toList[j].1=(arrOf st').toList[j].2 from congrArg mn e2)]
   exact q
 exact nY hwp (fun r s' q=>by rw[q.1];exact q.2) fun _ _ e=>e
theorem SB{a:Addr}{vs:List Value}{n:Nat}{P:tD→c9→Prop}(ho:s.heap.get? a=some (lj "list" vs.toArray n))(R:Rk prog w U rk T)(ok:∀v∈vs,U s.heap v)(h2:2≤vs.length)(hn:vs.length≤9000000)
  (h:∀out c h',out.Perm vs→out.Pairwise (fun x y=>rk s.heap x≤rk s.heap y)→h'.get? a=some (lj "list" (tf out) c)→(∀b o,b≠a→s.heap.get? b=some o→h'.get? b=some o)→P (.done (.ret .none)) {s with heap:=h'}):
  wpAny (model prog w) A (Builtin.«list.sort» ⟨[.ref a],[]⟩) P E s:=by
 obtain⟨e1,ho1⟩:∃e1,(s.heap.update a (lW fun _=> (#[]:Array Value))).get? a=some (lj "list" #[] e1):=⟨_,ql ho fun _=> #[]⟩
 have keep:∀b o,b≠a→s.heap.get? b=some o→(((s.heap.update a (lW fun _=> (#[]:Array Value))).push (lj "tuple" vs.toArray 0)).push (lj "list" #[] 0)).get? b=some o:=fun b o hb e=>
  e8 _ (e8 _ (by rw[oQ _ _ _ _ hb];exact e))
 have keepT:∀b o,o.cls=.type "tuple"→s.heap.get? b=some o→(((s.heap.update a (lW fun _=> (#[]:Array Value))).push (lj "tuple" vs.toArray 0)).push (lj "list" #[] 0)).get? b=some o:=fun b o ht e=>by
  refine keep b o (fun q=>?_) e
  rw[q,ho] at e
  cases e
  exact absurd (show o7 "list" =o7 "tuple" from ht) (by decide)
 have ho3:(((s.heap.update a (lW fun _=> (#[]:Array Value))).push (lj "tuple" vs.toArray 0)).push (lj "list" #[] 0)).get? a=some (lj "list" #[] e1):=e8 _ (e8 _ ho1)
 have ok3:∀v∈vs,U _ v:=fun v hv=> (R.kept (ok v hv) keepT).1
 have rk3:∀v∈vs,rk _ v=rk s.heap v:=fun v hv=> (R.kept (ok v hv) keepT).2
 rw[list_sort_plain]
 refine b6 (listItems_at ho rfl ?_)
 refine b6 (qT ho rfl ?_ (by rw[ji,lI];omega) (kN _))
 refine b6 (rS ho1 rfl ?_)
 refine b6 (rR ?_ (by show vs.length≤_;rw[lI];omega))
 refine b6 (qS ?_ (kN _))
 refine kh ?_
 show wpAny (model prog w) A _ P E {s with heap:=((s.heap.update a (lW fun _=> (#[]:Array Value))).push (lj "tuple" vs.toArray 0)).push (lj "list" #[] 0)}
 generalize hG:((s.heap.update a (lW fun _=> (#[]:Array Value))).push (lj "tuple" vs.toArray 0)).push (lj "list" #[] 0)=G at keep ho3 ok3 rk3 ⊢
 dsimp only
 have hn2:¬vs.toArray.size<2:=by rw[ji];omega
 rw[if_neg hn2,if_neg hn2]
 obtain⟨fs,kt,hl,hf⟩:=R.kat ok3
 refine b6 (kat_kind (s:={s with heap:=G}) (T:=T) kt (by omega) (fun v hv=>hf v hv _ _) R.t1 ?_)
 rw[R.t2]
 refine b6 (nY (Va (s:={s with heap:=G}) (Q:=fun st' s'=>s'={s with heap:=G}∧nT st'=none∧((arrOf st').map (·.2)).toList.Perm vs∧((arrOf st').map (·.2)).toList.Pairwise (fun x y=>rk G x≤rk G y)) R ok3 (fun st' a1 a2 a3=> ⟨rfl,a1,a2,a3⟩)) ?_ fun _ _ e=>e)
 rintro⟨⟨⟩,st'⟩ s' ⟨rfl,hfl,hpm,hpw⟩
 dsimp only
 have hsz:((arrOf st').map (·.2)).size=vs.length:=by rw[←jg];exact hpm.length_eq
 obtain⟨c2,hc2⟩:∃c2,(G.update a (lW fun _=> (arrOf st').map (·.2))).get? a=some (lj "list" ((arrOf st').map (·.2)) c2):=⟨_,ql ho3 fun _=> (arrOf st').map (·.2)⟩
 refine b6 (rS ho3 rfl ?_)
 refine b6 (qT ho3 rfl ?_ (kN _) (kG (Nat.le_of_eq hsz) (by rw[lI];omega)))
 rw[hfl]
 simp only[bne_self_eq_false,jt,if_false]
 refine e6 (h ((arrOf st').map (·.2)).toList c2 _ hpm ?_ hc2 fun b o hb e=>by rw[oQ _ _ _ _ hb];exact keep b o hb e)
 refine mh (fun{x y} hx hy q=>?_) hpw
 rw[rk3 _ (hpm.mem_iff.mp hx),rk3 _ (hpm.mem_iff.mp hy)] at q
 exact q
end
noncomputable def TupAt(h:Heap)(v:Value)(a b:Int):Prop:=∃x o t u n,v=.ref x∧h.get? x=some o∧o.cls=.type "tuple"∧o.data=.seq #[.int a t,.int b u] n
noncomputable def TupsOk(h:Heap)(vs:List Value):Prop:=∀v,v∈vs→∃a b,TupAt h v a b∧0≤b∧b<65536
theorem TupAt.pair{h:Heap}{v:Value}{a b:Int}(t:TupAt h v a b):NK h v a b:=by
 obtain⟨x,o,t,u,n,e1,e2,_,e4⟩:=t
 exact⟨x,o,t,u,n,e1,e2,e4⟩
theorem TupsOk.kat{h:Heap}:∀{vs:List Value},TupsOk h vs→∃fs:List Value,KatTups h vs fs∧fs.length=vs.length∧∀v∈fs,∃a t,v=.int a t
 | [],_=> ⟨[],KatTups.nil,rfl,fun v hv=>by cases hv⟩
 |v::vs,ok=>by
  obtain⟨fs,k,hl,hf⟩:=TupsOk.kat (vs:=vs) fun v hv=>ok v (.tail _ hv)
  obtain⟨a,b,⟨x,o,t,u,n,rfl,e,hc,hd⟩,_,_⟩:=ok v (.head _)
  exact⟨.int a t::fs,KatTups.cons e hc hd rfl k,by rw[jm,jm,hl],fun v hv=>by
   rcases i6.mp hv with rfl|hv
   ·exact⟨a,t,rfl⟩
   ·exact hf v hv⟩
variable{prog:Program}{w:World}{A:js}{E:Value→c9→Prop}{s:c9}
theorem TupsOk.kept{h h':Heap}{vs:List Value}(ok:TupsOk h vs)(k:∀b o,o.cls=.type "tuple"→h.get? b=some o→h'.get? b=some o):TupsOk h' vs:=fun v hv=>by
 obtain⟨a,b,⟨x,o,t,u,n,e1,e2,e3,e4⟩,q⟩:=ok v hv
 exact⟨a,b,⟨x,o,t,u,n,e1,k _ _ e3 e2,e3,e4⟩,q⟩
theorem TupsOk.rk{h h':Heap}{vs:List Value}(ok:TupsOk h vs)(k:∀b o,o.cls=.type "tuple"→h.get? b=some o→h'.get? b=some o){v:Value}(hv:v∈vs):Uo h' (v,v)=Uo h (v,v):=by
 obtain⟨a,b,t,q⟩:=ok v hv
 obtain⟨x,o,t',u,n,e1,e2,e3,e4⟩:=t
 rw[FV (k:=(v,v)) (TupAt.pair ⟨x,o,t',u,n,e1,e2,e3,e4⟩),FV (k:=(v,v)) (TupAt.pair ⟨x,o,t',u,n,e1,k _ _ e3 e2,e3,e4⟩)]
theorem SC:Rk prog w (fun h v=>∃a b,TupAt h v a b∧0≤b∧b<65536) (fun h v=>Uo h (v,v)) (.type "int") where
 cmp:=by
  intro A E s st x y Q hk hx hy h
  obtain⟨a,b,t,q⟩:=hx
  obtain⟨c,d,u,r⟩:=hy
  exact QR st x y Q hk ⟨a,b,t.pair,q⟩ ⟨c,d,u.pair,r⟩ h
 kept:=fun{h h' v} ok k=> ⟨TupsOk.kept (vs:=[v]) (fun u hu=>jd.mp hu▸ok) k v (by simp),TupsOk.rk (vs:=[v]) (fun u hu=>jd.mp hu▸ok) k (by simp)⟩
 kat:=fun{h vs} ok=>by
  obtain⟨fs,kt,hl,hf⟩:=TupsOk.kat ok
  refine⟨fs,kt,hl,fun v hv M h'=>?_⟩
  obtain⟨x,t,rfl⟩:=hf v hv
  exact fun _ _ _ _ _ q=>e6 q
 t1:=rfl
 t2:=rfl
theorem NL{a:Addr}{vs:List Value}{n:Nat}{P:tD→c9→Prop}(ho:s.heap.get? a=some (lj "list" vs.toArray n))(ok:TupsOk s.heap vs)(h2:2≤vs.length)(hn:vs.length≤4096)
  (h:∀out c h',out.Perm vs→out.Pairwise (fun x y=>Uo s.heap (x,x)≤Uo s.heap (y,y))→h'.get? a=some (lj "list" (tf out) c)→(∀b o,b≠a→s.heap.get? b=some o→h'.get? b=some o)→P (.done (.ret .none)) {s with heap:=h'}):
  wpAny (model prog w) A (Builtin.«list.sort» ⟨[.ref a],[]⟩) P E s:=SB ho SC ok h2 (by omega) h
end SrtG
namespace StT
open PySem PySem.SetTable PyProof.Rows
section
variable{prog:Program}{w:World}{A:js}{E:Value→c9→Prop}{s:c9}
noncomputable abbrev CZ(w:World):Obj:={cls:=.type "set",dict:=none,data:=.set #[] 0 (.fresh 0 0 (!w.params.followText "set-order"))}
theorem SD(a:Value){Q₁:Value→c9→Prop}(h:Q₁ (.ref s.heap.objs.size) {s with heap:=s.heap.push (CZ w)}):
  oG (model prog w) A (.call (.builtin "set.__new__") ⟨[.type "set",a],[]⟩) (wants Q₁ E) s:=by
 refine codeAny_of_tree ?_
 show wpAny _ A.in1 (do rf "set.__new__" ⟨[.type "set",a],[]⟩;again (.builtin "set.__new__" ⟨[.type "set",a],[]⟩)) _ _ s
 refine b6 (qd (PySem.F.newCall_set_1 a) (e6 ⟨om PySem.F.plain_set_new _,mU PySem.F.entry_set_new ?_⟩))
 rw[mR PySem.F.plain_set_new _]
 unfold Builtin.«set.__new__» Builtin.Frozenset.newClass
 have hsub:=sub_set_self
 obtain⟨hp,g,d,tk,os⟩:=s
 dsimp only
 wp_walk
 refine pV (e6 ?_)
 dsimp only
 simp only[newObj]
 refine b6 (wpAny_alloc (e6 ?_))
 exact e6 h
theorem NM{T newId initId:String}{args:List Value}{Q Q₁:Value→c9→Prop}(ft:TypeCalled T newId initId)
  (hct:checkTypeCall T ⟨args,[]⟩=pure ())
  (hnew:oG (model prog w) A.in1 (.call (.builtin newId) ⟨.type T::args,[]⟩) (wants Q₁ E) s)
  (hnext:∀obj s₁,Q₁ obj s₁→s₁.TypeIs obj T∧oG (model prog w) A.in1 (.call (.builtin initId) ⟨obj::args,[]⟩) (wants (fun r s₂=>r=.none∧Q obj s₂) E) s₁):
  wpAny (model prog w) A (call (.type T) args) Q E s:=by
 obtain⟨c,tl,hmro⟩:=ft.mro
 have hmade:=ft.made
 have hsub:=ft.sub
 refine rq (codeAny_of_tree ?_)
 show wpAny _ _ (callAny (.type T) _) _ _ _
 refine e6 ⟨Code.quiet_builtin _ (by decide+kernel),mU PySem.F.entry_type_call ?_⟩
 rw[js.under_plain (weight_type_call_type T args []) rfl]
 have h1:=ft.notType
 have h2:=ft.canCreate
 repeat (any_goals (first|assumption|wp_step))
 refine qu hnew fun r s₁ hr=>?_
 cases r with
 |error e=>exact hr
 |ok fl=>
  cases fl with
  |ret obj=>
   obtain⟨hT,hsi⟩:=hnext _ _ hr
   have hli:=ft.init.lookup
   have hbi:=ft.init.bind obj
   repeat (any_goals (first|assumption|wp_step))
   refine qu hsi fun r₂ s₂ hr₂=>?_
   cases r₂ with
   |error e=>exact hr₂
   |ok fl₂=>
    cases fl₂ with
    |ret r=>
     obtain⟨rfl,hq⟩:=hr₂
     repeat (any_goals (first|assumption|wp_step))
    |_=>exact hr₂.elim
  |_=>exact hr.elim
theorem HV{l:Addr}{items:Array Value}{ps:List (List Int×Addr)}{Q:Value→c9→Prop}
  (hh:A.handled=none) (hl:s.heap.IsList l items) (hps:items.toList=ps.map fun p=>Value.ref p.2) (hp:∀k x,(k,x)∈ps→IK prog w s.heap k x) (hz:ps.length≤300) (hu:A.units+8<cLine)
  (h:∀(h':Heap) (tk:Nat) (xs:List (List Int×Addr)),SetX prog w h' s.heap.objs.size xs→Jh ps xs→
   (∀b o,b<s.heap.objs.size→s.heap.get? b=some o→h'.get? b=some o)→Q (.ref s.heap.objs.size) {s with heap:=h',toks:=tk}):
  wpAny (model prog w) A (call (.type "set") [.ref l]) Q E s:=by
 refine NM (Q₁:=fun obj s₁=>obj=.ref s.heap.objs.size∧s₁={s with heap:=s.heap.push (CZ w)}) PySem.F.called_set (PySem.F.typeCall_set_1 _) (SD _ ⟨rfl,rfl⟩) ?_
 rintro obj s₁ ⟨rfl,rfl⟩
 have hS:(s.heap.push (CZ w)).get? s.heap.objs.size=some (CZ w):=jq _ rfl
 have hT:c9.TypeIs {s with heap:=s.heap.push (CZ w)} (.ref s.heap.objs.size) "set":=⟨_,hS,rfl⟩
 refine⟨hT,oA PySem.F.called_set.init.plain PySem.F.entry_set_init (check_set_init_1 hT ?_)⟩
 obtain⟨ol,hol,hcl,nl,hdl⟩:=hl
 obtain⟨ocls,odict,odata,oslots⟩:=ol
 simp only at hcl hdl
 subst hcl;subst hdl
 have hol':(s.heap.push (CZ w)).get? l=some {cls:=.type "list",dict:=odict,data:=.seq items nl,slots:=oslots}:=e8 _ hol
 have hsls:=PySem.F.sub_list_set
 have hslf:=PySem.F.sub_list_frozenset
 have hne:(o7 "list" ==o7 "dict")=false:=by decide
 have hl1:(s.heap.push (CZ w)).IsList l items:=⟨_,hol',rfl,nl,rfl⟩
 unfold Builtin.«set.__init__» noKeywords Builtin.Frozenset.updateFrom
 generalize hPI:sJ=PI
 wp_walk
 subst hPI
 refine nE hl1 ?_
 refine b6 (wpAny_runValue ?_)
 have hlS:l<s.heap.objs.size:=je hol
 have hneI:l≠(s.heap.push (CZ w)).objs.size:=by
  rw[k7];exact jY (md hlS)
 have kp:∀b o,s.heap.get? b=some o→((s.heap.push (CZ w)).push {cls:=.type "list_iterator",data:=.fields #[.ref l,.int 0 0]}).get? b=some o:=fun b o e=>e8 _ (e8 _ e)
 refine VW (a:=s.heap.objs.size) (l:=l) (ps:=ps) (by simpa using hh) hneI (by rw[k7];exact jY (m5 _)) (oJ hlS) hps hz (by
   show A.in1.in1.units+1<cLine
   exact qG (show A.units+1+1+1≤A.units+8 by omega) hu) (ps.length-0) 0 _ [] rfl (kN _)
  ⟨_,jq _ rfl,rfl,rfl⟩ (hl1.push _) (fun k x hx=> ⟨Cu (hp k x hx) fun u e=>kp x u e,?_⟩) ⟨CZ w,#[],0,_,e8 _ hS,⟨rfl,rfl,rfl⟩,rfl,rfl,fun i k x e=>by simp at e,sd,Tb.fresh _ _ _,rfl,(by show 0*5<7*3;decide),rfl⟩ ⟨fun p hp=>by simp at hp,fun k y hy=>by simp at hy,by simp⟩ ?_
 ·obtain⟨o',_,_,ho',_⟩:=hp k x hx
  have:=je ho'
  rw[k7]
  exact jY (md this)
 ·intro h' tk' xs' kk sx so
  refine e6 ?_
  show wpAny _ _ (ret mV) _ _ _
  refine e6 ⟨rfl,h h' tk' xs' sx so fun b o hb e=>kk b o (jY hb) ?_ (kp b o e)⟩
  rw[k7];exact jY (md hb)
end
open PySem.Calls PySem.W
section
variable{prog:Program}{w:World}{A:js}{E:Value→c9→Prop}{s:c9}
theorem SE{a:Addr}{vs:List Value}{n:Nat}{P:tD→c9→Prop}(ho:s.heap.get? a=some (lj "list" vs.toArray n))(h2:vs.length<2)
  (h:∀c h',h'.get? a=some (lj "list" vs.toArray c)→(∀b o,b≠a→s.heap.get? b=some o→h'.get? b=some o)→P (.done (.ret .none)) {s with heap:=h'}):
  wpAny (model prog w) A (Builtin.«list.sort» ⟨[.ref a],[]⟩) P E s:=by
 obtain⟨e1,ho1⟩:∃e1,(s.heap.update a (lW fun _=> (#[]:Array Value))).get? a=some (lj "list" #[] e1):=⟨_,ql ho fun _=> #[]⟩
 have keep:∀b o,b≠a→s.heap.get? b=some o→(((s.heap.update a (lW fun _=> (#[]:Array Value))).push (lj "tuple" vs.toArray 0)).push (lj "list" #[] 0)).get? b=some o:=fun b o hb e=>
  e8 _ (e8 _ (by rw[oQ _ _ _ _ hb];exact e))
 have ho3:(((s.heap.update a (lW fun _=> (#[]:Array Value))).push (lj "tuple" vs.toArray 0)).push (lj "list" #[] 0)).get? a=some (lj "list" #[] e1):=e8 _ (e8 _ ho1)
 rw[list_sort_plain]
 refine b6 (listItems_at ho rfl ?_)
 refine b6 (qT ho rfl ?_ (by rw[ji,lI];omega) (kN _))
 refine b6 (rS ho1 rfl ?_)
 refine b6 (rR ?_ (by show vs.length≤_;rw[lI];omega))
 refine b6 (qS ?_ (kN _))
 refine kh ?_
 show wpAny (model prog w) A _ P E {s with heap:=((s.heap.update a (lW fun _=> (#[]:Array Value))).push (lj "tuple" vs.toArray 0)).push (lj "list" #[] 0)}
 generalize hG:((s.heap.update a (lW fun _=> (#[]:Array Value))).push (lj "tuple" vs.toArray 0)).push (lj "list" #[] 0)=G at keep ho3 ⊢
 dsimp only
 have hn2:vs.toArray.size<2:=by rw[ji];omega
 rw[if_pos hn2,if_pos hn2]
 refine b6 (e6 ?_)
 refine b6 (e6 ?_)
 dsimp only
 have har:((vs.toArray.zip vs.toArray).map (·.2))=vs.toArray:=by
  apply ph
  rw[rm,Array.toList_zip]
  show(vs.zip vs).map (·.2)=vs
  rw[SrtG.HU,kv]
  exact List.map_id vs
 have har':(arrOf (rF general' (vs.toArray.zip vs.toArray) #[] 7 none)).map (·.2)=vs.toArray:=har
 rw[har']
 obtain⟨c2,hc2⟩:∃c2,(G.update a (lW fun _=>vs.toArray)).get? a=some (lj "list" vs.toArray c2):=⟨_,ql ho3 fun _=>vs.toArray⟩
 refine b6 (rS ho3 rfl ?_)
 refine b6 (qT ho3 rfl ?_ (kN _) (by rw[ji,lI];omega))
 show wpAny _ _ (if(e1 !=e1)=true then _ else _) _ _ _
 rw[if_neg (by simp)]
 exact e6 (h c2 _ hc2 fun b o hb e=>by rw[oQ _ _ _ _ hb];exact keep b o hb e)
theorem Ek {α β : Type} {f : α → β} {l1 l2 : List β} (h : l1.Perm l2) : ∀ {xs : List α}, l2 = xs.map f → ∃ ys : List α, ys.Perm xs ∧ ys.map f = l1 := by
  induction h with
  | nil => intro xs e; cases xs with
    | nil => exact ⟨[], .refl _, rfl⟩
    | cons x xs => cases e
  | cons x _ ih => intro xs e; cases xs with
    | nil => cases e
    | cons y xs =>
      rw [jr] at e
      injection e with e1 e2
      obtain ⟨ys, h1, h2⟩ := ih e2
      exact ⟨y :: ys, h1.cons y, by rw [jr, h2, e1]⟩
  | swap x y l => intro xs e; match xs, e with
    | a :: b :: xs, e =>
      simp only [jr] at e
      injection e with e1 e2
      injection e2 with e2 e3
      exact ⟨b :: a :: xs, .swap _ _ _, by simp only [jr]; rw [← e1, ← e2, ← e3]⟩
  | trans _ _ ih1 ih2 => intro xs e
                         obtain ⟨ys, h1, h2⟩ := ih2 e
                         obtain ⟨zs, h3, h4⟩ := ih1 h2.symm
                         exact ⟨zs, h3.trans h1, h4⟩
theorem NN{a:Addr}{xs:List (List Int×Addr)}{Q:Value→c9→Prop}(hh:A.handled=none)(S:SetX prog w s.heap a xs)(hz:xs.length≤300)
  (hp:∀k x,(k,x)∈xs→∃p q,k=[p,q]∧0≤q∧q<65536)
  (h:∀(h':Heap) (tk:Nat) (ys:List (List Int×Addr)) (D:Addr) (c:Nat),s.heap.get? D=none→h'.get? D=some (lj "list" (ys.map fun p=>Value.ref p.2).toArray c)→(∀b o,s.heap.get? b=some o→h'.get? b=some o)→
   ys.Perm xs→ys.Pairwise (fun x y=>65536*x.1.getD 0 0+x.1.getD 1 0≤65536*y.1.getD 0 0+y.1.getD 1 0)→Q (.ref D) {s with heap:=h',toks:=tk}):
  wpAny (model prog w) A (call (.builtin "sorted") [.ref a]) Q E s:=by
 obtain⟨o,es,ep,t,S⟩:=S
 refine call_function_entry kind_sorted plain_sorted entry_sorted (args_sorted1 _) ?_
 unfold Builtin.«sorted»
 refine b6 (m:=checkCount "sorted" 1 1 _) (e6 ?_)
 refine b6 (kdu_collect (A:=A.in1) (VX S.wk) hh S.get (by rw[S.size,lI];omega) fun h1 tk1 acc hk1 hacc=>?_)
 have hsz:acc.toList.length=xs.length:=by rw[jg,hacc.1,S.size]
 have hacc2:acc.toList=(EG w a ep es).toList.map (·.2):=by
  apply lH
  intro i
  rw[e9]
  by_cases hi:i<acc.size
  ·have e1:acc[i]?=some acc[i]:=by simp[hi]
   obtain⟨hh',e2⟩:=hacc.2 i _ e1
   have e2':(EG w a ep es).toList[i]?=some (hh',acc[i]):=by simpa using e2
   rw[e2']
   simpa using e1
  ·have h1':acc.toList[i]?=none:=by simp;omega
   have h2':(EG w a ep es).toList[i]?=none:=by
    apply lA
    rw[jg,FT,←hacc.1];omega
   rw[h1',h2'];rfl
 have hperm:acc.toList.Perm (xs.map fun p=>Value.ref p.2):=by
  rw[hacc2]
  refine((Io w a ep es).map (·.2)).trans ?_
  rw[S.es,QL,kv]
  exact nC.refl _
 have hIK:∀k x,(k,x)∈xs→IK prog w h1 k x:=fun k x hx=>by
  obtain⟨i,hi⟩:=kK hx
  exact Cu (S.key i k x hi) fun u e=>hk1 x u e
 have tupAt:∀k x,(k,x)∈xs→∃p q,k=[p,q]∧SrtG.TupAt h1 (.ref x) p q∧0≤q∧q<65536:=fun k x hx=>by
  obtain⟨p,q,rfl,h0,h1'⟩:=hp k x hx
  obtain⟨o',items,n,ho',hc',hd',hi'⟩:=hIK _ x hx
  refine⟨p,q,rfl,?_,h0,h1'⟩
  generalize hL:items.toList=L at hi'
  cases hi' with
  |cons i1 i2=>
   cases i2 with
   |cons i3 i4=>
    cases i4
    obtain⟨t1,rfl⟩:=FR i1
    obtain⟨t2,rfl⟩:=FR i3
    have:items= #[.int p t1,.int q t2]:=by
     apply ph
     rw[hL]
    exact⟨x,o',t1,t2,n,rfl,ho',hc',by rw[hd',this]⟩
 refine b6 (qS ?_ (by rw[hsz,lI];omega))
 have hoL:(h1.push (lj "list" acc.toList.toArray 0)).get? h1.objs.size=some (lj "list" acc.toList.toArray 0):=jq _ rfl
 have hDn:s.heap.get? h1.objs.size=none:=by
  cases e:s.heap.get? h1.objs.size with
  |none=>rfl
  |some o'=>exact absurd (je (hk1 _ _ e)) (k8 _)
 have hkp:∀b o,h1.get? b=some o→(h1.push (lj "list" acc.toList.toArray 0)).get? b=some o:=fun b o e=>e8 _ e
 obtain⟨ws,hw1,hw2⟩:=Ek hperm rfl
 have fin:∀(out:List Value) (c:Nat) (h2:Heap),out.Perm acc.toList→out.Pairwise (fun x y=>SrtG.Uo (h1.push (lj "list" acc.toList.toArray 0)) (x,x)≤SrtG.Uo (h1.push (lj "list" acc.toList.toArray 0)) (y,y))→
   h2.get? h1.objs.size=some (lj "list" (tf out) c)→(∀b o,b≠h1.objs.size→(h1.push (lj "list" acc.toList.toArray 0)).get? b=some o→h2.get? b=some o)→Q (.ref h1.objs.size) {s with heap:=h2,toks:=tk1}:=fun out c h2 pm pw hg hk=>by
  obtain⟨ys,y1,y2⟩:=Ek (pm.trans hperm) rfl
  subst y2
  refine h h2 tk1 ys _ c hDn hg (fun b o e=>?_) y1 ?_
  ·have hlt:=je (hk1 b o e)
   exact hk b o (jY hlt) (hkp b o (hk1 b o e))
  ·rw[mE] at pw
   refine mh (fun{x y} hx hy q=>?_) pw
   obtain⟨k1,x1⟩:=x
   obtain⟨k2,x2⟩:=y
   obtain⟨p,q',rfl,t1,_⟩:=tupAt k1 x1 (y1.mem_iff.mp hx)
   obtain⟨p2,q2,rfl,t2,_⟩:=tupAt k2 x2 (y1.mem_iff.mp hy)
   have keepT:∀{v:Value} {i j:Int},SrtG.TupAt h1 v i j→SrtG.TupAt (h1.push (lj "list" acc.toList.toArray 0)) v i j:=fun t=>by
    obtain⟨x,o,t,u,n,e1,e2,e3,e4⟩:=t
    exact⟨x,o,t,u,n,e1,hkp _ _ e2,e3,e4⟩
   rw[SrtG.FV (k:=(Value.ref x1,Value.ref x1)) (keepT t1).pair,SrtG.FV (k:=(Value.ref x2,Value.ref x2)) (keepT t2).pair] at q
   exact q
 refine b6 (kh (lD slot_list_sort ⟨_,hoL,rfl⟩ entry_list_sort ?body (args_list_sort _)))
 case body=>
  by_cases hlen:acc.toList.length<2
  ·refine SE (s:={s with heap:=h1.push (lj "list" acc.toList.toArray 0),toks:=tk1}) hoL hlen fun c h2 hg hk=> ⟨_,rfl,e6 ⟨_,rfl,fin acc.toList c h2 (.refl _) ?_ hg hk⟩⟩
   generalize acc.toList=l at hlen
   cases l with
   |nil=>exact .nil
   |cons x l=>
    cases l with
    |nil=>exact mS _ _
    |cons y l=>simp only[jm] at hlen;omega
  ·refine SrtG.NL (s:={s with heap:=h1.push (lj "list" acc.toList.toArray 0),toks:=tk1}) hoL (fun v hv=>?_) (by omega) (by omega) fun out c h2 pm pw hg hk=> ⟨_,rfl,e6 ⟨_,rfl,fin out c h2 pm pw hg hk⟩⟩
   obtain⟨⟨k,x⟩,hx,rfl⟩:=jl.mp (hperm.mem_iff.mp hv)
   obtain⟨p,q,rfl,⟨x',o',t1,t2,n,e1,e2,e3,e4⟩,h0,h1'⟩:=tupAt k x hx
   exact⟨p,q,⟨x',o',t1,t2,n,e1,hkp _ _ e2,e3,e4⟩,h0,h1'⟩
end
end StT
namespace L2
open PySem PySem.Spec PyProof.Rows
section
variable{X:Cx}{pins:List (Addr×Obj)}{σ:St}{H:Hp}{s:c9}{h':Heap}
theorem Inv.laidF{a:Addr}{o:HO}{t':Nat}(I:Inv X pins σ H s)(k:∀b u,s.heap.get? b=some u→h'.get? b=some u)(hp:s.heap.get? a=none)(new:ObjOk X.prog X.w (upd H a o) h' a o):
  Inv X pins σ (upd H a o) {s with heap:=h',toks:=t'}:=by
 have hn:H a=none:=by
  cases q:H a with
  |none=>rfl
  |some u=>
   obtain⟨ob,e⟩:=(I.hok a u q).obj
   rw[hp] at e;cases e
 have ne:∀b u,s.heap.get? b=some u→b≠a:=fun b u e z=>by rw[z,hp] at e;cases e
 refine I.un ⟨fun b u q _ _ _=>k b u q,fun b u q _ _ _=> ⟨u.slots,k b u q⟩,fun b u q n _=>by rw[AO (ne b u q)];exact n,fun b u q _=> ⟨u,k b u q⟩,fun b xs q=>by rw[AO (AL q hn)];exact q,fun b u xs q=>by rw[AO (AL q hn)];exact q,fun b ps q=> ⟨#[],by rw[AO (AL q hn),q];simp⟩⟩ ?_
 intro b u e
 by_cases hb:b=a
 ·subst hb;rw[AY] at e;cases e;exact new
 ·rw[AO hb] at e
  exact(I.hok b u e).stay (fun c v _ q=>k c v q) (fun c q=>by rw[AO (AL q hn)];exact q) fun c xs q=>by rw[AO (AL q hn)];exact q
noncomputable def cU(P:Program)(w:World)(a:Addr)(xs:List (List Int×Addr))(h:Heap):Prop:=∃o es ep t,h.get? a=some o∧o.ExactSet∧o.data=.set es ep t∧es.toList=StT.QL xs P w∧(xs.map (·.1)).Nodup∧StT.Tb t (xs.map fun p=> (StT.tk P w).hash p.1)∧t.plain=true∧xs.length*5<t.mask*3∧t.led=!w.params.followText "set-order"
noncomputable def SetO(P:Program)(w:World)(a:Addr)(xs:List (List Int×Addr)):HO:=.ext (cU P w a xs)
theorem Vb{P:Program}{w:World}{H:Hp}{h:Heap}{a:Addr}{xs:List (List Int×Addr)}(S:StT.SetX P w h a xs):ObjOk P w H h a (SetO P w a xs):=by
 obtain⟨o,es,ep,t,S⟩:=S
 refine⟨⟨o,es,ep,t,S.get,S.ex,S.dat,S.es,S.nd,S.tb,S.pl,S.room,S.led⟩,⟨o,S.get⟩,fun h1 h2 ⟨o,es,ep,t,g,r⟩ hk=> ⟨o,es,ep,t,hk _ g,r⟩⟩
noncomputable def SF(K:b9)(H:Hp)(xs:List (List Int×Addr)):Prop:=∀k x,(k,x)∈xs→DN K H x (k.map V.int)
theorem Ir{prog:Program}{w:World}:∀{k:List Int} {us:List Value},Vals (k.map V.int) us→ItemsAre (intKind prog w) k us
 | [],us,r=>by rw[mP] at r;cases r;exact .nil
 |n::k,us,r=>by
  rw[jr] at r
  cases r with
  |cons r1 r2=>
   obtain⟨t,rfl⟩:=r1
   exact .cons (intKind_is _ _ _ _) (Ir r2)
theorem Inv.ik{x:Addr}{k:List Int}(I:Inv X pins σ H s)(h:DN X.K H x (k.map V.int)):StT.IK X.prog X.w s.heap k x:=by
 obtain⟨its,r,⟨o,ho,hc,n,hd⟩,hz⟩:=I.tuple h
 exact⟨o,its.toArray,n,ho,hc,hd,by simpa using Ir r⟩
noncomputable def gZ(X:Cx):List V→Hp→VK→Prop:=fun vs H Q=>∃a ps,vs=[.ref a]∧CM X.K H a (ps.map fun p=>V.ref p.2)∧SF X.K H ps∧ps.length≤300∧
 ∀p xs,H p=none→StT.Jh ps xs→(xs.map (·.1)).Nodup→Q (.ref p) (upd H p (SetO X.prog X.w p xs))
theorem Iu:∀{ps:List (List Int×Addr)} {us:List Value},Vals (ps.map fun p=>V.ref p.2) us→us=ps.map fun p=>Value.ref p.2
 | [],us,r=>by rw[mP] at r;cases r;rfl
 |p::ps,us,r=>by
  rw[jr] at r
  cases r with
  |cons r1 r2=>
   rw[Iu r2]
   have r1:_=Value.ref p.2:=r1
   rw[r1]
   rfl
theorem QS(hc:X.calm=true)(hu:X.A.units+8<cLine):BJ X (.type "set") (gZ X):=by
 intro pins s σ H vs us Q I r h
 obtain⟨a,ps,rfl,hl,hk,hz,q⟩:=h
 obtain⟨u,rfl,ru⟩:=Vals.one r
 cases ru
 obtain⟨its,rv,p,_⟩:=I.list hl
 refine StT.HV (ps:=ps) (I.ok.hd hc) p.isList (by simpa using Iu rv) (fun k x hx=>I.ik (hk k x hx)) hz hu fun h' tk xs sx so kp=>?_
 have hf:H s.heap.objs.size=none:=I.hok.fresh (jb _)
 have nd:(xs.map (·.1)).Nodup:=by obtain⟨_,_,_,_,S⟩:=sx;exact S.nd
 exact⟨.ref s.heap.objs.size,upd H s.heap.objs.size (SetO X.prog X.w s.heap.objs.size xs),I.laid (t':=tk) (fun b u e=>kp b u (je e) e) (jb _) (Vb sx),rfl,q _ _ hf so nd⟩
noncomputable def ZI(X:Cx):List V→Hp→VK→Prop:=fun vs H Q=>∃p xs,vs=[.ref p]∧H p=some (SetO X.prog X.w p xs)∧SF X.K H xs∧xs.length≤300∧(∀k x,(k,x)∈xs→∃i j,k=[i,j]∧0≤j∧j<65536)∧
 ∀(q:Addr) (ys:List (List Int×Addr)),H q=none→ys.Perm xs→ys.Pairwise (fun x y=>65536*x.1.getD 0 0+x.1.getD 1 0≤65536*y.1.getD 0 0+y.1.getD 1 0)→Q (.ref q) (upd H q (.lst (ys.map fun p=>V.ref p.2)))
theorem Iv:∀(ps:List (List Int×Addr)),Vals (ps.map fun p=>V.ref p.2) (ps.map fun p=>Value.ref p.2)
 | []=> .nil
 |p::ps=> .cons rfl (Iv ps)
theorem Jk(hc:X.calm=true):BJ X (.builtin "sorted") (ZI X):=by
 intro pins s σ H vs us Q I r h
 obtain⟨p,xs,rfl,hp,hk,hz,h2,q⟩:=h
 obtain⟨u,rfl,ru⟩:=Vals.one r
 cases ru
 obtain⟨⟨o,es,ep,t,g1,g2,g3,g4,g5,g6,g7,g8,g9⟩,_,_⟩:=I.hok p _ hp
 refine StT.NN (xs:=xs) (I.ok.hd hc) ⟨o,es,ep,t,g1,g2,g3,g4,fun i k x e=>I.ik (hk k x (i9 e)),g5,g6,g7,g8,g9⟩ hz h2 fun h' tk ys D c hD hg kp pm pw=>?_
 have hf:H D=none:=I.hok.none_of hD
 refine⟨.ref D,upd H D (.lst (ys.map fun p=>V.ref p.2)),I.laidF (t':=tk) kp hD ⟨?_,_,c,Iv ys,hg⟩,rfl,q D ys hf pm pw⟩
 rw[e7,pm.length_eq,lI]
 omega
end
end L2
namespace ZpT
open PySem PySem.Spec PyProof.Rows
structure Nx(prog:Program)(w:World)(I ax:Addr)(items:Array Value)(St:Nat→Heap→Prop):Prop where
 item:∀(A:js) (i:Nat) (s:c9) (x:Value) (Q:Value→c9→Prop) (E:Value→c9→Prop),St i s.heap→items[i]?=some x→(∀h',St (i+1) h'→mG I s.heap h'→Q x {s with heap:=h'})→wpAny (model prog w) A (kL (.ref I)) Q E s
 fin:∀(A:js) (i:Nat) (s:c9) (Q:Value→c9→Prop) (E:Value→c9→Prop),A.handled=none→St i s.heap→items[i]?=none→(∀h' e,qi I s.heap h'→(∃o,h'.get? e=some o∧o.cls=.type "StopIteration")→E (.ref e) {s with heap:=h'})→wpAny (model prog w) A (kL (.ref I)) Q E s
 keep:∀(i:Nat) (h h':Heap),St i h→(∀o,h.get? I=some o→h'.get? I=some o)→(∀o,h.get? ax=some o→h'.get? ax=some o)→St i h'
 there:∀(i:Nat) (h:Heap),St i h→I<h.objs.size
section
variable{prog:Program}{w:World}
theorem GK(I ax:Addr)(hne:ax≠I)(items:Array Value):Nx prog w I ax items (fun i h=>h.IsListIter I ax i∧h.IsList ax items) where
 item:=fun A i s x Q E st hx hQ=>wpAny_nextOf_list_item st.1 st.2 hx fun h' hit sb=>hQ h' ⟨hit,st.2.at fun o e=> (sb.2 ax hne).trans e⟩ sb
 fin:=fun A i s Q E hh st hx hE=>wpAny_nextOf_list_end hh st.1 st.2 hx hE
 keep:=fun i h h' st h1 h2=> ⟨st.1.at h1,st.2.at h2⟩
 there:=fun i h st=>by obtain⟨_,e,_⟩:=st.1;exact je e
theorem SG{A:js}{E:Value→c9→Prop}{s:c9}{it l:Addr}{i:Nat}{items:Array Value}{x:Value}{Q:Value→c9→Prop}(hit:s.heap.IsTupleIter it l i)(hl:s.heap.IsTuple l items)(hx:items[i]?=some x)
  (hQ:∀h',h'.IsTupleIter it l (i+1)→mG it s.heap h'→Q x {s with heap:=h'}):wpAny (model prog w) A (kL (.ref it)) Q E s:=by
 obtain⟨o,ho,hc,hd⟩:=id hit
 obtain⟨ol,hol,_,nl,hdl⟩:=hl
 have hne:¬((Value.ref l==mV)=true):=i5
 unfold kL
 refine b6 (lE (name:=nZ "__next__") hit.typeIs mD ?_)
 refine lD mD hit.typeIs PySem.F.entry_tuple_iterator_next ?_ (PySem.F.args_tuple_iterator_next_1 _)
 show wpAny _ _ (field (.ref it) 0>>=_) _ _ s;refine b6 (ma ho hd (x:=.ref l) rfl ?_)
 show wpAny _ _ (if(Value.ref l==mV)=true then _ else _) _ _ s;rw[if_neg hne]
 show wpAny _ _ (field (.ref it) 1>>=_) _ _ s;refine b6 (ma ho hd (x:=.int i 0) rfl ?_)
 show wpAny _ _ (sj (.ref l)>>=_) _ _ s;refine b6 (lN hol hdl ?_)
 simp only[kH,hx]
 refine b6 (wpAny_setField ho hd (by simp) ?_)
 refine e6 ⟨x,rfl,e6 (hQ _ ⟨_,nu _ ho (Obj.isFreed_of_fields (Obj.data_mapFields hd _)),(Obj.cls_mapFields ..).trans hc,?_⟩ (nS ..))⟩
 rw[Obj.data_mapFields hd];simp[pG]
theorem Vc{A:js}{E:Value→c9→Prop}{s:c9}{it l:Addr}{i:Nat}{items:Array Value}{Q:Value→c9→Prop}(hh:A.handled=none)(hit:s.heap.IsTupleIter it l i)(hl:s.heap.IsTuple l items)(hx:items[i]?=none)
  (hE:∀h' e,qi it s.heap h'→(∃o,h'.get? e=some o∧o.cls=.type "StopIteration")→E (.ref e) {s with heap:=h'}):wpAny (model prog w) A (kL (.ref it)) Q E s:=by
 obtain⟨o,ho,hc,hd⟩:=id hit
 obtain⟨ol,hol,_,nl,hdl⟩:=hl
 have hne:¬((Value.ref l==mV)=true):=i5
 unfold kL
 refine b6 (lE (name:=nZ "__next__") hit.typeIs mD ?_)
 refine lD mD hit.typeIs PySem.F.entry_tuple_iterator_next ?_ (PySem.F.args_tuple_iterator_next_1 _)
 show wpAny _ _ (field (.ref it) 0>>=_) _ _ s;refine b6 (ma ho hd (x:=.ref l) rfl ?_)
 show wpAny _ _ (if(Value.ref l==mV)=true then _ else _) _ _ s;rw[if_neg hne]
 show wpAny _ _ (field (.ref it) 1>>=_) _ _ s;refine b6 (ma ho hd (x:=.int i 0) rfl ?_)
 show wpAny _ _ (sj (.ref l)>>=_) _ _ s;refine b6 (lN hol hdl ?_)
 simp only[kH,hx]
 refine b6 (mT (b6 (wpAny_setField ho hd (by simp) ?_)))
 show wpAny _ _ (newExc (.type "StopIteration") []>>=_) _ _ _
 refine b6 ?_
 simp only[newExc,newTuple]
 refine b6 (lh (b6 (m:=qD _ _) (qd (a:=mV) (by first|rfl| (simp only[qD];rfl)) ?_)) (by size_fits))
 refine lh ?_ (by size_fits)
 simp only[raiseNew]
 refine b6 (wpAny_handled ?_)
 rw[show A.in1.handled=none from hh]
 exact b6 (e6 (wpAny_throw (hE _ _ (((nS ..).extBut.push _).push _) ⟨_,jq _ rfl,rfl⟩)))
theorem Jl(I ax:Addr)(hne:ax≠I)(items:Array Value):Nx prog w I ax items (fun i h=>h.IsTupleIter I ax i∧h.IsTuple ax items) where
 item:=fun A i s x Q E st hx hQ=>SG st.1 st.2 hx fun h' hit sb=>hQ h' ⟨hit,st.2.at fun o e=> (sb.2 ax hne).trans e⟩ sb
 fin:=fun A i s Q E hh st hx hE=>Vc hh st.1 st.2 hx hE
 keep:=fun i h h' st h1 h2=> ⟨st.1.at h1,st.2.at h2⟩
 there:=fun i h st=>by obtain⟨_,e,_⟩:=st.1;exact je e
end
section
variable{prog:Program}{w:World}{A:js}{E:Value→c9→Prop}{s:c9}
variable{z TI TO i1 i2 l1 l2:Addr}{xs ys:Array Value}{S1 S2:Nat→Heap→Prop}
theorem DL{i:Nat}{I ax b:Addr}{h h':Heap}{items:Array Value}{St:Nat→Heap→Prop}(N:Nx prog w I ax items St)(st:St i h)(hs:qi b h h')(h1:I≠b)(h2:ax≠b):St i h':=N.keep i h h' st (fun o e=>hs I o h1 e) fun o e=>hs ax o h2 e
theorem SH(D:rW z TI TO i1 i2 l1 l2)(N1:Nx prog w i1 l1 xs S1)(N2:Nx prog w i2 l2 ys S2){k1 k2:Nat}{x y a b:Value}{Q:Value→c9→Prop}
  (hz:IsZip s.heap z TI TO .none) (hTI:mW s.heap TI (.ref i1) (.ref i2)) (hTO:mW s.heap TO a b) (h1:S1 k1 s.heap) (h2:S2 k2 s.heap) (hx:xs[k1]?=some x) (hy:ys[k2]?=some y)
  (hQ:∀h',IsZip h' z TI TO (pG s.heap.objs.size)→mW h' TO x y→S1 (k1+1) h'→S2 (k2+1) h'→mW h' s.heap.objs.size x y→
   (∀c o,c≠z→c≠TO→c≠i1→c≠i2→s.heap.get? c=some o→h'.get? c=some o)→Q (.ref s.heap.objs.size) {s with heap:=h'}):
  wpAny (model prog w) A (Builtin.«zip.__next__» ⟨[.ref z],[]⟩) (fun fin s'=>∃v,fin=.done (.ret v)∧Q v s') E s:=by
 show wpAny _ _ (field (.ref z) 2>>=_) _ _ _;refine b6 (ma hz rfl (x:=.bool false) rfl ?_)
 show wpAny _ _ (field (.ref z) 3>>=_) _ _ _;refine b6 (ma hz rfl (x:=.ref TI) rfl (b6 (lN hTI rfl ?_)))
 show wpAny _ _ (mi (.ref z)>>=_) _ _ _
 refine b6 ?_;unfold mi
 refine b6 (ma hz rfl (x:=.none) rfl (e6 ?_));simp only[if_true]
 refine b6 (mT (b6 (ma hz rfl (x:=.ref TO) rfl (b6 (lV hz (by simp) fun g1 z1 b1=>?_)))))
 replace z1:IsZip g1 z TI TO .ellipsis:=z1
 refine b6 ?_;simp only[rh,List.zipIdx_nil,qm,se]
 refine b6 (b6 (qR ?_));show wpAny _ _ (kL (.ref i1)>>=_) _ _ _
 refine b6 (N1.item _ k1 {s with heap:=g1} x _ _ (DL N1 h1 b1.extBut D.i1z D.l1z) hx fun g2 s12 b2=>e6 ?_)
 have t2:mW g2 TO a b:=b2.extBut _ _ D.TOi1 (b1.extBut _ _ D.TOz hTO)
 refine b6 (lN t2 rfl (b6 (qc (s:={s with heap:=g2}) t2 fun g3 t3 b3=>?_)))
 replace t3:mW g3 TO x b:=t3
 refine b6 (pj (e6 (b6 (b6 (qR ?_)))));show wpAny _ _ (kL (.ref i2)>>=_) _ _ _
 have s23:S2 k2 g3:=DL N2 (DL N2 (DL N2 h2 b1.extBut D.i2z D.l2z) b2.extBut D.i12.symm D.l2i1) b3.extBut D.TOi2.symm D.l2TO
 refine b6 (N2.item _ k2 {s with heap:=g3} y _ _ s23 hy fun g4 s24 b4=>e6 ?_)
 have t4:mW g4 TO x b:=b4.extBut _ _ D.TOi2 t3
 refine b6 (lN t4 rfl (b6 (qc (s:={s with heap:=g4}) t4 fun g5 t5 b5=>?_)))
 replace t5:mW g5 TO x y:=t5
 refine b6 (pj (e6 (e6 (b6 (lN t5 rfl (b6 (rR ?_)))))))
 have hsz:g5.objs.size=s.heap.objs.size:=by rw[b5.1,b4.1,b3.1,b2.1,b1.1]
 have z5:IsZip g5 z TI TO .ellipsis:=b5.extBut _ _ D.TOz.symm (b4.extBut _ _ D.i2z.symm (b3.extBut _ _ D.TOz.symm (b2.extBut _ _ D.i1z.symm z1)))
 have k5:∀c o,c≠z→c≠TO→c≠i1→c≠i2→s.heap.get? c=some o→g5.get? c=some o:=fun c o c1 c2 c3 c4 e=>b5.extBut _ _ c2 (b4.extBut _ _ c4 (b3.extBut _ _ c2 (b2.extBut _ _ c3 (b1.extBut _ _ c1 e))))
 have s15:S1 (k1+1) g5:=DL N1 (DL N1 (DL N1 s12 b3.extBut D.TOi1.symm D.l1TO) b4.extBut D.i12 D.l1i2) b5.extBut D.TOi1.symm D.l1TO
 have s25:S2 (k2+1) g5:=DL N2 s24 b5.extBut D.TOi2.symm D.l2TO
 have zlt:z<g5.objs.size:=je z5
 show wpAny _ _ (Builtin.SmallTypes.ownedTupleHandOut (.ref z) (.ref g5.objs.size)>>=_) _ _ _
 refine b6 ?_;unfold Builtin.SmallTypes.ownedTupleHandOut
 have z6:IsZip (g5.push {cls:=.type "tuple",data:=.seq #[x,y]}) z TI TO .ellipsis:=e8 _ z5
 refine b6 (lV z6 (by simp) fun g7 z7 b7=>?_)
 replace z7:IsZip g7 z TI TO (pG g5.objs.size):=z7
 refine lV (s:={s with heap:=g7}) z7 (by simp) fun g8 z8 b8=>?_
 replace z8:IsZip g8 z TI TO (pG g5.objs.size):=z8
 have up:∀c o,c≠z→g5.get? c=some o→g8.get? c=some o:=fun c o c1 e=>b8.extBut _ _ c1 (b7.extBut _ _ c1 (e8 _ e))
 have t8:mW g8 g5.objs.size x y:=b8.extBut _ _ (oJ zlt) (b7.extBut _ _ (oJ zlt) (jq _ rfl))
 rw[hsz] at z8 t8
 refine e6 ⟨_,rfl,?_⟩
 show Q (.ref g5.objs.size) _
 rw[hsz]
 exact hQ g8 z8 (up _ _ D.TOz t5) (N1.keep _ _ _ s15 (fun o e=>up _ o D.i1z e) fun o e=>up _ o D.l1z e) (N2.keep _ _ _ s25 (fun o e=>up _ o D.i2z e) fun o e=>up _ o D.l2z e) t8 fun c o c1 c2 c3 c4 e=>up c o c1 (k5 c o c1 c2 c3 c4 e)
theorem Vd(hh:A.handled=none)(D:rW z TI TO i1 i2 l1 l2)(N1:Nx prog w i1 l1 xs S1)(N2:Nx prog w i2 l2 ys S2){k1 k2:Nat}{a b:Value}{Q:tD→c9→Prop}
  (hz:IsZip s.heap z TI TO .none) (hTI:mW s.heap TI (.ref i1) (.ref i2)) (hTO:mW s.heap TO a b) (h1:S1 k1 s.heap) (h2:S2 k2 s.heap) (hend:xs[k1]?=none∨ys[k2]?=none)
  (hE:∀h' e,(∀c o,c≠z→c≠TO→c≠i1→c≠i2→s.heap.get? c=some o→h'.get? c=some o)→(∃o,h'.get? e=some o∧o.cls=.type "StopIteration")→E (.ref e) {s with heap:=h'}):
  wpAny (model prog w) A (Builtin.«zip.__next__» ⟨[.ref z],[]⟩) Q E s:=by
 show wpAny _ _ (field (.ref z) 2>>=_) _ _ _;refine b6 (ma hz rfl (x:=.bool false) rfl ?_)
 show wpAny _ _ (field (.ref z) 3>>=_) _ _ _;refine b6 (ma hz rfl (x:=.ref TI) rfl (b6 (lN hTI rfl ?_)))
 show wpAny _ _ (mi (.ref z)>>=_) _ _ _
 refine b6 ?_;unfold mi
 refine b6 (ma hz rfl (x:=.none) rfl (e6 ?_));simp only[if_true]
 refine b6 (mT (b6 (ma hz rfl (x:=.ref TO) rfl (b6 (lV hz (by simp) fun g1 z1 b1=>?_)))))
 replace z1:IsZip g1 z TI TO .ellipsis:=z1
 refine b6 ?_;simp only[rh,List.zipIdx_nil,qm,se]
 refine b6 (b6 (qR ?_));show wpAny _ _ (kL (.ref i1)>>=_) _ _ _
 have s11:=DL N1 h1 b1.extBut D.i1z D.l1z
 cases hx:xs[k1]? with
 |none=>
  refine b6 (N1.fin _ k1 {s with heap:=g1} _ _ hh s11 hx fun g2 e b2 ⟨oe,hoe,hce⟩=>?_)
  have z2:IsZip g2 z TI TO .ellipsis:=b2 _ _ D.i1z.symm z1
  have hez:e≠z:=fun q=>by rw[q,z2] at hoe;cases hoe;simp at hce
  exact lV (s:={s with heap:=g2}) z2 (by simp) fun g3 _ b3=>hE g3 e (fun c o c1 _ c3 _ q=>b3.extBut _ _ c1 (b2 _ _ c3 (b1.extBut _ _ c1 q))) ⟨oe,b3.extBut _ _ hez hoe,hce⟩
 |some x=>
  have hy:ys[k2]?=none:=hend.resolve_left (by rw[hx];simp)
  refine b6 (N1.item _ k1 {s with heap:=g1} x _ _ s11 hx fun g2 s12 b2=>e6 ?_)
  have t2:mW g2 TO a b:=b2.extBut _ _ D.TOi1 (b1.extBut _ _ D.TOz hTO)
  refine b6 (lN t2 rfl (b6 (qc (s:={s with heap:=g2}) t2 fun g3 t3 b3=>?_)))
  refine b6 (pj (e6 (b6 (b6 (qR ?_)))));show wpAny _ _ (kL (.ref i2)>>=_) _ _ _
  have s23:S2 k2 g3:=DL N2 (DL N2 (DL N2 h2 b1.extBut D.i2z D.l2z) b2.extBut D.i12.symm D.l2i1) b3.extBut D.TOi2.symm D.l2TO
  refine b6 (N2.fin _ k2 {s with heap:=g3} _ _ hh s23 hy fun g4 e b4 ⟨oe,hoe,hce⟩=>?_)
  have z4:IsZip g4 z TI TO .ellipsis:=b4 _ _ D.i2z.symm (b3.extBut _ _ D.TOz.symm (b2.extBut _ _ D.i1z.symm z1))
  have hez:e≠z:=fun q=>by rw[q,z4] at hoe;cases hoe;simp at hce
  exact lV (s:={s with heap:=g4}) z4 (by simp) fun g5 _ b5=>hE g5 e (fun c o c1 c2 c3 c4 q=>b5.extBut _ _ c1 (b4 _ _ c4 (b3.extBut _ _ c2 (b2.extBut _ _ c3 (b1.extBut _ _ c1 q))))) ⟨oe,b5.extBut _ _ hez hoe,hce⟩
theorem Dl(D:rW z TI TO i1 i2 l1 l2)(N1:Nx prog w i1 l1 xs S1)(N2:Nx prog w i2 l2 ys S2){k1 k2:Nat}{x y a b:Value}{Q:Option Value→c9→Prop}
  (hz:IsZip s.heap z TI TO .none) (hTI:mW s.heap TI (.ref i1) (.ref i2)) (hTO:mW s.heap TO a b) (h1:S1 k1 s.heap) (h2:S2 k2 s.heap) (hx:xs[k1]?=some x) (hy:ys[k2]?=some y)
  (hQ:∀h',IsZip h' z TI TO (pG s.heap.objs.size)→mW h' TO x y→S1 (k1+1) h'→S2 (k2+1) h'→mW h' s.heap.objs.size x y→
   (∀c o,c≠z→c≠TO→c≠i1→c≠i2→s.heap.get? c=some o→h'.get? c=some o)→Q (some (.ref s.heap.objs.size)) {s with heap:=h'}):wpAny (model prog w) A (oz (.ref z)) Q E s:=by
 have hT:s.TypeIs (.ref z) "zip":=⟨_,hz,rfl⟩
 unfold oz
 refine b6 (oj (lE (name:=nZ "__next__") hT ou ?_))
 refine lD ou hT PySem.F.entry_zip_next (SH D N1 N2 hz hTI hTO h1 h2 hx hy fun h' a1 a2 a3 a4 a5 a6=>?_) (PySem.F.args_zip_next_1 _)
 exact e6 (hQ h' a1 a2 a3 a4 a5 a6)
theorem Ei(hh:A.handled=none)(D:rW z TI TO i1 i2 l1 l2)(N1:Nx prog w i1 l1 xs S1)(N2:Nx prog w i2 l2 ys S2){k1 k2:Nat}{a b:Value}{Q:Option Value→c9→Prop}
  (hz:IsZip s.heap z TI TO .none) (hTI:mW s.heap TI (.ref i1) (.ref i2)) (hTO:mW s.heap TO a b) (h1:S1 k1 s.heap) (h2:S2 k2 s.heap) (hend:xs[k1]?=none∨ys[k2]?=none)
  (hQ:∀h',(∀c o,c≠z→c≠TO→c≠i1→c≠i2→s.heap.get? c=some o→h'.get? c=some o)→Q none {s with heap:=h'}):wpAny (model prog w) A (oz (.ref z)) Q E s:=by
 have hT:s.TypeIs (.ref z) "zip":=⟨_,hz,rfl⟩
 unfold oz
 refine b6 (oj (lE (name:=nZ "__next__") hT ou ?_))
 refine lD ou hT PySem.F.entry_zip_next (Vd (A:=A.in1) hh D N1 N2 hz hTI hTO h1 h2 hend fun h' e hk ⟨o,ho,hc⟩=>?_) (PySem.F.args_zip_next_1 _)
 exact b6 (qX (T:="StopIteration") (b:=true) ⟨o,ho,hc⟩ isSubtype_stop (e6 (hQ _ hk)))
theorem SI{t u:Addr}{xs ys:Array Value}{Q:Value→c9→Prop}(ht:s.heap.IsTuple t xs)(hu:s.heap.IsTuple u ys)
  (h:∀h' n,n=s.heap.objs.size→IsZip h' (n+4) (n+2) (n+3) .none→mW h' (n+2) (.ref n) (.ref (n+1))→mW h' (n+3) .none .none→h'.IsTupleIter n t 0→h'.IsTupleIter (n+1) u 0→
   (∀c o,s.heap.get? c=some o→h'.get? c=some o)→Q (.ref (n+4)) {s with heap:=h'}):wpAny (model prog w) A (call (.type "zip") [.ref t,.ref u]) Q E s:=by
 have M:Meets (Builtin.«zip.__new__» ⟨[.type "zip",.ref t,.ref u],[]⟩) (fun _ R s=>s.heap.IsTuple t xs∧s.heap.IsTuple u ys∧
   ∀h',h'=((((s.heap.push {cls:=.type "tuple_iterator",data:=.fields #[.ref t,.int 0 0]}).push {cls:=.type "tuple_iterator",data:=.fields #[.ref u,.int 0 0]}).push {cls:=.type "tuple",data:=.seq #[.ref s.heap.objs.size,.ref (s.heap.objs.size+1)]}).push {cls:=.type "tuple",data:=.seq #[.none,.none]}).push
     {cls:=.type "zip",data:=.fields #[.none,.bool false,.bool false,.ref (s.heap.objs.size+2),.ref (s.heap.objs.size+3)]}→R (.ok (.ret (.ref (s.heap.objs.size+4)))) {s with heap:=h'}):=
  .of_wp fun prog w A R s h=>by
   obtain⟨hp,g,d,tk,os⟩:=s
   obtain⟨hl1,hl2,h⟩:=h
   have hsub:=sub_zip
   have hL1:Heap.IsTuple (rX ⟨hp,g,d,tk,os⟩) t xs:=hl1
   have hL2:Heap.IsTuple (rX ⟨hp.push {cls:=.type "tuple_iterator",data:=.fields #[.ref t,.int 0 0]},g,d,tk,os⟩) u ys:=hl2.at fun o e=>e8 _ e
   wp_walk using oZ hL1,oZ hL2
   simp only[k7] at h ⊢
   exact⟨_,rfl,h _ rfl⟩
 refine callType_new PySem.F.called_zip (by decide) (PySem.F.typeCall_zip_2 _ _) (PySem.F.newCall_zip_2 _ _) (fun obj=>PySem.F.args_object_init_3 obj _ _) PySem.F.entry_zip_new M ⟨ht,hu,?_⟩
 rintro h' rfl
 have sz:∀(h:Heap) (o:Obj),(h.push o).objs.size=h.objs.size+1:=fun h o=>k7 ..
 have up:∀{h:Heap} {c:Addr} {o o':Obj},h.get? c=some o→(h.push o').get? c=some o:=fun e=>e8 _ e
 have g0:∀(h:Heap) (o:Obj) (n:Nat),h.objs.size=n→o.isFreed=false→(h.push o).get? n=some o:=fun h o n e f=>by rw[←e];exact jq _ f
 refine⟨⟨_,g0 _ _ _ (by simp[sz]) rfl,rfl⟩,h _ _ rfl (g0 _ _ _ (by simp[sz]) rfl) (up (up (g0 _ _ _ (by simp[sz]) rfl))) (up (g0 _ _ _ (by simp[sz]) rfl)) ⟨_,up (up (up (up (g0 _ _ _ rfl rfl)))),rfl,rfl⟩ ⟨_,up (up (up (g0 _ _ _ (by simp[sz]) rfl))),rfl,rfl⟩ fun c o e=>up (up (up (up (up e))))⟩
end
end ZpT
namespace L2
open PySem PySem.Spec PyProof.Rows
noncomputable def gf(K:b9)(t u:Addr):It:=⟨fun i H=>∃xs ys x y,DN K H t xs∧DN K H u ys∧xs[i]?=some x∧ys[i]?=some y,
 fun i H v H'=>∃p x y,H p=none∧v=.ref p∧H'=upd H p (.tup [x,y])∧(∀xs,DN K H t xs→xs[i]?=some x)∧∀ys,DN K H u ys→ys[i]?=some y,fun i H=>∃xs ys,DN K H t xs∧DN K H u ys∧(xs.length≤i∨ys.length≤i)⟩
section
variable{X:Cx}
theorem Inv.turns{pins:List (Addr×Obj)}{σ:St}{H:Hp}{s:c9}{h':Heap}{t':Nat}{ch:List Addr}(I:Inv X pins σ H s)(hf:∀b∈ch,Gy X pins H b)(k:∀b o,b∉ch→s.heap.get? b=some o→h'.get? b=some o):Inv X pins σ H {s with heap:=h',toks:=t'}:=by
 refine I.call' (s':={s with heap:=h',toks:=t'}) (ch:=ch) rfl ⟨fun b o e _ _ hb=>k b o hb e,fun b o e _ _ hb=> ⟨o.slots,k b o hb e⟩,fun _ _ _ n _=>n,fun b o e hb=> ⟨o,k b o hb e⟩,fun _ _ e=>e,fun _ _ _ e=>e,fun b ps e=> ⟨#[],by rw[e];simp⟩⟩ (I.hok.by_keep fun b o hb e=>k b o (fun z=>hb (hf b z).1) e) I.bare fun b hb=>?_
 obtain⟨_,q2,q3,q4,q5,q6⟩:=hf b hb
 exact⟨q4,q2,q5,q6⟩
theorem SJ{P:Program}{w:World}{K:b9}{es:List Expr}{k:Nat}{pos:Pos}{z TI TO i1 i2 t u:Addr}(D:rW z TI TO i1 i2 t u):
  Turn P w K (.Tuple es k pos) (gf K t u) [z,TI,TO,i1,i2] z (fun i h=>IsZip h z TI TO .none∧mW h TI (.ref i1) (.ref i2)∧(∃a b,mW h TO a b)∧h.IsTupleIter i1 t i∧h.IsTupleIter i2 u i) where
 mem:=by simp
 obj:=fun i h st b hb=>by
  obtain⟨s1,s2,⟨a,c,s3⟩,⟨o4,e4,c4,d4⟩,⟨o5,e5,c5,d5⟩⟩:=st
  simp only[i6,jk,or_false] at hb
  rcases hb with rfl|rfl|rfl|rfl|rfl
  ·exact⟨_,s1,fun v q=>by have q:tI _=qA v:=q;cases q⟩
  ·exact⟨_,s2,fun v q=>by have q:tm _ _=qA v:=q;cases q⟩
  ·exact⟨_,s3,fun v q=>by have q:tm _ _=qA v:=q;cases q⟩
  ·exact⟨o4,e4,fun v q=>by rw[d4] at q;cases q⟩
  ·exact⟨o5,e5,fun v q=>by rw[d5] at q;cases q⟩
 keep:=fun i h h' st kk=>by
  obtain⟨s1,s2,⟨a,c,s3⟩,s4,s5⟩:=st
  exact⟨kk z (by simp) _ s1,kk TI (by simp) _ s2,⟨a,c,kk TO (by simp) _ s3⟩,s4.at fun o e=>kk i1 (by simp) o e,s5.at fun o e=>kk i2 (by simp) o e⟩
 item:=by
  intro X hP hw hK hc i pins s σ H E I hf st hg
  subst hP hw hK
  obtain⟨xs,ys,x,y,hq1,hq2,hx,hy⟩:=hg
  obtain⟨its,rv,p,hz⟩:=I.tuple hq1
  obtain⟨its2,rv2,p2,hz2⟩:=I.tuple hq2
  obtain⟨a,ha,ra⟩:=rv.get hx
  obtain⟨b,hb,rb⟩:=rv2.get hy
  obtain⟨s1,s2,⟨c,d,s3⟩,s4,s5⟩:=st
  refine ZpT.Dl D (ZpT.Jl i1 t D.l1i1 its.toArray) (ZpT.Jl i2 u D.l2i2 its2.toArray) s1 s2 s3 ⟨s4,p⟩ ⟨s5,p2⟩ (by simpa using ha) (by simpa using hb) fun h1 z1 to1 a1 a2 n1 k1=>?_
  refine⟨_,rfl,wpAny_letOwnedTupleGo_zip (s:={s with heap:=h1}) z1 fun h2 z2 sb2=>?_⟩
  have hlt:∀v o,s.heap.get? v=some o→v≠s.heap.objs.size:=fun v o e=>jY (je e)
  have zs:z≠s.heap.objs.size:=hlt z _ s1
  have up2:∀v o,v≠z→h1.get? v=some o→h2.get? v=some o:=fun v o hv e=> (sb2.2 v hv).trans e
  have hT:H s.heap.objs.size=none:=I.hok.fresh (jb _)
  have kk:∀v o,v∉[z,TI,TO,i1,i2]→s.heap.get? v=some o→h2.get? v=some o:=fun v o hv e=>by
   simp only[i6,jk,or_false,not_or] at hv
   exact up2 v o hv.1 (k1 v o hv.1 hv.2.2.1 hv.2.2.2.1 hv.2.2.2.2 e)
  have I1:Inv X pins σ (upd H s.heap.objs.size (.tup [x,y])) {s with heap:=h2}:=by
   have ne:∀v o,s.heap.get? v=some o→upd H s.heap.objs.size (.tup [x,y]) v=H v:=fun v o e=>AO (hlt v o e)
   refine I.call' (s':={s with heap:=h2}) (ch:=[z,TI,TO,i1,i2]) rfl ⟨fun v o e _ _ hv=>kk v o hv e,fun v o e _ _ hv=> ⟨o.slots,kk v o hv e⟩,fun v o e n _=>by rw[ne v o e];exact n,fun v o e hv=> ⟨o,kk v o hv e⟩,fun v xs e=>?_,fun v o xs e=>?_,fun v ps e=>?_⟩ ?_ I.bare fun v hv=>?_
   ·rw[AO (AL e hT)];exact e
   ·rw[AO (AL e hT)];exact e
   ·exact⟨#[],by rw[AO (AL e hT),e];simp⟩
   ·intro v o e
    by_cases hv:v=s.heap.objs.size
    ·subst hv
     rw[AY] at e;cases e
     exact⟨by show 2≤sizeLine;decide,[a,b],.cons ra (.cons rb .nil),⟨_,up2 _ _ (Ne.symm zs) n1,rfl,_,rfl⟩⟩
    ·rw[AO hv] at e
     refine(I.hok v o e).stay (fun c w' hc' q=>kk c w' (fun hm=>?_) q) (fun c q=>by rw[AO (AL q hT)];exact q) fun c xs q=>by rw[AO (AL q hT)];exact q
     have hn:=(hf c hm).1
     rcases hc' with rfl|hc'
     ·rw[e] at hn;cases hn
     ·rw[hc'] at hn;cases hn
   ·obtain⟨_,q2,q3,q4,q5,q6⟩:=hf v hv
    exact⟨q4,q2,q5,q6⟩
  refine⟨.ref s.heap.objs.size,_,I1,rfl,⟨_,x,y,hT,rfl,rfl,fun xs' q=>by rw[I.tuple_inj q hq1];exact hx,fun ys' q=>by rw[I.tuple_inj q hq2];exact hy⟩,⟨z2,up2 TI _ D.TIz (k1 TI _ D.TIz D.TITO D.TIi1 D.TIi2 s2),⟨_,_,up2 TO _ D.TOz to1⟩,a1.1.at fun o e=>up2 i1 o D.i1z e,a2.1.at fun o e=>up2 i2 o D.i2z e⟩,fun v hv=>?_⟩
  have hvo:∃o,s.heap.get? v=some o:=by
   simp only[i6,jk,or_false] at hv
   rcases hv with rfl|rfl|rfl|rfl|rfl
   ·exact⟨_,s1⟩
   ·exact⟨_,s2⟩
   ·exact⟨_,s3⟩
   ·obtain⟨o,e,_⟩:=s4;exact⟨o,e⟩
   ·obtain⟨o,e,_⟩:=s5;exact⟨o,e⟩
  obtain⟨o,e⟩:=hvo
  rw[AO (hlt v o e)]
  exact(hf v hv).1
 done:=by
  intro X hP hw hK hc i pins s σ H E I hf st hg
  subst hP hw hK
  obtain⟨xs,ys,hq1,hq2,hl⟩:=hg
  obtain⟨its,rv,p,hz⟩:=I.tuple hq1
  obtain⟨its2,rv2,p2,hz2⟩:=I.tuple hq2
  have l1:=rv.length
  have l2:=rv2.length
  obtain⟨s1,s2,⟨c,d,s3⟩,s4,s5⟩:=st
  refine ZpT.Ei (I.ok.hd hc) D (ZpT.Jl i1 t D.l1i1 its.toArray) (ZpT.Jl i2 u D.l2i2 its2.toArray) s1 s2 s3 ⟨s4,p⟩ ⟨s5,p2⟩ (hl.imp (fun q=>by simp;omega) fun q=>by simp;omega) fun h' k1=> ⟨rfl,I.turns (t':=s.toks) hf fun v o hv e=>?_⟩
  simp only[i6,jk,or_false,not_or] at hv
  exact k1 v o hv.1 hv.2.2.1 hv.2.2.2.1 hv.2.2.2.2 e
 self:=fun _ _ _ _ _ st h=>pU st.1 h
theorem LZ:ku "zip" =some (.type "zip"):=by decide+kernel
noncomputable def gh(K:b9)(ta:TA):TI:=fun σ H R=>ta σ H fun vs H1=>∃t u,vs=[.ref t,.ref u]∧(∃xs,DN K H1 t xs)∧(∃ys,DN K H1 u ys)∧R (gf K t u) H1
theorem ZJ{a b:Expr}{ta:TA}{p pos tpos:Pos}{es:List Expr}{k:Nat}(hg:Gl X "zip")(hm:X.mg "zip" =none)(ha:PA X [a,b] ta)(hs:i7 [a,b] X.env=[(false,eval a X.env),(false,eval b X.env)]:=by rfl)(hs2:i7 [b] X.env=[(false,eval b X.env)]:=by rfl):
  PI X (.Tuple es k tpos) (.Call (.Name "zip" p) [a,b] [] pos) (gh X.K ta):=by
 intro pins s σ H R I h
 refine Call_ (DQ I hg hm LZ (my (Az (ha pos pins s σ H _ I h) fun us s1 ⟨vs,H1,I1,r1,q1⟩=>?_) (by rw[hs,hs2]) (by rw[hs2];rfl)))
 obtain⟨t,u,rfl,⟨xs,h1⟩,⟨ys,h2⟩,q⟩:=q1
 obtain⟨v1,v2,rfl,e1,e2⟩:=Ia r1
 cases e1;cases e2
 obtain⟨its,rv,p1,_⟩:=I1.tuple h1
 obtain⟨its2,rv2,p2,_⟩:=I1.tuple h2
 have a1:t<s1.heap.objs.size:=by obtain⟨_,e,_⟩:=p1;exact je e
 have a2:u<s1.heap.objs.size:=by obtain⟨_,e,_⟩:=p2;exact je e
 refine ZpT.SI (xs:=its.toArray) (ys:=its2.toArray) p1 p2 fun h' n hn z1 z2 z3 z4 z5 kp=>?_
 subst hn
 refine pU z1 ?_
 refine⟨_,_,_,_,H1,rfl,I1.kept (t':=s1.toks) kp,SJ (zipApart_new a1 a2),⟨z1,z2,⟨_,_,z3⟩,z4,z5⟩,fun b hb=>?_,q⟩
 have hge:s1.heap.objs.size≤b:=by
  simp only[i6,jk,or_false] at hb
  rcases hb with rfl|rfl|rfl|rfl|rfl<;>omega
 exact I1.fpOk hge (I1.hok.fresh hge)
end
open PySem.Calls
section
variable{X:Cx}
noncomputable def Xa(K:b9)(H:Hp)(a:Addr)(xs:List V):Prop:=CM K H a xs∨DN K H a xs
theorem Inv.walk{pins:List (Addr×Obj)}{σ:St}{H:Hp}{s:c9}{a:Addr}{xs:List V}(I:Inv X pins σ H s)(hq:Xa X.K H a xs):∃its:List Value,Vals xs its∧a<s.heap.objs.size∧∀(A:js) (E:Value→c9→Prop) (Q:Value→c9→Prop),A.handled=none→
  (∀(o:Obj) (St:Nat→Heap→Prop),Walks X.prog X.w A s.heap.objs.size [s.heap.objs.size,a] [s.heap.objs.size] its.length (fun i v=>its[i]?=some v) St→St 0 (s.heap.push o)→Q (.ref s.heap.objs.size) {s with heap:=s.heap.push o})→wpAny (model X.prog X.w) A (sJ (.ref a)) Q E s:=by
 rcases hq with hq|hq
 ·obtain⟨its,rv,p,_⟩:=I.list hq
  have lt:a<s.heap.objs.size:=by obtain⟨_,_,e,_⟩:=p;exact je e
  refine⟨its,rv,lt,fun A E Q hh h=>nE p.isList ?_⟩
  have W:=Walks.list (prog:=X.prog) (w:=X.w) (A:=A) hh s.heap.objs.size a (jY lt) its.toArray
  have W':Walks X.prog X.w A s.heap.objs.size [s.heap.objs.size,a] [s.heap.objs.size] its.length (fun i v=>its[i]?=some v) (fun i h=>h.IsListIter s.heap.objs.size a i∧h.IsList a its.toArray):=by simpa using W
  exact h _ _ W' ⟨⟨_,jq _ rfl,rfl,rfl⟩,p.isList.push _⟩
 ·obtain⟨its,rv,p,_⟩:=I.tuple hq
  have lt:a<s.heap.objs.size:=by obtain⟨_,e,_⟩:=p;exact je e
  refine⟨its,rv,lt,fun A E Q hh h=>oZ (items:=its.toArray) p ?_⟩
  have W:=Walks.tuple (prog:=X.prog) (w:=X.w) (A:=A) hh s.heap.objs.size a (jY lt) its.toArray
  have W':Walks X.prog X.w A s.heap.objs.size [s.heap.objs.size,a] [s.heap.objs.size] its.length (fun i v=>its[i]?=some v) (fun i h=>h.IsTupleIter s.heap.objs.size a i∧h.IsTuple a its.toArray):=by simpa using W
  have p':s.heap.IsTuple a its.toArray:=p
  exact h _ _ W' ⟨⟨_,jq _ rfl,rfl,rfl⟩,p'.at fun o e=>e8 _ e⟩
theorem EJ{s:c9}{o:Obj}{h':Heap}(hk:∀b x,b∉[s.heap.objs.size]→(s.heap.push o).get? b=some x→h'.get? b=some x):∀b x,s.heap.get? b=some x→h'.get? b=some x:=fun b x e=>
 hk b x (by simpa using jY (je e)) (e8 _ e)
theorem Oh{bs:List Bool}:∀{us:List Value},Vals (bs.map V.bl) us→us=bs.map o8:=by
 induction bs with
 |nil=>intro us r;rw[mP] at r;cases r;rfl
 |cons b bs ih=>
  intro us r
  rw[jr] at r
  cases r with
  |cons r1 r2=>
   cases r1
   rw[ih r2];rfl
theorem La(bs:List Bool):((j6 bs.length).all fun i=> (bs[i]?).getD true)=bs.all id:=LSm.range_all bs
theorem NO(bs:List Bool):((j6 bs.length).any fun i=> (bs[i]?).getD false)=bs.any id:=LSm.range_any bs
theorem SK(hc:X.calm=true):BJ X (.builtin "all") (fun vs H Q=>∃(a:Addr) (bs:List Bool),vs=[.ref a]∧Xa X.K H a (bs.map V.bl)∧Q (.bl (bs.all id)) H):=by
 intro pins s σ H vs us Q I r h
 obtain⟨a,bs,rfl,hq,q⟩:=h
 obtain⟨u,rfl,ru⟩:=Dy r
 cases ru
 obtain⟨its,rv,lt,wk⟩:=I.walk hq
 have e:=Oh rv
 refine call_all_walk (wk X.A.in1 _ _ (I.ok.hd hc) fun o St W st=> ⟨_,_,_,_,_,_,fun i=> (bs[i]?).getD true,rfl,W,st,fun i v s' Q' E' hP hQ=>?_,fun h' tk hk=>?_⟩)
 ·rw[e,e9] at hP
  cases hb:bs[i]? with
  |none=>rw[hb] at hP;cases hP
  |some b=>
   rw[hb] at hP
   cases hP
   simp only[hb,rg] at hQ
   exact mB hQ
 ·have e2:its.length=bs.length:=by rw[e,e7]
  rw[e2,La]
  exact⟨.bl _,H,I.kept (t':=tk) (EJ hk),rfl,q⟩
theorem SL(hc:X.calm=true):BJ X (.builtin "any") (fun vs H Q=>∃(a:Addr) (bs:List Bool),vs=[.ref a]∧Xa X.K H a (bs.map V.bl)∧Q (.bl (bs.any id)) H):=by
 intro pins s σ H vs us Q I r h
 obtain⟨a,bs,rfl,hq,q⟩:=h
 obtain⟨u,rfl,ru⟩:=Dy r
 cases ru
 obtain⟨its,rv,lt,wk⟩:=I.walk hq
 have e:=Oh rv
 refine call_any_walk (wk X.A.in1 _ _ (I.ok.hd hc) fun o St W st=> ⟨_,_,_,_,_,_,fun i=> (bs[i]?).getD false,rfl,W,st,fun i v s' Q' E' hP hQ=>?_,fun h' tk hk=>?_⟩)
 ·rw[e,e9] at hP
  cases hb:bs[i]? with
  |none=>rw[hb] at hP;cases hP
  |some b=>
   rw[hb] at hP
   cases hP
   simp only[hb,rg] at hQ
   exact mB hQ
 ·have e2:its.length=bs.length:=by rw[e,e7]
  rw[e2,NO]
  exact⟨.bl _,H,I.kept (t':=tk) (EJ hk),rfl,q⟩
theorem CI{ns:List Int}{us:List Value}(r:Vals (ns.map V.int) us)(i:Nat)(v:Value)(h:us[i]?=some v):∃t,v=.int (ns.getD i 0) t:=by
 have hl:=r.length
 have hi:i<ns.length:=by
  have:=(jc.mp h).1
  rw[e7] at hl;omega
 obtain⟨u,e,t,rfl⟩:=r.get (i:=i) (x:=.int ns[i]) (by simp[hi])
 rw[h] at e;cases e
 exact⟨t,by simp[m6,hi]⟩
noncomputable def HW(ns:List Int)(m:Int):Prop:=m∈ns∧∀n∈ns,m≤n
noncomputable def Oi(ns:List Int)(m:Int):Prop:=m∈ns∧∀n∈ns,n≤m
theorem HX{ns:List Int}{i:Nat}(h:i<ns.length):ns.getD i 0∈ns:=by simp[m6,h]
theorem QT(hc:X.calm=true):BJ X (.builtin "min") (fun vs H Q=>∃(a:Addr) (ns:List Int),vs=[.ref a]∧Xa X.K H a (ns.map V.int)∧0<ns.length∧∀m,HW ns m→Q (.int m) H):=by
 intro pins s σ H vs us Q I r h
 obtain⟨a,ns,rfl,hq,h0,q⟩:=h
 obtain⟨u,rfl,ru⟩:=Dy r
 cases ru
 obtain⟨its,rv,lt,wk⟩:=I.walk hq
 have hl:its.length=ns.length:=by have:=rv.length;rw[e7] at this;exact this.symm
 refine call_min_walk (wk X.A.in1 _ _ (I.ok.hd hc) fun o St W st=> ⟨_,_,_,_,_,_,_,rfl,W,st,fun b hb=>?_,by omega,CmpOf.ints_lt (fun i=>ns.getD i 0) (fun i v hv=>CI rv i v hv),fun v h' tk hP hk=>?_⟩)
 ·show b< (s.heap.push o).objs.size
  rw[k7]
  simp only[i6,jk,or_false] at hb
  rcases hb with rfl|rfl
  ·exact m5 _
  ·exact md lt
 ·obtain⟨t,rfl⟩:=CI rv _ v hP
  obtain⟨b1,b2⟩:=argBest_lt (fun i=>ns.getD i 0) (its.length-1)
  exact⟨.int _,H,I.kept (t':=tk) (EJ hk),⟨t,rfl⟩,q _ ⟨HX (by omega),fun n hn=>by
   obtain⟨j,hj,rfl⟩:=oO hn
   have:=b2 j (by omega)
   simpa[m6,hj] using this⟩⟩
theorem QU(hc:X.calm=true):BJ X (.builtin "max") (fun vs H Q=>∃(a:Addr) (ns:List Int),vs=[.ref a]∧Xa X.K H a (ns.map V.int)∧0<ns.length∧∀m,Oi ns m→Q (.int m) H):=by
 intro pins s σ H vs us Q I r h
 obtain⟨a,ns,rfl,hq,h0,q⟩:=h
 obtain⟨u,rfl,ru⟩:=Dy r
 cases ru
 obtain⟨its,rv,lt,wk⟩:=I.walk hq
 have hl:its.length=ns.length:=by have:=rv.length;rw[e7] at this;exact this.symm
 refine call_max_walk (wk X.A.in1 _ _ (I.ok.hd hc) fun o St W st=> ⟨_,_,_,_,_,_,_,rfl,W,st,fun b hb=>?_,by omega,CmpOf.ints_gt (fun i=>ns.getD i 0) (fun i v hv=>CI rv i v hv),fun v h' tk hP hk=>?_⟩)
 ·show b< (s.heap.push o).objs.size
  rw[k7]
  simp only[i6,jk,or_false] at hb
  rcases hb with rfl|rfl
  ·exact m5 _
  ·exact md lt
 ·obtain⟨t,rfl⟩:=CI rv _ v hP
  obtain⟨b1,b2⟩:=argBest_gt (fun i=>ns.getD i 0) (its.length-1)
  exact⟨.int _,H,I.kept (t':=tk) (EJ hk),⟨t,rfl⟩,q _ ⟨HX (by omega),fun n hn=>by
   obtain⟨j,hj,rfl⟩:=oO hn
   have:=b2 j (by omega)
   simpa[m6,hj] using this⟩⟩
theorem Lb:BJ X (.type "tuple") (fun vs H Q=>∃a xs,vs=[.ref a]∧CM X.K H a xs∧∀p,H p=none→Q (.ref p) (upd H p (.tup xs))):=by
 intro pins s σ H vs us Q I r h
 obtain⟨a,xs,rfl,hq,q⟩:=h
 obtain⟨u,rfl,ru⟩:=Dy r
 cases ru
 obtain⟨its,rv,p,hz⟩:=I.list hq
 have hl:=rv.length
 refine call_tuple_list p.isList (fun h' hk=>?_) (by simpa[←hl] using hz)
 have hn:s.heap.get? h'.objs.size=none:=by
  cases e:s.heap.get? h'.objs.size with
  |none=>rfl
  |some o=>exact absurd (je (hk _ _ e)) (k8 _)
 exact⟨.ref h'.objs.size,upd H h'.objs.size (.tup xs),I.laidF (t':=s.toks) (fun b u e=>e8 _ (hk b u e)) hn ⟨hz,its,rv,⟨_,jq _ rfl,rfl,_,rfl⟩⟩,rfl,q _ (I.hok.none_of hn)⟩
theorem HY:BJ X (.type "list") (fun vs H Q=>∃a xs,vs=[.ref a]∧Xa X.K H a xs∧∀p,H p=none→Q (.ref p) (upd H p (.lst xs))):=by
 intro pins s σ H vs us Q I r h
 obtain⟨a,xs,rfl,hq,q⟩:=h
 obtain⟨u,rfl,ru⟩:=Dy r
 cases ru
 have hf:H s.heap.objs.size=none:=I.hok.fresh (jb _)
 have fin:∀(its:List Value) (h':Heap) (c:Nat),Vals xs its→xs.length≤sizeLine→(∀b o',s.heap.get? b=some o'→h'.get? b=some o')→h'.get? s.heap.objs.size=some {cls:=.type "list",dict:=none,data:=.seq its.toArray c,slots:=#[]}→EP X pins σ Q (.ref s.heap.objs.size) {s with heap:=h'}:=fun its h' c rv hz hk hD=>
  ⟨.ref s.heap.objs.size,upd H s.heap.objs.size (.lst xs),I.laid (t':=s.toks) hk (jb _) ⟨hz,its,c,rv,hD⟩,rfl,q _ hf⟩
 rcases hq with hq|hq
 ·obtain⟨its,rv,⟨o,n,ho,hc,hd,hdt⟩,hz⟩:=I.list hq
  have hl:=rv.length
  exact call_list_seq (hsz:=by simpa[←hl] using hz) a (.inl rfl) ho hc hdt fun h' c' hk hD=>fin its h' c' rv hz hk hD
 ·obtain⟨its,rv,⟨o,ho,hc,n,hdt⟩,hz⟩:=I.tuple hq
  have hl:=rv.length
  exact call_list_seq (hsz:=by simpa[←hl] using hz) a (.inr rfl) ho hc hdt fun h' c' hk hD=>fin its h' c' rv hz hk hD
end
end L2
namespace HT
open PySem PySem.Spec PyProof.Rows
section
open PySem.SeqAt
open PySem.AutoSeq1 (wpAny_loadPart')
open PySem.MeetsSeq PySem.MeetsSeq2 PySem.MeetsSeq3
end
section
variable{prog:Program}{w:World}{A:js}{E:Value→c9→Prop}{s:c9}
theorem Lc(l b:Addr)(items items2:Array Value)(n n2:Nat)(dd dd2:Option Addr)(sl sl2:Array (Option Value))(hc0:items.isEmpty=true):
  Meets (Builtin.«tuple.__add__» ⟨[.ref l,.ref b],[]⟩) (fun _ R s=>s.heap.get? l=some ⟨.type "tuple",dd,.seq items n,sl⟩∧s.heap.get? b=some ⟨.type "tuple",dd2,.seq items2 n2,sl2⟩∧R (.ok (.ret (Value.ref b))) s):=
 .of_wp fun prog w A R s h=>by
  obtain⟨hp,g,d,tk,os⟩:=s
  obtain⟨hl,hb,h⟩:=h
  have f2:=oV
  wp_walk using AutoSeq1.wpAny_loadPart' hl,AutoSeq1.wpAny_loadPart' hb
  exact⟨_,rfl,h⟩
theorem SM{t b:Addr}{ws:List Value}{Q:Value→c9→Prop}(ht:IsTup s.heap t #[])(hb:IsTup s.heap b ws.toArray)(h1:Q (.ref b) s):wpAny (model prog w) A (nF .Add (.ref t) (.ref b)) Q E s:=by
 obtain⟨⟨cls,dd,data,sl⟩,ho,hc,n,hd⟩:=id ht
 obtain⟨⟨cls2,dd2,data2,sl2⟩,ho2,hc2,n2,hd2⟩:=id hb
 simp only at hc hd hc2 hd2
 subst hc hd hc2 hd2
 exact sP ⟨_,ho,rfl⟩ ⟨_,ho2,rfl⟩ qZ sC pI pB (oR _ _) (Lc t b _ ws.toArray n n2 dd dd2 sl sl2 rfl) ⟨ho,ho2,h1⟩
theorem Dx{t sl:Addr}{items:Array Value}{vl vu:Value}{lo hi:Option Int}{Q:Value→c9→Prop}(ht:IsTup s.heap t items)(hs:s.heap.IsSliceOf sl vl vu .none)(pl:rH vl lo)(pu:rH vu hi)
  (h1:BO items.size 0 lo=0) (h2:BO items.size items.size hi=items.size) (h:Q (.ref t) s):wpAny (model prog w) A (sr (.ref t) (.ref sl)) Q E s:=by
 obtain⟨os,hos,hcs,hds⟩:=id hs
 have hTs:s.TypeIs (.ref sl) "slice":=⟨os,hos,hcs⟩
 unfold sr
 try with_reducible refine kh ?_
 first|refine b6 (e6 ?_)|skip
 refine b6 (wpAny_sequenceKey ht.typeIs (by decide) ?_)
 refine b6 (lE (name:=nZ "__getitem__") ht.typeIs ly
  (lD ly ht.typeIs entry_tuple_getitem ?_ (args_tuple_getitem _ _)))
 show wpAny _ _ (Builtin.Tuple.tupleItemsOf (.ref t)>>=_) _ _ s
 refine b6 (tupleItemsOf_ ht ?_)
 refine b6 (qt hTs ?_)
 rw[if_pos (by decide)]
 refine b6 (Cc hs pl pu ?_)
 rw[h1,h2]
 show wpAny _ _ (if(((0:Nat):Int)==0&&(1:Int)==1&&(items.size-0)==items.size)=true then _ else _) _ _ s
 rw[if_pos (by simp)]
 unfold Builtin.Tuple.tupleIsExact
 refine b6 (b6 (qt ht.typeIs (e6 ?_)))
 rw[if_pos (by decide)]
 exact b6 (mT (e6 ⟨_,rfl,e6 h⟩))
end
end HT
namespace L2
open PySem PySem.Spec PyProof.Rows
section
variable{X:Cx}{e:Expr}{te:TE}{pos p2 p3 p4:Pos}
noncomputable def cV(K:b9):V→Option Int→Option Int→Hp→VK→Prop:=fun x lo hi H Q=>∃a xs,x=.ref a∧DN K H a xs∧∀p H',((p=a∧H'=H∧FO xs lo hi=xs)∨(H p=none∧H'=upd H p (.tup (FO xs lo hi))))→Q (.ref p) H'
theorem Oj:fY X (cV X.K):=by
 intro pins s σ H x v vl vu lo hi sl Q I rx hs pl pu h
 obtain⟨a,xs,rfl,hx,q⟩:=h
 cases rx
 by_cases hw:HT.BO xs.length 0 lo=0∧HT.BO xs.length xs.length hi=xs.length
 ·obtain⟨its,r,ht,hz⟩:=I.tuple hx
  have hlen:its.toArray.size=xs.length:=by rw[ji];exact r.length.symm
  refine⟨"tuple",_,ly.lookup,ht.typeIs,HT.Dx ht hs pl pu (by rw[hlen];exact hw.1) (by rw[hlen];exact hw.2) ⟨.ref a,H,I,rfl,q a H (.inl ⟨rfl,rfl,?_⟩)⟩⟩
  unfold FO
  rw[hw.1,hw.2]
  simp
 ·exact Yp pins s σ H (.ref a) (.ref a) vl vu lo hi sl Q I rfl hs pl pu ⟨a,xs,rfl,hx,hw,fun p hp=>q p _ (.inr ⟨hp,rfl⟩)⟩
noncomputable def cW(K:b9):R2:=fun x y H Q=>∃a b xs ys,x=.ref a∧y=.ref b∧DN K H a xs∧DN K H b ys∧xs.length+ys.length≤sizeLine∧∀p H',((p=a∧H'=H∧ys=[])∨(p=b∧H'=H∧xs=[])∨(H p=none∧H'=upd H p (.tup (xs++ys))))→Q (.ref p) H'
theorem Ve:Cb X (nF .Add) (cW X.K):=by
 intro pins s σ H x y v u Q I rx ry h
 obtain⟨a,b,xs,ys,rfl,rfl,ha,hb,hz,q⟩:=h
 cases xs with
 |cons x xs=>exact VH pins s σ H _ _ v u Q I rx ry ⟨a,b,x::xs,ys,rfl,rfl,ha,hb,by simp,hz,fun e=>q a H (.inl ⟨rfl,rfl,e⟩),fun _ p hp=>q p _ (.inr (.inr ⟨hp,rfl⟩))⟩
 |nil=>
  cases rx;cases ry
  obtain⟨its,r1,p1,_⟩:=I.tuple ha
  obtain⟨its2,r2,p2,_⟩:=I.tuple hb
  cases r1
  exact HT.SM p1 p2 ⟨.ref b,H,I,rfl,q b H (.inr (.inl ⟨rfl,rfl,rfl⟩))⟩
end
end L2
namespace L2.TL
open PySem PySem.Spec PyProof.Rows
inductive T where
 |non|bl (b:Bool)|int (i:Int)|str (x:Str)|tup (ts:List T)|lst (ts:List T)|frz (ts:List T)|dct|raw (v:V)
noncomputable abbrev AM:=Addr→Option (List T)
noncomputable def Ap(O:AM)(a:Addr)(ts:List T):AM:=fun b=>if b=a then some ts else O b
noncomputable def EC(O:AM)(a:Addr):AM:=fun b=>if b=a then none else O b
theorem AH{O:AM}{a:Addr}{ts:List T}:Ap O a ts a=some ts:=by unfold Ap;rw[if_pos rfl]
theorem Ah{O:AM}{a b:Addr}{ts:List T}(h:b≠a):Ap O a ts b=O b:=by unfold Ap;rw[if_neg h]
theorem BS{O:AM}{a:Addr}{ts us:List T}:Ap (Ap O a ts) a us=Ap O a us:=by
 funext b;unfold Ap;split<;>rfl
theorem Cw{O:AM}{a:Addr}:EC O a a=none:=by unfold EC;rw[if_pos rfl]
theorem El{O:AM}{a b:Addr}(h:b≠a):EC O a b=O b:=by unfold EC;rw[if_neg h]
mutual
inductive Rep (K:b9) (O:AM) (H:Hp):V→T→Prop
 |non:Rep K O H .non .non
 |bl (b:Bool):Rep K O H (.bl b) (.bl b)
 |int (i:Int):Rep K O H (.int i) (.int i)
 |str (x:Str):Rep K O H (.str x) (.str x)
 |tup {a:Addr} {xs:List V} {ts:List T}:H a=some (.tup xs)→Reps K O H xs ts→Rep K O H (.ref a) (.tup ts)
 |lst {a:Addr} {xs:List V} {ts:List T}:H a=some (.lst xs)→O a=none→Reps K O H xs ts→Rep K O H (.ref a) (.lst ts)
 |frz {a:Addr} {o:Obj} {xs:List V} {ts:List T}:H a=some (.frz o (.lst xs))→Reps K O H xs ts→Rep K O H (.ref a) (.frz ts)
 |dct {a:Addr}:H a=some (.dK [])→Rep K O H (.ref a) .dct
 |raw (v:V):Rep K O H v (.raw v)
inductive Reps (K:b9) (O:AM) (H:Hp):List V→List T→Prop
 |nil:Reps K O H [] []
 |cons {v:V} {t:T} {vs:List V} {ts:List T}:Rep K O H v t→Reps K O H vs ts→Reps K O H (v::vs) (t::ts)
end
section
variable{K:b9}{O O' O1:AM}{H H' H1:Hp}
mutual
theorem Rep.mono (hT:∀a o,H a=some o→(∀xs,o≠.lst xs)→H' a=some o) (hL:∀a xs,H a=some (.lst xs)→O a=none→H' a=some (.lst xs)∧O' a=none):∀{v:V} {t:T},Rep K O H v t→Rep K O' H' v t
 |_,_,.non=> .non
 |_,_,.bl b=> .bl b
 |_,_,.int i=> .int i
 |_,_,.str x=> .str x
 |_,_,.tup h r=> .tup (hT _ _ h fun _ z=>by cases z) (Reps.mono hT hL r)
 |_,_,.lst h o r=> .lst (hL _ _ h o).1 (hL _ _ h o).2 (Reps.mono hT hL r)
 |_,_,.frz h r=> .frz (hT _ _ h fun _ z=>by cases z) (Reps.mono hT hL r)
 |_,_,.dct h=> .dct (hT _ _ h fun _ z=>by cases z)
 |_,_,.raw v=> .raw v
theorem Reps.mono (hT:∀a o,H a=some o→(∀xs,o≠.lst xs)→H' a=some o) (hL:∀a xs,H a=some (.lst xs)→O a=none→H' a=some (.lst xs)∧O' a=none):∀{v:List V} {t:List T},Reps K O H v t→Reps K O' H' v t
 |_,_,.nil=> .nil
 |_,_,.cons h r=> .cons (Rep.mono hT hL h) (Reps.mono hT hL r)
end
theorem Reps.length:∀{vs:List V} {ts:List T},Reps K O H vs ts→vs.length=ts.length
 |_,_,.nil=>rfl
 |_,_,.cons _ r=>congrArg (· +1) r.length
theorem Reps.get:∀{vs:List V} {ts:List T} {i:Nat} {t:T},Reps K O H vs ts→ts[i]?=some t→∃v,vs[i]?=some v∧Rep K O H v t
 |_,_,_,_,.nil,e=>by simp at e
 |_,_,0,_,.cons h _,e=>by simp at e;subst e;exact⟨_,rfl,h⟩
 |_,_,i+1,t,.cons _ r,e=>by
  obtain⟨u,h1,h2⟩:=Reps.get (i:=i) (t:=t) r (by simpa using e)
  exact⟨u,by simpa using h1,h2⟩
theorem Reps.append:∀{vs ws:List V} {ts us:List T},Reps K O H vs ts→Reps K O H ws us→Reps K O H (vs++ws) (ts++us)
 |_,_,_,_,.nil,s=>s
 |_,_,_,_,.cons h r,s=> .cons h (r.append s)
theorem Reps.take:∀{vs:List V} {ts:List T} (n:Nat),Reps K O H vs ts→Reps K O H (vs.take n) (ts.take n)
 |_,_,0,_=> .nil
 |_,_,_+1,.nil=> .nil
 |_,_,n+1,.cons h r=> .cons h (r.take n)
theorem Reps.drop:∀{vs:List V} {ts:List T} (n:Nat),Reps K O H vs ts→Reps K O H (vs.drop n) (ts.drop n)
 |_,_,0,r=>r
 |_,_,_+1,.nil=> .nil
 |_,_,n+1,.cons h r=>r.drop n
theorem Reps.set{x:V}{t:T}(h:Rep K O H x t):∀{vs:List V} {ts:List T} (i:Nat),Reps K O H vs ts→Reps K O H (vs.set i x) (ts.set i t)
 |_,_,_,.nil=> .nil
 |_,_,0,.cons _ r=> .cons h r
 |_,_,i+1,.cons q r=> .cons q (Reps.set h i r)
theorem Reps.one{v:V}{t:T}(h:Rep K O H v t):Reps K O H [v] [t]:=.cons h .nil
noncomputable def Kp(O:AM)(H:Hp)(O':AM)(H':Hp):Prop:=∀b o,H b=some o→O b=none→H' b=some o∧O' b=none
noncomputable def OwnOk(K:b9)(O:AM)(H:Hp):Prop:=∀a ts,O a=some ts→∃xs,H a=some (.lst xs)∧Reps K O H xs ts
theorem OwnOk.free(w:OwnOk K O H){a:Addr}{o:HO}(h:H a=some o)(hn:∀xs,o≠.lst xs):O a=none:=by
 cases e:O a with
 |none=>rfl
 |some ts=>
  obtain⟨xs,e',_⟩:=w a ts e
  rw[h] at e'
  exact absurd (ki.inj e') (hn xs)
theorem OwnOk.none_of(w:OwnOk K O H){a:Addr}(h:H a=none):O a=none:=by
 cases e:O a with
 |none=>rfl
 |some ts=>
  obtain⟨xs,e',_⟩:=w a ts e
  rw[h] at e';cases e'
theorem Kp.refl:Kp O H O H:=fun _ _ h n=> ⟨h,n⟩
theorem Kp.trans(a:Kp O H O1 H1)(b:Kp O1 H1 O' H'):Kp O H O' H':=fun c o h n=>b c o (a c o h n).1 (a c o h n).2
theorem Kp.oth(k:Kp O H O' H')(w:OwnOk K O H){a:Addr}{o:HO}(h:H a=some o)(hn:∀xs,o≠.lst xs):H' a=some o:=(k a _ h (w.free h hn)).1
theorem Kp.lst(k:Kp O H O' H'){a:Addr}{xs:List V}(h:H a=some (.lst xs))(n:O a=none):H' a=some (.lst xs)∧O' a=none:=k a _ h n
theorem Rep.kp(k:Kp O H O' H')(w:OwnOk K O H){v:V}{t:T}(r:Rep K O H v t):Rep K O' H' v t:=r.mono (fun _ _ h hn=>k.oth w h hn) fun _ _=>k.lst
theorem Reps.kp(k:Kp O H O' H')(w:OwnOk K O H){v:List V}{t:List T}(r:Reps K O H v t):Reps K O' H' v t:=r.mono (fun _ _ h hn=>k.oth w h hn) fun _ _=>k.lst
structure Frm(K:b9)(O:AM)(H:Hp)(O':AM)(H':Hp):Prop where
 kp:Kp O H O' H'
 own:∀b ts,O b=some ts→∃ts',O' b=some ts'
 ok:OwnOk K O' H'
theorem Frm.refl(w:OwnOk K O H):Frm K O H O H:=⟨.refl,fun _ ts e=> ⟨ts,e⟩,w⟩
theorem Frm.trans(a:Frm K O H O1 H1)(b:Frm K O1 H1 O' H'):Frm K O H O' H':=⟨a.kp.trans b.kp,fun c ts e=>by
 obtain⟨t1,e1⟩:=a.own c ts e
 exact b.own c t1 e1,b.ok⟩
theorem BZ{p:Addr}{o:HO}(w:OwnOk K O H)(hp:H p=none):Kp O H O (upd H p o):=fun b u h n=> ⟨by rw[AO (AL h hp)];exact h,n⟩
theorem Frm.new{p:Addr}{o:HO}(w:OwnOk K O H)(hp:H p=none):Frm K O H O (upd H p o) where
 kp:=BZ w hp
 own:=fun _ ts e=> ⟨ts,e⟩
 ok:=fun a ts e=>by
  obtain⟨xs,h,r⟩:=w a ts e
  exact⟨xs,by rw[AO (AL h hp)];exact h,r.kp (BZ w hp) w⟩
theorem Jm{p:Addr}{o:HO}{ts:List T}(w:OwnOk K O H)(hp:H p=none):Kp O H (Ap O p ts) (upd H p o):=fun b u h n=>by
 have:=AL h hp
 rw[AO this,Ah this]
 exact⟨h,n⟩
theorem Frm.newO{p:Addr}{xs:List V}{ts:List T}(w:OwnOk K O H)(hp:H p=none)(r:Reps K O H xs ts):Frm K O H (Ap O p ts) (upd H p (.lst xs)) where
 kp:=Jm w hp
 own:=fun b us e=>by
  by_cases hb:b=p
  ·exact⟨ts,by rw[hb,AH]⟩
  ·exact⟨us,by rw[Ah hb];exact e⟩
 ok:=fun a us e=>by
  by_cases hb:a=p
  ·subst hb
   rw[AH] at e;cases e
   exact⟨xs,AY,r.kp (Jm w hp) w⟩
  ·rw[Ah hb] at e
   obtain⟨ys,h,q⟩:=w a us e
   exact⟨ys,by rw[AO hb];exact h,q.kp (Jm w hp) w⟩
theorem NP{a:Addr}{o:HO}{ts us:List T}(ha:O a=some ts):Kp O H (Ap O a us) (upd H a o):=fun b u h n=>by
 have:b≠a:=fun z=>by rw[z,ha] at n;cases n
 rw[AO this,Ah this]
 exact⟨h,n⟩
theorem Frm.put{a:Addr}{xs:List V}{ts us:List T}(w:OwnOk K O H)(ha:O a=some ts)(r:Reps K O H xs us):Frm K O H (Ap O a us) (upd H a (.lst xs)) where
 kp:=NP ha
 own:=fun b vs e=>by
  by_cases hb:b=a
  ·exact⟨us,by rw[hb,AH]⟩
  ·exact⟨vs,by rw[Ah hb];exact e⟩
 ok:=fun b vs e=>by
  by_cases hb:b=a
  ·subst hb
   rw[AH] at e;cases e
   exact⟨xs,AY,r.kp (NP ha) w⟩
  ·rw[Ah hb] at e
   obtain⟨ys,h,q⟩:=w b vs e
   exact⟨ys,by rw[AO hb];exact h,q.kp (NP ha) w⟩
theorem Dm{a:Addr}:Kp O H (EC O a) H:=fun b u h n=> ⟨h,by
 by_cases hb:b=a
 ·rw[hb,Cw]
 ·rw[El hb];exact n⟩
theorem OwnOk.drop{a:Addr}(w:OwnOk K O H):OwnOk K (EC O a) H:=fun b ts e=>by
 by_cases hb:b=a
 ·rw[hb,Cw] at e;cases e
 ·rw[El hb] at e
  obtain⟨xs,h,r⟩:=w b ts e
  exact⟨xs,h,r.kp Dm w⟩
theorem OwnOk.rep{a:Addr}{ts:List T}(w:OwnOk K O H)(e:O a=some ts):Rep K (EC O a) H (.ref a) (.lst ts):=by
 obtain⟨xs,h,r⟩:=w a ts e
 exact .lst h Cw (r.kp Dm w)
end
noncomputable def Rl(K:b9)(O:AM)(H:Hp)(σ:St)(ρ:List (Option T)):Prop:=σ.length=ρ.length∧∀(i:Nat) (t:T),ρ[i]?=some (some t)→∃v,σ[i]?=some (some v)∧Rep K O H v t
section
variable{K:b9}{O O':AM}{H H':Hp}{σ:St}{ρ:List (Option T)}
theorem Rl.kp(k:Kp O H O' H')(w:OwnOk K O H)(r:Rl K O H σ ρ):Rl K O' H' σ ρ:=⟨r.1,fun i t e=>by
 obtain⟨v,h1,h2⟩:=r.2 i t e
 exact⟨v,h1,h2.kp k w⟩⟩
theorem Rl.set{i:Nat}{v:V}{t:T}(r:Rl K O H σ ρ)(h:Rep K O H v t):Rl K O H (σ.set i (some v)) (ρ.set i (some t)):=⟨by simpa using r.1,fun j u e=>by
 by_cases hj:j=i
 ·subst hj
  have hl:j<ρ.length:=by
   have:=(jc.mp e).1
   simpa using this
  rw[ky hl] at e
  cases e
  exact⟨v,by rw[ky (by rw[r.1];exact hl)],h⟩
 ·rw[jx (Ne.symm hj)] at e ⊢
  exact r.2 j u e⟩
end
structure Zx where
 X:Cx
 Oe:AM
 He:Hp
 Xi:Value→AM→Prop
noncomputable abbrev Zx.K(Z:Zx):b9:=Z.X.K
noncomputable def Zx.W(Z:Zx):St→XK:=fun _ cls d H'=>d=none∧∃O',Z.Xi cls O'∧Frm Z.K Z.Oe Z.He O' H'
structure Asr(Z:Zx)(ρ:List (Option T))(O:AM)(σ:St)(H:Hp):Prop where
 rl:Rl Z.K O H σ ρ
 fr:Frm Z.K Z.Oe Z.He O H
section
variable{Z:Zx}{ρ:List (Option T)}{O O':AM}{σ:St}{H H':Hp}
theorem Asr.ok(a:Asr Z ρ O σ H):OwnOk Z.K O H:=a.fr.ok
theorem Asr.step(a:Asr Z ρ O σ H)(f:Frm Z.K O H O' H'):Asr Z ρ O' σ H':=⟨a.rl.kp f.kp a.ok,a.fr.trans f⟩
theorem Asr.refl(a:Asr Z ρ O σ H):Frm Z.K O H O H:=.refl a.ok
end
noncomputable abbrev Bf:=T→AM→Prop
noncomputable abbrev NQ:=List T→AM→Prop
noncomputable abbrev Jn:=Bool→AM→Prop
noncomputable def Acc(K:b9)(O:AM)(H:Hp)(Φ:Bf)(Q:VK):Prop:=∀v H' t O',Φ t O'→Frm K O H O' H'→Rep K O' H' v t→Q v H'
noncomputable def gi(K:b9)(O:AM)(H:Hp)(Φ:NQ)(Q:List V→Hp→Prop):Prop:=∀vs H' ts O',Φ ts O'→Frm K O H O' H'→Reps K O' H' vs ts→Q vs H'
noncomputable def AccT(K:b9)(O:AM)(H:Hp)(Φ:Jn)(Q:Bool→Hp→Prop):Prop:=∀b H' O',Φ b O'→Frm K O H O' H'→Q b H'
noncomputable def tW(Z:Zx)(ρ:List (Option T))(O:AM)(Φ:Bf):TE:=fun σ H Q=>Asr Z ρ O σ H∧Acc Z.K O H Φ Q
noncomputable def iP(Z:Zx)(ρ:List (Option T))(O:AM)(Φ:NQ):TA:=fun σ H Q=>Asr Z ρ O σ H∧gi Z.K O H Φ Q
noncomputable def bK(Z:Zx)(ρ:List (Option T))(O:AM)(Φ:Jn):TT:=fun σ H Q=>Asr Z ρ O σ H∧AccT Z.K O H Φ Q
noncomputable def WE(Z:Zx)(ρ:List (Option T))(O:AM)(e:Expr)(Φ:Bf):Prop:=PE Z.X e (tW Z ρ O Φ)
noncomputable def WA(Z:Zx)(ρ:List (Option T))(O:AM)(es:List Expr)(Φ:NQ):Prop:=PA Z.X es (iP Z ρ O Φ)
noncomputable def WT(Z:Zx)(ρ:List (Option T))(O:AM)(e:Expr)(Φ:Jn):Prop:=PT Z.X e (bK Z ρ O Φ)
noncomputable def WW(Z:Zx)(ρ:List (Option T))(O:AM)(e:Expr)(Φ:Jn):Prop:=PW Z.X e (bK Z ρ O Φ)
noncomputable def ET(Z:Zx)(ρ:List (Option T))(O:AM)(e:Expr)(t:T):Prop:=∀Φ:Bf,Φ t O→WE Z ρ O e Φ
noncomputable def EA(Z:Zx)(ρ:List (Option T))(O:AM)(es:List Expr)(ts:List T):Prop:=∀Φ:NQ,Φ ts O→WA Z ρ O es Φ
noncomputable def EB(Z:Zx)(ρ:List (Option T))(O:AM)(e:Expr)(b:Bool):Prop:=∀Φ:Jn,Φ b O→WT Z ρ O e Φ
theorem PE.weak{X:Cx}{e:Expr}{t t':TE}(h:PE X e t)(w:∀σ H Q,t' σ H Q→t σ H Q):PE X e t':=fun pins s σ H Q I q=>h pins s σ H Q I (w σ H Q q)
theorem PA.weak{X:Cx}{e:List Expr}{t t':TA}(h:PA X e t)(w:∀σ H Q,t' σ H Q→t σ H Q):PA X e t':=fun pos pins s σ H Q I q=>h pos pins s σ H Q I (w σ H Q q)
theorem PT.weak{X:Cx}{e:Expr}{t t':TT}(h:PT X e t)(w:∀σ H Q,t' σ H Q→t σ H Q):PT X e t':=fun pins s σ H Q I q=>h pins s σ H Q I (w σ H Q q)
theorem PW.weak{X:Cx}{e:Expr}{t t':TT}(h:PW X e t)(w:∀σ H Q,t' σ H Q→t σ H Q):PW X e t':=fun whole pins s σ H Q I q=>h whole pins s σ H Q I (w σ H Q q)
theorem PS.weak{X:Cx}{e:Stmt}{t t':TS}(h:PS X e t)(w:∀D σ H,t' D σ H→t D σ H):PS X e t':=fun pins s σ H D I q=>h pins s σ H D I (w D σ H q)
theorem PSs.weak{X:Cx}{e:List Stmt}{t t':TS}(h:PSs X e t)(w:∀D σ H,t' D σ H→t D σ H):PSs X e t':=fun pins s σ H D I q=>h pins s σ H D I (w D σ H q)
noncomputable def tX(Z:Zx)(ρ:List (Option T))(e:Expr):TE:=fun σ H Q=>∃O Φ,WE Z ρ O e Φ∧tW Z ρ O Φ σ H Q
theorem BU{Z:Zx}{ρ:List (Option T)}{e:Expr}:PE Z.X e (tX Z ρ e):=fun pins s σ H Q I ⟨_,_,w,q⟩=>w pins s σ H Q I q
noncomputable def iz(Z:Zx)(ρ:List (Option T))(e:List Expr):TA:=fun σ H Q=>∃O Φ,WA Z ρ O e Φ∧iP Z ρ O Φ σ H Q
theorem Ld{Z:Zx}{ρ:List (Option T)}{e:List Expr}:PA Z.X e (iz Z ρ e):=fun pos pins s σ H Q I ⟨_,_,w,q⟩=>w pos pins s σ H Q I q
noncomputable def jA(Z:Zx)(ρ:List (Option T))(e:Expr):TT:=fun σ H Q=>∃O Φ,WW Z ρ O e Φ∧bK Z ρ O Φ σ H Q
theorem cX{Z:Zx}{ρ:List (Option T)}{e:Expr}:PW Z.X e (jA Z ρ e):=fun whole pins s σ H Q I ⟨_,_,w,q⟩=>w whole pins s σ H Q I q
section
variable{Z:Zx}{ρ:List (Option T)}{O:AM}{e a b:Expr}{es:List Expr}{Φ Φ':Bf}{pos:Pos}{t ta tb:T}{ts:List T}
theorem Acc.mono{K:b9}{H:Hp}{Q:VK}(h:Acc K O H Φ' Q)(w:∀t O',Φ t O'→Φ' t O'):Acc K O H Φ Q:=fun v H' t O' p=>h v H' t O' (w t O' p)
theorem Acc.step{K:b9}{H H1:Hp}{O1:AM}{Q:VK}(h:Acc K O H Φ Q)(f:Frm K O H O1 H1):Acc K O1 H1 Φ Q:=fun v H' t O' p f' r=>h v H' t O' p (f.trans f') r
theorem AccT.step{K:b9}{H H1:Hp}{O1:AM}{Φ:Jn}{Q:Bool→Hp→Prop}(h:AccT K O H Φ Q)(f:Frm K O H O1 H1):AccT K O1 H1 Φ Q:=fun v H' O' p f'=>h v H' O' p (f.trans f')
theorem Dn(h:WE Z ρ O e Φ)(w:∀t O',Φ t O'→Φ' t O'):WE Z ρ O e Φ':=PE.weak h fun _ _ _ q=> ⟨q.1,q.2.mono w⟩
theorem ET.we(h:ET Z ρ O e t)(p:Φ t O):WE Z ρ O e Φ:=h Φ p
theorem ZK{i:Nat}{x:Str}(hN:Z.X.N[i]?=some x)(hv:bI Z.X.env.scope x)(e:ρ[i]?=some (some t))(p:Φ t O)(hd:(x==("__debug__" :Str))=false:=by decide)(hcd:(x==("__classdict__" :Str))=false:=by decide):WE Z ρ O (.Name x pos) Φ:=
 PE.weak (RA hN hv hd hcd) fun σ H Q q=>by
  obtain⟨v,h1,h2⟩:=q.1.rl.2 i t e
  exact⟨v,h1,q.2 v H t O p q.1.refl h2⟩
theorem ev(i:Nat){x:Str}(e:ρ[i]?=some (some t):=by rfl)(hN:Z.X.N[i]?=some x:=by rfl)(hv:bI Z.X.env.scope x:=by first|exact pJ rfl|exact oN (pJ rfl)|exact oN (oN rfl))(hd:(x==("__debug__" :Str))=false:=by decide)
  (hcd:(x==("__classdict__" :Str))=false:=by decide):ET Z ρ O (.Name x pos) t:=fun _ p=>ZK hN hv e p hd hcd
theorem SN{v:V}(h:PE Z.X e (tC v))(r:∀O H,Rep Z.K O H v t):ET Z ρ O e t:=fun _ p=>PE.weak h fun _ H _ q=>q.2 v H _ O p q.1.refl (r O H)
theorem AC{i:Int}{j:Nat}:ET Z ρ O (.Constant (.int i) j pos) (.int i):=SN RB fun _ _=> .int i
theorem Iw{i:Bool}{j:Nat}:ET Z ρ O (.Constant (.bool i) j pos) (.bl i):=SN bM fun _ _=> .bl i
theorem EK{j:Nat}:ET Z ρ O (.Constant .none j pos) .non:=SN YK fun _ _=> .non
theorem GL{x:Str}{i:Int}(hm:∃t:Tok,Z.X.mg x=some (.int i t))(hg:Gl Z.X x:=by rfl)(hd:(x==("__debug__" :Str))=false:=by decide):ET Z ρ O (.Name x pos) (.int i):=by
 cases hm with
 |intro t hm=>exact SN (Uu (v:=.int i) hg hm ⟨t,rfl⟩ hd) fun _ _=> .int i
theorem cY{x:Str}{n:String}(hm:Z.X.mg x=none)(hv:ku x=some (.type n))(hg:Gl Z.X x:=by rfl)(hn:x≠"__name__":=by decide)(hd:(x==("__debug__" :Str))=false:=by decide):ET Z ρ O (.Name x pos) (.raw (.ty n)):=
 SN (Uv (v:=.ty n) hg hm hv rfl hn hd) fun _ _=> .raw _
noncomputable def RT(K:b9)(r:R2)(ta tb:T)(O:AM)(Φ:Bf):Prop:=∀H v w Q,OwnOk K O H→Rep K O H v ta→Rep K O H w tb→Acc K O H Φ Q→r v w H Q
noncomputable def RP(K:b9)(r:R2)(ta tb:T)(O:AM)(t:T):Prop:=∀Φ:Bf,Φ t O→RT K r ta tb O Φ
theorem Jo{r:R2}{σ:St}{H:Hp}{Q:VK}(q:tW Z ρ O Φ σ H Q)(h:WE Z ρ O a fun ta O1=>WE Z ρ O1 b fun tb O2=>RT Z.K r ta tb O2 Φ):bb r (tX Z ρ a) (tX Z ρ b) σ H Q:=
 ⟨O,_,h,q.1,fun v H1 ta O1 p f1 r1=> ⟨O1,_,p,q.1.step f1,fun w H2 tb O2 p2 f2 r2=>p2 H2 v w Q f2.ok (r1.kp f2.kp f1.ok) r2 (q.2.step (f1.trans f2))⟩⟩
theorem Em{op:r8}{r:R2}(ho:Cb Z.X (nF op) r)(h:WE Z ρ O a fun ta O1=>WE Z ρ O1 b fun tb O2=>RT Z.K r ta tb O2 Φ):WE Z ρ O (.BinOp a op b pos) Φ:=
 PE.weak (bf ho BU BU) fun _ _ _ q=>Jo q h
theorem ZL{op:CmpOp}{r:R2}(ho:Cb Z.X (kR op) r)(hm:behindInMarks op b=false)(h:WE Z ρ O a fun ta O1=>WE Z ρ O1 b fun tb O2=>RT Z.K r ta tb O2 Φ):WE Z ρ O (.Compare a [op] [b] pos) Φ:=
 PE.weak (VD ho BU BU hm) fun _ _ _ q=>Jo q h
theorem Fs{op:r8}{r:R2}(ho:Cb Z.X (nF op) r)(hp:RP Z.K r ta tb O t)(ha:ET Z ρ O a ta)(hb:ET Z ρ O b tb):ET Z ρ O (.BinOp a op b pos) t:=fun Φ p=>Em ho (ha _ (hb _ (hp Φ p)))
theorem FW{op:CmpOp}{r:R2}(ho:Cb Z.X (kR op) r)(hm:behindInMarks op b=false)(hp:RP Z.K r ta tb O t)(ha:ET Z ρ O a ta)(hb:ET Z ρ O b tb):ET Z ρ O (.Compare a [op] [b] pos) t:=fun Φ p=>ZL ho hm (ha _ (hb _ (hp Φ p)))
theorem Ol{r:R2}(ho:cC Z.X r)(hs:Dk b)(h:WE Z ρ O a fun ta O1=>WE Z ρ O1 b fun tb O2=>RT Z.K r ta tb O2 Φ):WE Z ρ O (.Subscript a b pos) Φ:=
 PE.weak (XT ho BU BU hs) fun _ _ _ q=>Jo q h
theorem SO{r:R2}(ho:cC Z.X r)(hs:Dk b)(hp:RP Z.K r ta tb O t)(ha:ET Z ρ O a ta)(hb:ET Z ρ O b tb):ET Z ρ O (.Subscript a b pos) t:=fun Φ p=>Ol ho hs (ha _ (hb _ (hp Φ p)))
theorem BL{Φ:NQ}(p:Φ [] O):WA Z ρ O [] Φ:=PA.weak JU fun _ H _ q=>q.2 [] H [] O p q.1.refl .nil
theorem Do{Φ:NQ}(h:WE Z ρ O e fun t O1=>WA Z ρ O1 es fun ts O2=>Φ (t::ts) O2)(hs:i7 (e::es) Z.X.env=(false,eval e Z.X.env)::i7 es Z.X.env:=by rfl):WA Z ρ O (e::es) Φ:=
 PA.weak (GG BU Ld hs) fun σ H Q q=> ⟨O,_,h,q.1,fun v H1 t O1 p f1 r1=> ⟨O1,_,p,q.1.step f1,fun vs H2 ts O2 p2 f2 r2=>q.2 _ H2 _ O2 p2 (f1.trans f2) (.cons (r1.kp f2.kp f1.ok) r2)⟩⟩
theorem AB:EA Z ρ O [] []:=fun _ p=>BL p
theorem AQ(h:ET Z ρ O e t)(hr:EA Z ρ O es ts)(hs:i7 (e::es) Z.X.env=(false,eval e Z.X.env)::i7 es Z.X.env:=by rfl):EA Z ρ O (e::es) (t::ts):=fun Φ p=>Do (h _ (hr _ p)) hs
theorem HZ{x1}(h:WA Z ρ O es fun ts O1=>ts.length≤sizeLine∧Φ (.tup ts) O1):WE Z ρ O (.Tuple es x1 pos) Φ:=
 PE.weak (Yn h) fun σ H Q q=> ⟨q.1,fun vs H1 ts O1 p f r=> ⟨by rw[r.length];exact p.1,fun a ha=>q.2 _ _ _ O1 p.2 (f.trans (.new f.ok ha)) (.tup AY (r.kp (BZ f.ok ha) f.ok))⟩⟩
theorem Ba{x1}(h:EA Z ρ O es ts)(hl:ts.length≤sizeLine:=by first| (show 1≤sizeLine;decide)| (show 2≤sizeLine;decide)| (show 3≤sizeLine;decide)| (show 0≤sizeLine;decide)):ET Z ρ O (.Tuple es x1 pos) (.tup ts):=fun _ p=>HZ (h _ ⟨hl,p⟩)
theorem SQ(h:WA Z ρ O es fun ts O1=>ts.length≤sizeLine∧Φ (.lst ts) O1):WE Z ρ O (.List es pos) Φ:=
 PE.weak (RO h) fun σ H Q q=> ⟨q.1,fun vs H1 ts O1 p f r=> ⟨by rw[r.length];exact p.1,fun a ha=>q.2 _ _ _ O1 p.2 (f.trans (.new f.ok ha)) (.lst AY (f.ok.none_of ha) (r.kp (BZ f.ok ha) f.ok))⟩⟩
theorem Au(h:EA Z ρ O es ts)(hl:ts.length≤sizeLine):ET Z ρ O (.List es pos) (.lst ts):=fun _ p=>SQ (h _ ⟨hl,p⟩)
theorem Cy(h:WA Z ρ O es fun ts O1=>ts.length≤sizeLine∧∀a,O1 a=none→Φ (.raw (.ref a)) (Ap O1 a ts)):WE Z ρ O (.List es pos) Φ:=
 PE.weak (RO h) fun σ H Q q=> ⟨q.1,fun vs H1 ts O1 p f r=> ⟨by rw[r.length];exact p.1,fun a ha=>q.2 _ _ _ _ (p.2 a (f.ok.none_of ha)) (f.trans (.newO f.ok ha r)) (.raw _)⟩⟩
end
section
variable{K:b9}{O:AM}{H:Hp}{v:V}
theorem Rep.int_inv{i:Int}(r:Rep K O H v (.int i)):v=.int i:=by cases r;rfl
theorem Rep.bl_inv{i:Bool}(r:Rep K O H v (.bl i)):v=.bl i:=by cases r;rfl
theorem Rep.non_inv(r:Rep K O H v .non):v=.non:=by cases r;rfl
theorem Rep.raw_inv{i:V}(r:Rep K O H v (.raw i)):v=i:=by cases r;rfl
theorem Rep.tup_inv{ts:List T}(r:Rep K O H v (.tup ts)):∃a xs,v=.ref a∧H a=some (.tup xs)∧Reps K O H xs ts:=by
 cases r with
 |tup h r=>exact⟨_,_,rfl,h,r⟩
theorem Rep.lst_inv{ts:List T}(r:Rep K O H v (.lst ts)):∃a xs,v=.ref a∧H a=some (.lst xs)∧O a=none∧Reps K O H xs ts:=by
 cases r with
 |lst h o r=>exact⟨_,_,rfl,h,o,r⟩
theorem Reps.cons_inv{vs:List V}{t:T}{ts:List T}(r:Reps K O H vs (t::ts)):∃v vs',vs=v::vs'∧Rep K O H v t∧Reps K O H vs' ts:=by
 cases r with
 |cons h r=>exact⟨_,_,rfl,h,r⟩
theorem Reps.nil_inv{vs:List V}(r:Reps K O H vs []):vs=[]:=by cases r;rfl
theorem Reps.one_inv{vs:List V}{t:T}(r:Reps K O H vs [t]):∃v,vs=[v]∧Rep K O H v t:=by
 obtain⟨v,vs',rfl,h,r⟩:=r.cons_inv
 cases r.nil_inv
 exact⟨v,rfl,h⟩
theorem Reps.two_inv{vs:List V}{t u:T}(r:Reps K O H vs [t,u]):∃v w,vs=[v,w]∧Rep K O H v t∧Rep K O H w u:=by
 obtain⟨v,vs',rfl,h,r⟩:=r.cons_inv
 obtain⟨w,rfl,h2⟩:=r.one_inv
 exact⟨v,w,rfl,h,h2⟩
theorem Reps.ints:∀{vs:List V} {ns:List Int},Reps K O H vs (ns.map T.int)→vs=ns.map V.int
 |_,[],r=>r.nil_inv
 |_,n::ns,r=>by
  obtain⟨v,vs',rfl,h,r⟩:=Reps.cons_inv r
  rw[h.int_inv,Reps.ints r]
  rfl
end
section
variable{Z:Zx}{ρ:List (Option T)}{O:AM}{e a b c:Expr}{es:List Expr}{Φ Φ':Bf}{pos:Pos}{t ta tb:T}{ts:List T}{K:b9}{i j:Int}
theorem Ha{g:Int→Int→Int}:RP K (Um fun i j=> .int (g i j)) (.int i) (.int j) O (.int (g i j)):=fun Φ p H v w Q ok r1 r2 q=> ⟨i,j,r1.int_inv,r2.int_inv,q _ H _ O p (.refl ok) (.int _)⟩
theorem Ft{g:Int→Int→Bool}:RP K (Um fun i j=> .bl (g i j)) (.int i) (.int j) O (.bl (g i j)):=fun Φ p H v w Q ok r1 r2 q=> ⟨i,j,r1.int_inv,r2.int_inv,q _ H _ O p (.refl ok) (.bl _)⟩
theorem Vf{C:Int→Int→Prop}{g:Int→Int→Int}(hc:C i j):RP K (rI C fun i j=> .int (g i j)) (.int i) (.int j) O (.int (g i j)):=fun Φ p H v w Q ok r1 r2 q=> ⟨i,j,r1.int_inv,r2.int_inv,hc,q _ H _ O p (.refl ok) (.int _)⟩
theorem BB(ha:ET Z ρ O a (.int i))(hb:ET Z ρ O b (.int j)):ET Z ρ O (.BinOp a .Add b pos) (.int (i+j)):=Fs FL Ha ha hb
theorem Cz(ha:ET Z ρ O a (.int i))(hb:ET Z ρ O b (.int j)):ET Z ρ O (.BinOp a .Sub b pos) (.int (i-j)):=Fs Yd Ha ha hb
theorem EL(ha:ET Z ρ O a (.int i))(hb:ET Z ρ O b (.int j))(h:CMul i j):ET Z ρ O (.BinOp a .Mult b pos) (.int (i*j)):=Fs Ye (Vf h) ha hb
theorem En(ha:ET Z ρ O a (.int i))(hb:ET Z ρ O b (.int j))(h:bo i j):ET Z ρ O (.BinOp a .FloorDiv b pos) (.int (i/j)):=Fs VB (Vf h) ha hb
theorem FX(ha:ET Z ρ O a (.int i))(hb:ET Z ρ O b (.int j))(h:0<j):ET Z ρ O (.BinOp a .Mod b pos) (.int (i%j)):=Fs Yg (Vf h) ha hb
theorem ZM(ha:ET Z ρ O a (.int i))(hb:ET Z ρ O b (.int j))(h:bp i j):ET Z ρ O (.BinOp a .Pow b pos) (.int (i^j.toNat)):=Fs Yh (Vf h) ha hb
theorem cZ(ha:ET Z ρ O a (.int i))(hb:ET Z ρ O b (.int j)):ET Z ρ O (.Compare a [.Lt] [b] pos) (.bl (decide (i<j))):=FW RJ (Ac _) Ft ha hb
theorem cb(ha:ET Z ρ O a (.int i))(hb:ET Z ρ O b (.int j)):ET Z ρ O (.Compare a [.GtE] [b] pos) (.bl (decide (j≤i))):=FW XS (Ac _) Ft ha hb
theorem NR:RP K iJ (.int i) (.int j) O (.bl (decide (i=j))):=fun Φ p H v w Q ok r1 r2 q=>by
 cases r1.int_inv;cases r2.int_inv
 refine⟨rfl,?_⟩
 have:decide (V.int i=V.int j)=decide (i=j):=by simp
 rw[this]
 exact q _ H _ O p (.refl ok) (.bl _)
theorem SR:RP K iK (.int i) (.int j) O (.bl (!decide (i=j))):=fun Φ p H v w Q ok r1 r2 q=>by
 cases r1.int_inv;cases r2.int_inv
 refine⟨rfl,?_⟩
 have:decide (V.int i=V.int j)=decide (i=j):=by simp
 rw[this]
 exact q _ H _ O p (.refl ok) (.bl _)
theorem SS(ha:ET Z ρ O a (.int i))(hb:ET Z ρ O b (.int j)):ET Z ρ O (.Compare a [.NotEq] [b] pos) (.bl (!decide (i=j))):=FW XR (Ac _) SR ha hb
theorem cc{op:UnaryOp}{g:Int→Int}(ho:fW Z.X (unaryOp op) (rU fun i=> .int (g i)))(h:ET Z ρ O a (.int i)):ET Z ρ O (.UnaryOp op a pos) (.int (g i)):=fun Φ p=>
 PE.weak (bh ho BU) fun σ H Q q=> ⟨O,_,h (fun t O'=>t=.int i∧O'=O) ⟨rfl,rfl⟩,q.1,fun v H1 t O1 ⟨e1,e2⟩ f r=>by
  subst e1;subst e2
  exact⟨i,r.int_inv,q.2 _ H1 _ _ p f (.int _)⟩⟩
theorem NS(h:ET Z ρ O a (.int i)):ET Z ρ O (.UnaryOp .USub a pos) (.int (-i)):=cc Yi h
theorem Le{op op':CmpOp}{r r':R2}{tc:T}{x y:Bool}(ho:Cb Z.X (kR op) r)(ho':Cb Z.X (kR op') r')(hp:RP Z.K r ta tb O (.bl x))(hp':x=true→RP Z.K r' tb tc O (.bl y))
  (ha:ET Z ρ O a ta) (hb:ET Z ρ O b tb) (hc:x=true→ET Z ρ O c tc) (hm:lastMarks [op,op'] [b,c]=false:=by with_unfolding_all rfl):ET Z ρ O (.Compare a [op,op'] [b,c] pos) (.bl (x&&y)):=fun Φ p=>
 by
 refine PE.weak (RM ho ho' (BU (ρ:=ρ)) (BU (ρ:=ρ)) (BU (ρ:=ρ)) hm) fun σ H Q q=>?_
 refine⟨O,_,ha (fun t O'=>t=ta∧O'=O) ⟨rfl,rfl⟩,q.1,?_⟩
 rintro v H1 _ _ ⟨rfl,rfl⟩ f1 r1
 refine⟨_,_,hb (fun t O'=>t=tb∧O'=_) ⟨rfl,rfl⟩,q.1.step f1,?_⟩
 rintro w H2 _ _ ⟨rfl,rfl⟩ f2 r2
 refine hp (fun t O'=>t=.bl x∧O'=_) ⟨rfl,rfl⟩ H2 v w _ f2.ok (r1.kp f2.kp f1.ok) r2 ?_
 rintro z H3 _ _ ⟨rfl,rfl⟩ f3 r3
 refine⟨x,r3.bl_inv,?_⟩
 cases x with
 |false=>exact Rb (q.2 _ H3 _ _ p (f1.trans (f2.trans f3)) (.bl _))
 |true=>
  refine JX ⟨_,_,hc rfl (fun t O'=>t=tc∧O'=_) ⟨rfl,rfl⟩,q.1.step (f1.trans (f2.trans f3)),?_⟩
  rintro w' H4 _ _ ⟨rfl,rfl⟩ f4 r4
  exact hp' rfl _ p H4 w w' _ f4.ok (r2.kp (f3.trans f4).kp f2.ok) r4 (q.2.step (f1.trans (f2.trans (f3.trans f4))))
noncomputable def TruT(O:AM):T→Bool→Prop
 | .non,k=>k=false
 | .bl b,k=>k=b
 | .int i,k=>k=(i !=0)
 | .str y,k=>y.length≤sizeLine∧k=((y.length:Int) !=0)
 | .tup ts,k=>k=!ts.isEmpty
 | .lst ts,k=>k=!ts.isEmpty
 | .frz ts,k=>k=!ts.isEmpty
 | .dct,_=>False
 | .raw (.ref a),k=>∃ts,O a=some ts∧k=!ts.isEmpty
 | .raw _,_=>False
theorem Reps.isEmpty{vs:List V}{ts:List T}{H:Hp}(r:Reps K O H vs ts):vs.isEmpty=ts.isEmpty:=by cases r<;>rfl
theorem TruT.v{H:Hp}{v:V}{k:Bool}(h:TruT O t k)(r:Rep K O H v t)(ok:OwnOk K O H):Yl K v H k:=by
 cases r with
 |non=>exact h
 |bl=>exact h
 |int=>exact h
 |str=>exact h
 |tup h1 r=>
  have h:k=!_:=h
  exact .inr (.inl ⟨_,.inl (.inl h1),by rw[h,r.isEmpty]⟩)
 |lst h1 o r=>
  have h:k=!_:=h
  exact .inl ⟨_,.inl (.inl h1),by rw[h,r.isEmpty]⟩
 |frz h1 r=>
  have h:k=!_:=h
  exact .inl ⟨_,.inl (.inr ⟨_,h1⟩),by rw[h,r.isEmpty]⟩
 |dct=>exact h.elim
 |raw v=>
  cases v with
  |ref a=>
   obtain⟨ts,e,h⟩:=h
   obtain⟨xs,h1,r⟩:=ok a ts e
   exact .inl ⟨xs,.inl (.inl h1),by rw[h,r.isEmpty]⟩
  |_=>exact h.elim
theorem Lf{Φ:Jn}(h:WE Z ρ O e fun t O'=>∃k,TruT O' t k∧Φ k O')(he:∀whole,isTrue e Z.X.env whole=(do let v←whole;standAt e.pos;holding [v] (truthy v)):=by intro _;rfl):WT Z ρ O e Φ:=
 PT.weak (RN BU he) fun σ H Q q=> ⟨O,_,h,q.1,fun v H1 t O1 ⟨k,tr,p⟩ f r=> ⟨k,tr.v r f.ok,q.2 k H1 O1 p f⟩⟩
theorem Lg{k:Bool}(h:ET Z ρ O e t)(tr:TruT O t k)(he:∀whole,isTrue e Z.X.env whole=(do let v←whole;standAt e.pos;holding [v] (truthy v)):=by intro _;rfl):EB Z ρ O e k:=fun Φ p=>Lf (h _ ⟨k,tr,p⟩) he
theorem Bg{k:Bool}(h:ET Z ρ O e (.bl k))(he:∀whole,isTrue e Z.X.env whole=(do let v←whole;standAt e.pos;holding [v] (truthy v)):=by intro _;rfl):EB Z ρ O e k:=Lg h rfl he
theorem NT{Φ:Jn}{op:CmpOp}{r:R2}(ho:Cb Z.X (kR op) r)(hm:behindInMarks op b=false)(h:WE Z ρ O a fun ta O1=>WE Z ρ O1 b fun tb O2=>RT Z.K r ta tb O2 fun t O3=>∃k,t=.bl k∧Φ k O3):WT Z ρ O (.Compare a [op] [b] pos) Φ:=
 PT.weak (OO ho BU BU hm) fun σ H Q q=>Jo (Φ:=fun t O3=>∃k,t=.bl k∧Φ k O3) ⟨q.1,fun v H' t O' ⟨k,e,p⟩ f r=>by
  subst e
  exact⟨k,r.bl_inv,q.2 k H' O' p f⟩⟩ h
theorem Af{op:CmpOp}{r:R2}{k:Bool}(ho:Cb Z.X (kR op) r)(hm:behindInMarks op b=false)(hp:RP Z.K r ta tb O (.bl k))(ha:ET Z ρ O a ta)(hb:ET Z ρ O b tb):EB Z ρ O (.Compare a [op] [b] pos) k:=fun Φ p=>
 NT ho hm (ha _ (hb _ (hp _ ⟨k,rfl,p⟩)))
theorem cf(ha:ET Z ρ O a (.int i))(hb:ET Z ρ O b (.int j)):EB Z ρ O (.Compare a [.Lt] [b] pos) (decide (i<j)):=Af RJ (Ac _) Ft ha hb
theorem Xb(ha:ET Z ρ O a (.int i))(hb:ET Z ρ O b (.int j)):EB Z ρ O (.Compare a [.LtE] [b] pos) (decide (i≤j)):=Af RL (Ac _) Ft ha hb
theorem Xc(ha:ET Z ρ O a (.int i))(hb:ET Z ρ O b (.int j)):EB Z ρ O (.Compare a [.Gt] [b] pos) (decide (j<i)):=Af br (Ac _) Ft ha hb
theorem cg(ha:ET Z ρ O a (.int i))(hb:ET Z ρ O b (.int j)):EB Z ρ O (.Compare a [.GtE] [b] pos) (decide (j≤i)):=Af XS (Ac _) Ft ha hb
theorem FY(ha:ET Z ρ O a (.int i))(hb:ET Z ρ O b (.int j)):EB Z ρ O (.Compare a [.Eq] [b] pos) (decide (i=j)):=Af RI (Ac _) NR ha hb
theorem DV(ha:ET Z ρ O a (.int i))(hb:ET Z ρ O b (.int j)):EB Z ρ O (.Compare a [.NotEq] [b] pos) (!decide (i=j)):=Af XR (Ac _) SR ha hb
theorem Vg{k:Int}(ha:ET Z ρ O a (.int i))(hb:ET Z ρ O b (.int j))(hc:ET Z ρ O c (.int k))(hm:lastMarks [CmpOp.LtE,.LtE] [b,c]=false:=by with_unfolding_all rfl):ET Z ρ O (.Compare a [.LtE,.LtE] [b,c] pos) (.bl (decide (i≤j)&&decide (j≤k))):=Le RL RL Ft (fun _=>Ft) ha hb (fun _=>hc) hm
theorem SU{Φ:Jn}(h:WT Z ρ O a fun k O'=>Φ (!k) O'):WT Z ρ O (.UnaryOp .Not a pos) Φ:=PT.weak (YN h) fun σ H Q q=> ⟨q.1,fun k H1 O1 p f=>q.2 _ H1 O1 p f⟩
theorem BH{k:Bool}(h:EB Z ρ O a k):EB Z ρ O (.UnaryOp .Not a pos) (!k):=fun Φ p=>SU (h _ p)
noncomputable def EW(Z:Zx)(ρ:List (Option T))(O:AM)(e:Expr)(b:Bool):Prop:=∀Φ:Jn,Φ b O→WW Z ρ O e Φ
theorem EW.eb{k:Bool}(h:EW Z ρ O e k):EB Z ρ O e k:=fun Φ p=> (h Φ p).pt
theorem Om{Φ:Jn}(h:WT Z ρ O a Φ):WW Z ρ O (.BoolOp .And [a] pos) Φ:=Uw h
theorem ZN{Φ:Jn}(h:WT Z ρ O a Φ):WW Z ρ O (.BoolOp .Or [a] pos) Φ:=YL h
theorem SV{Φ:Jn}(h:WT Z ρ O a fun k O1=>if k=true then WW Z ρ O1 (.BoolOp .And (b::es) pos) Φ else Φ false O1):WW Z ρ O (.BoolOp .And (a::b::es) pos) Φ:=
 PW.weak (YM h cX) fun σ H Q q=> ⟨q.1,fun k H1 O1 p f=>by
  cases k with
  |true=>rw[if_pos rfl] at p ⊢;exact⟨O1,_,p,q.1.step f,q.2.step f⟩
  |false=>rw[if_neg i5] at p ⊢;exact q.2 _ H1 O1 p f⟩
theorem cj{Φ:Jn}(h:WT Z ρ O a fun k O1=>if k=true then Φ true O1 else WW Z ρ O1 (.BoolOp .Or (b::es) pos) Φ):WW Z ρ O (.BoolOp .Or (a::b::es) pos) Φ:=
 PW.weak (bN h cX) fun σ H Q q=> ⟨q.1,fun k H1 O1 p f=>by
  cases k with
  |true=>rw[if_pos rfl] at p ⊢;exact q.2 _ H1 O1 p f
  |false=>rw[if_neg i5] at p ⊢;exact⟨O1,_,p,q.1.step f,q.2.step f⟩⟩
theorem Dp{k:Bool}(h:EB Z ρ O a k):EW Z ρ O (.BoolOp .And [a] pos) k:=fun Φ p=>Om (h _ p)
theorem Bm{k:Bool}(h:EB Z ρ O a k):EW Z ρ O (.BoolOp .Or [a] pos) k:=fun Φ p=>ZN (h _ p)
theorem FZ{x y:Bool}(ha:EB Z ρ O a x)(hb:x=true→EW Z ρ O (.BoolOp .And (b::es) pos) y):EW Z ρ O (.BoolOp .And (a::b::es) pos) (x&&y):=fun Φ p=>SV (ha _ (by
 cases x with
 |true=>rw[if_pos rfl];exact hb rfl _ p
 |false=>rw[if_neg i5];exact p))
theorem Bh{x y:Bool}(ha:EB Z ρ O a x)(hb:x=false→EW Z ρ O (.BoolOp .Or (b::es) pos) y):EW Z ρ O (.BoolOp .Or (a::b::es) pos) (x||y):=fun Φ p=>cj (ha _ (by
 cases x with
 |true=>rw[if_pos rfl];exact p
 |false=>rw[if_neg i5];exact hb rfl _ p))
theorem Jp{op}(h:ET Z ρ O a t):ET Z ρ O (.BoolOp op [a] pos) t:=fun Φ p=>YO (h Φ p)
theorem Jq{x y:Bool}(ha:ET Z ρ O a (.bl x))(hb:x=true→ET Z ρ O (.BoolOp .And (b::es) pos) (.bl y)):ET Z ρ O (.BoolOp .And (a::b::es) pos) (.bl (x&&y)):=fun Φ p=>
 by
 refine PE.weak (YQ (BU (ρ:=ρ)) (BU (ρ:=ρ))) fun σ H Q q=>?_
 refine⟨O,_,ha (fun t O'=>t=.bl x∧O'=O) ⟨rfl,rfl⟩,q.1,?_⟩
 rintro v H1 _ _ ⟨rfl,rfl⟩ f r
 refine⟨x,r.bl_inv,?_⟩
 cases x with
 |true=>exact JX ⟨_,_,hb rfl _ p,q.1.step f,q.2.step f⟩
 |false=>exact Rb (q.2 _ H1 _ _ p f (.bl _))
theorem NU{x:Bool}(ha:ET Z ρ O a (.bl x)):ET Z ρ O (.UnaryOp .Not a pos) (.bl (!x)):=fun Φ p=>
 PE.weak (YR BU) fun σ H Q q=> ⟨O,_,ha (fun t O'=>t=.bl x∧O'=O) ⟨rfl,rfl⟩,q.1,fun v H1 t O1 ⟨e1,e2⟩ f r=>by
  subst e1;subst e2
  exact⟨x,r.bl_inv,q.2 _ H1 _ _ p f (.bl _)⟩⟩
theorem ck(h:WT Z ρ O c fun k O1=>if k=true then WE Z ρ O1 a Φ else WE Z ρ O1 b Φ):WE Z ρ O (.IfExp c a b pos) Φ:=
 PE.weak (RC h BU BU) fun σ H Q q=> ⟨q.1,fun k H1 O1 p f=>by
  cases k with
  |true=>rw[if_pos rfl] at p ⊢;exact⟨O1,_,p,q.1.step f,q.2.step f⟩
  |false=>rw[if_neg i5] at p ⊢;exact⟨O1,_,p,q.1.step f,q.2.step f⟩⟩
theorem Hb{x:Bool}(hc:EB Z ρ O c x)(ha:x=true→ET Z ρ O a ta)(hb:x=false→ET Z ρ O b tb):ET Z ρ O (.IfExp c a b pos) (if x=true then ta else tb):=fun Φ p=>ck (hc _ (by
 cases x with
 |true=>rw[if_pos rfl] at p ⊢;exact ha rfl _ p
 |false=>rw[if_neg i5] at p ⊢;exact hb rfl _ p))
theorem Reps.atI{vs:List V}{H:Hp}(r:Reps K O H vs ts)(e:L2.atI ts i=some t):∃v,L2.atI vs i=some v∧Rep K O H v t:=by
 unfold L2.atI at e ⊢
 rw[r.length]
 cases hx:QE ts.length i with
 |none=>rw[hx] at e;cases e
 |some j=>rw[hx] at e;exact r.get e
theorem SW(e:atI ts i=some t):RP K (cD K) (.tup ts) (.int i) O t:=fun Φ p H v w Q ok r1 r2 q=>by
 obtain⟨a,xs,rfl,h1,r1⟩:=r1.tup_inv
 obtain⟨x,ex,rx⟩:=r1.atI e
 exact⟨a,xs,i,x,rfl,r2.int_inv,.inl (.inl h1),ex,q _ H _ O p (.refl ok) rx⟩
theorem NV(e:atI ts i=some t):RP K (Yr K) (.lst ts) (.int i) O t:=fun Φ p H v w Q ok r1 r2 q=>by
 obtain⟨a,xs,rfl,h1,o1,r1⟩:=r1.lst_inv
 obtain⟨x,ex,rx⟩:=r1.atI e
 exact⟨a,xs,i,x,rfl,r2.int_inv,.inl (.inl h1),ex,q _ H _ O p (.refl ok) rx⟩
theorem ZO{a:Addr}(ha:O a=some ts)(e:atI ts i=some t):RP K (Yr K) (.raw (.ref a)) (.int i) O t:=fun Φ p H v w Q ok r1 r2 q=>by
 cases r1.raw_inv
 obtain⟨xs,h1,r1⟩:=ok a ts ha
 obtain⟨x,ex,rx⟩:=r1.atI e
 exact⟨a,xs,i,x,rfl,r2.int_inv,.inl (.inl h1),ex,q _ H _ O p (.refl ok) rx⟩
theorem AR(ha:ET Z ρ O a (.tup ts))(hb:ET Z ρ O b (.int i))(e:atI ts i=some t:=by rfl)(hs:Dk b:=by exact fun _ _=>rfl):ET Z ρ O (.Subscript a b pos) t:=SO RV hs (SW e) ha hb
theorem CJ(ha:ET Z ρ O a (.lst ts))(hb:ET Z ρ O b (.int i))(e:atI ts i=some t:=by rfl)(hs:Dk b:=by exact fun _ _=>rfl):ET Z ρ O (.Subscript a b pos) t:=SO Ed hs (NV e) ha hb
theorem DW{p:Addr}(hp:O p=some ts)(ha:ET Z ρ O a (.raw (.ref p)))(hb:ET Z ρ O b (.int i))(e:atI ts i=some t:=by rfl)(hs:Dk b:=by exact fun _ _=>rfl):ET Z ρ O (.Subscript a b pos) t:=SO Ed hs (ZO hp e) ha hb
end
noncomputable abbrev Bp:=List T→AM→Bf→(Value→AM→Prop)→Prop
noncomputable def CC(K:b9)(s:Bp):Sp:=fun vs H Q E=>∃ts O Φ Ξ,Reps K O H vs ts∧OwnOk K O H∧s ts O Φ Ξ∧Acc K O H Φ Q∧∀cls O' H',Ξ cls O'→Frm K O H O' H'→E cls none H'
structure FnT(P:Program)(w:World)(K:b9)(mg:Str→Option Value)(base:Heap)(x:Str)(k:Nat)(ps:List Str)(s:Bp):Prop where
 ex:∃f fd,FnOk P w K mg base (CXe P w) k f fd ps (CC K s)∧mg x=some (.ref f)∧nh K (.ref f)=true∧Binds K fd ps []
noncomputable def EX(φ:List T→T→Prop):Bp:=fun ts O Φ _=>∃t,φ ts t∧Φ t O
section
variable{Z:Zx}{ρ:List (Option T)}{O:AM}{e a b c:Expr}{es:List Expr}{Φ Φ':Bf}{pos p:Pos}{t ta tb:T}{ts:List T}{K:b9}{i j:Int}{x:Str}
theorem Al{k:Nat}{ps:List Str}{s:Bp}(G:FnT Z.X.prog Z.X.w Z.X.K Z.X.mg Z.X.base x k ps s)(hr:Room k Z.X.A)(xf:XFly Z.X Z.W)(h:WA Z ρ O (e::es) fun ts O1=>s ts O1 Φ Z.Xi)(hg:Gl Z.X x:=by rfl)
  (hdb:(x==("__debug__" :Str))=false:=by decide) (he:i7 (e::es) Z.X.env=(false,eval e Z.X.env)::i7 es Z.X.env:=by rfl) (hpl:(mM pos (i7 es Z.X.env)).any (·.1)=false:=by rfl):WE Z ρ O (.Call (.Name x p) (e::es) [] pos) Φ:=by
 obtain⟨f,fd,F,hm,hk,hb⟩:=G.ex
 refine PE.weak (LM xf F hr hg hm hk hb (Ld (ρ:=ρ)) hdb he hpl) fun σ H Q q=>?_
 exact⟨O,_,h,q.1,fun vs H1 ts O1 p f r=> ⟨ts,O1,Φ,Z.Xi,r,f.ok,p,q.2.step f,fun cls O' H' x f'=> ⟨rfl,O',x,(q.1.fr.trans f).trans f'⟩⟩⟩
theorem Bx{k:Nat}{ps:List Str}{s:Bp}(G:FnT Z.X.prog Z.X.w Z.X.K Z.X.mg Z.X.base x k ps s)(hr:Room k Z.X.A)(xf:XFly Z.X Z.W)(h:EA Z ρ O (e::es) ts)(hs:∀Φ:Bf,Φ t O→s ts O Φ Z.Xi)(hg:Gl Z.X x:=by rfl)
  (hdb:(x==("__debug__" :Str))=false:=by decide) (he:i7 (e::es) Z.X.env=(false,eval e Z.X.env)::i7 es Z.X.env:=by rfl) (hpl:(mM pos (i7 es Z.X.env)).any (·.1)=false:=by rfl):ET Z ρ O (.Call (.Name x p) (e::es) [] pos) t:=
 fun Φ p=>Al G hr xf (h _ (hs Φ p)) hg hdb he hpl
theorem AJ{k:Nat}{ps:List Str}{φ:List T→T→Prop}(G:FnT Z.X.prog Z.X.w Z.X.K Z.X.mg Z.X.base x k ps (EX φ))(hr:Room k Z.X.A)(xf:XFly Z.X Z.W)(h:EA Z ρ O (e::es) ts)(hs:φ ts t)(hg:Gl Z.X x:=by rfl)
  (hdb:(x==("__debug__" :Str))=false:=by decide) (he:i7 (e::es) Z.X.env=(false,eval e Z.X.env)::i7 es Z.X.env:=by rfl) (hpl:(mM pos (i7 es Z.X.env)).any (·.1)=false:=by rfl):ET Z ρ O (.Call (.Name x p) (e::es) [] pos) t:=
 Bx G hr xf h (fun Φ p=> ⟨t,hs,p⟩) hg hdb he hpl
noncomputable def CT(K:b9)(r:List V→Hp→VK→Prop)(ts:List T)(O:AM)(Φ:Bf):Prop:=∀H vs Q,OwnOk K O H→Reps K O H vs ts→Acc K O H Φ Q→r vs H Q
noncomputable def CP(K:b9)(r:List V→Hp→VK→Prop)(ts:List T)(O:AM)(t:T):Prop:=∀Φ:Bf,Φ t O→CT K r ts O Φ
theorem Lh{id:String}{r:List V→Hp→VK→Prop}(hc:BJ Z.X (.builtin id) r)(hm:Z.X.mg x=none)(hv:ku x=some (.builtin id))(h:WA Z ρ O (e::es) fun ts O1=>CT Z.K r ts O1 Φ)(hg:Gl Z.X x:=by rfl)(hn:x≠"__name__":=by decide)(hdb:(x==("__debug__" :Str))=false:=by decide)
  (he:i7 (e::es) Z.X.env=(false,eval e Z.X.env)::i7 es Z.X.env:=by rfl) (hpl:(mM pos (i7 es Z.X.env)).any (·.1)=false:=by rfl):WE Z ρ O (.Call (.Name x p) (e::es) [] pos) Φ:=
 PE.weak (EZ hc hg hm hv (Ld (ρ:=ρ)) hn hdb he hpl) fun σ H Q q=> ⟨O,_,h,q.1,fun vs H1 ts O1 p f r=>p H1 vs Q f.ok r (q.2.step f)⟩
theorem Fb{id:String}{r:List V→Hp→VK→Prop}(hc:BJ Z.X (.type id) r)(hm:Z.X.mg x=none)(hv:ku x=some (.type id))(h:WA Z ρ O (e::es) fun ts O1=>CT Z.K r ts O1 Φ)(hg:Gl Z.X x:=by rfl)(hn:x≠"__name__":=by decide)(hdb:(x==("__debug__" :Str))=false:=by decide)
  (he:i7 (e::es) Z.X.env=(false,eval e Z.X.env)::i7 es Z.X.env:=by rfl) (hpl:(mM pos (i7 es Z.X.env)).any (·.1)=false:=by rfl):WE Z ρ O (.Call (.Name x p) (e::es) [] pos) Φ:=
 PE.weak (FN hc hg hm hv (Ld (ρ:=ρ)) hn hdb he hpl) fun σ H Q q=> ⟨O,_,h,q.1,fun vs H1 ts O1 p f r=>p H1 vs Q f.ok r (q.2.step f)⟩
theorem BN{id:String}{r:List V→Hp→VK→Prop}(hc:BJ Z.X (.builtin id) r)(hm:Z.X.mg x=none)(hv:ku x=some (.builtin id))(h:EA Z ρ O (e::es) ts)(hp:CP Z.K r ts O t)(hg:Gl Z.X x:=by rfl)(hn:x≠"__name__":=by decide)(hdb:(x==("__debug__" :Str))=false:=by decide)
  (he:i7 (e::es) Z.X.env=(false,eval e Z.X.env)::i7 es Z.X.env:=by rfl) (hpl:(mM pos (i7 es Z.X.env)).any (·.1)=false:=by rfl):ET Z ρ O (.Call (.Name x p) (e::es) [] pos) t:=fun Φ q=>Lh hc hm hv (h _ (hp Φ q)) hg hn hdb he hpl
theorem Iy{id:String}{r:List V→Hp→VK→Prop}(hc:BJ Z.X (.type id) r)(hm:Z.X.mg x=none)(hv:ku x=some (.type id))(h:EA Z ρ O (e::es) ts)(hp:CP Z.K r ts O t)(hg:Gl Z.X x:=by rfl)(hn:x≠"__name__":=by decide)(hdb:(x==("__debug__" :Str))=false:=by decide)
  (he:i7 (e::es) Z.X.env=(false,eval e Z.X.env)::i7 es Z.X.env:=by rfl) (hpl:(mM pos (i7 es Z.X.env)).any (·.1)=false:=by rfl):ET Z ρ O (.Call (.Name x p) (e::es) [] pos) t:=fun Φ q=>Fb hc hm hv (h _ (hp Φ q)) hg hn hdb he hpl
noncomputable def MT(K:b9)(ty:String)(r:V→List V→Hp→VK→Prop)(t:T)(ts:List T)(O:AM)(Φ:Bf):Prop:=∀H v vs Q,OwnOk K O H→Rep K O H v t→Reps K O H vs ts→Acc K O H Φ Q→r v vs H Q
noncomputable def gj(K:b9)(ty:String)(O:AM)(t:T):Prop:=∀H v,OwnOk K O H→Rep K O H v t→gS K ty v H
theorem SX{o:Expr}{name:Str}{apos cpos:Pos}{ty id:String}{r:V→List V→Hp→VK→Prop}(pa:PlainAttrs ty)(slot:Slot ty name id)(hty:typeOf (.builtin id)=pure (.type "method_descriptor"))(hm:iM Z.X id r)
  (h:WE Z ρ O o fun t O1=>gj Z.K ty O1 t∧WA Z ρ O1 (e::es) fun ts O2=>MT Z.K ty r t ts O2 Φ)
  (hbase:p7 o name Z.X.env (eval o Z.X.env)=eval o Z.X.env:=by rfl)
  (hfew:((mM cpos (i7 (e::es) Z.X.env)).all (fun x=>!x.1)&&(sR cpos (qL [] Z.X.env)).all (fun x=>x.1.isSome)
   &&decide ((e::es).length+([]:List p9).length+(if([]:List p9).isEmpty then 0 else 1)<30))=true:=by rfl)
  (hline:(apos.endLine==cpos.line)=true:=by rfl) (hs:i7 (e::es) Z.X.env=(false,eval e Z.X.env)::i7 es Z.X.env:=by rfl) (hplain:(mM cpos (i7 es Z.X.env)).any (·.1)=false:=by rfl):WE Z ρ O (.Call (.Attribute o name apos) (e::es) [] cpos) Φ:=
 PE.weak (cG pa slot hty hm (BU (ρ:=ρ)) (Ld (ρ:=ρ)) hbase hfew hline hs hplain) fun σ H Q q=> ⟨O,_,h,q.1,fun v H1 t O1 ⟨ty,p⟩ f1 r1=> ⟨ty H1 v f1.ok r1,O1,_,p,q.1.step f1,fun vs H2 ts O2 p2 f2 r2=>
  p2 H2 v vs Q f2.ok (r1.kp f2.kp f1.ok) r2 (q.2.step (f1.trans f2))⟩⟩
theorem On{a:Addr}(ha:O a=some ts):gj K "list" O (.raw (.ref a)):=fun H v ok r=>by
 cases r.raw_inv
 obtain⟨xs,h,_⟩:=ok a ts ha
 exact .inl ⟨rfl,xs,.inl (.inl h)⟩
theorem Vh:gj K "list" O (.lst ts):=fun H v ok r=>by
 obtain⟨a,xs,rfl,h,_⟩:=r.lst_inv
 exact .inl ⟨rfl,xs,.inl (.inl h)⟩
theorem NW{a:Addr}{u:T}(ha:O a=some ts)(hl:ts.length<sizeLine)(p:Φ .non (Ap O a (ts++[u]))):MT K "list" OU (.raw (.ref a)) [u] O Φ:=fun H v vs Q ok r1 r2 q=>by
 cases r1.raw_inv
 obtain⟨w,rfl,r3⟩:=r2.one_inv
 obtain⟨xs,h,r⟩:=ok a ts ha
 exact⟨a,xs,w,rfl,rfl,h,by rw[r.length];exact hl,q _ _ _ _ p (.put ok ha (r.append (.one r3))) .non⟩
theorem Cg{o:Expr}{apos cpos:Pos}(h:WE Z ρ O o fun t O1=>∃a,t=.raw (.ref a)∧(∃ts,O1 a=some ts)∧WE Z ρ O1 e fun u O2=>∃ts,O2 a=some ts∧ts.length<sizeLine∧Φ .non (Ap O2 a (ts++[u])))
  (hbase:p7 o "append" Z.X.env (eval o Z.X.env)=eval o Z.X.env:=by rfl)
  (hfew:((mM cpos (i7 [e] Z.X.env)).all (fun x=>!x.1)&&(sR cpos (qL [] Z.X.env)).all (fun x=>x.1.isSome)
   &&decide ([e].length+([]:List p9).length+(if([]:List p9).isEmpty then 0 else 1)<30))=true:=by rfl)
  (hline:(apos.endLine==cpos.line)=true:=by rfl) (hs:i7 [e] Z.X.env=(false,eval e Z.X.env)::i7 [] Z.X.env:=by rfl) (hplain:(mM cpos (i7 [] Z.X.env)).any (·.1)=false:=by rfl):WE Z ρ O (.Call (.Attribute o "append" apos) [e] [] cpos) Φ:=by
 refine SX pA PySem.F.slot_list_append PySem.F.type_list_append Ih (Dn h ?_) hbase hfew hline hs hplain
 rintro t O1 ⟨a,rfl,⟨ts,hts⟩,w⟩
 refine⟨On hts,Do (Dn w ?_) hs⟩
 rintro u O2 ⟨us,h1,h2,p⟩
 exact BL (NW h1 h2 p)
end
noncomputable abbrev Li:=List (Option T)→AM→Prop
structure Es where
 nx:Li
 rt:Bf
 bk:Li:=fun _ _=>False
 ct:Li:=fun _ _=>False
noncomputable def AccN(Z:Zx)(O:AM)(H:Hp)(N:Li)(D:St→Hp→Prop):Prop:=∀ρ' O' σ' H',N ρ' O'→Asr Z ρ' O' σ' H'→Kp O H O' H'→D σ' H'
structure AccS(Z:Zx)(O:AM)(H:Hp)(Ψ:Es)(D:Ends):Prop where
 nx:AccN Z O H Ψ.nx D.nx
 rt:∀v H' t O',Ψ.rt t O'→Frm Z.K Z.Oe Z.He O' H'→Rep Z.K O' H' v t→D.rt v H'
 bk:AccN Z O H Ψ.bk D.bk
 ct:AccN Z O H Ψ.ct D.ct
noncomputable def tS(Z:Zx)(ρ:List (Option T))(O:AM)(Ψ:Es):TS:=fun D σ H=>Asr Z ρ O σ H∧AccS Z O H Ψ D
noncomputable def WS(Z:Zx)(ρ:List (Option T))(O:AM)(s:Stmt)(Ψ:Es):Prop:=PS Z.X s (tS Z ρ O Ψ)
noncomputable def Fu(Z:Zx)(ρ:List (Option T))(O:AM)(s:List Stmt)(Ψ:Es):Prop:=PSs Z.X s (tS Z ρ O Ψ)
noncomputable def jB(Z:Zx)(ss:List Stmt):TS:=fun D σ H=>∃ρ O Ψ,Fu Z ρ O ss Ψ∧tS Z ρ O Ψ D σ H
theorem Lj{Z:Zx}{ss:List Stmt}:PSs Z.X ss (jB Z ss):=fun pins s σ H D I ⟨_,_,_,w,q⟩=>w pins s σ H D I q
section
variable{Z:Zx}{ρ:List (Option T)}{O O1:AM}{e a b c:Expr}{es:List Expr}{Ψ:Es}{pos p:Pos}{t ta tb:T}{ts:List T}{i j:Nat}{x:Str}{s:Stmt}{ss:List Stmt}{H H1:Hp}{D:Ends}
theorem AccN.step{N:Li}{D:St→Hp→Prop}(h:AccN Z O H N D)(k:Kp O H O1 H1):AccN Z O1 H1 N D:=fun ρ' O' σ' H' n a k'=>h ρ' O' σ' H' n a (k.trans k')
theorem AccS.step(h:AccS Z O H Ψ D)(k:Kp O H O1 H1):AccS Z O1 H1 Ψ D:=⟨h.nx.step k,h.rt,h.bk.step k,h.ct.step k⟩
theorem AZ(h:Ψ.nx ρ O):Fu Z ρ O [] Ψ:=PSs.weak OK fun D σ H q=>q.2.nx ρ O σ H h q.1 .refl
theorem AE(h:WS Z ρ O s {Ψ with nx:=fun ρ' O'=>Fu Z ρ' O' ss Ψ}):Fu Z ρ O (s::ss) Ψ:=
 PSs.weak (Kx h Lj) fun D σ H q=> ⟨q.1,fun ρ' O' σ' H' w a k=> ⟨ρ',O',Ψ,w,a,q.2.step k⟩,q.2.rt,q.2.bk,q.2.ct⟩
theorem AG(h:WS Z ρ O s Ψ):Fu Z ρ O [s] Ψ:=PSs.weak (JS h) fun _ _ _ q=>q
theorem GM{Ψ':Es}(h:WS Z ρ O s Ψ)(n:∀ρ' O',Ψ.nx ρ' O'→Ψ'.nx ρ' O')(r:∀t O',Ψ.rt t O'→Ψ'.rt t O')(bk:∀ρ' O',Ψ.bk ρ' O'→Ψ'.bk ρ' O')(ct:∀ρ' O',Ψ.ct ρ' O'→Ψ'.ct ρ' O'):WS Z ρ O s Ψ':=
 PS.weak h fun D σ H q=> ⟨q.1,fun ρ' O' σ' H' w=>q.2.nx ρ' O' σ' H' (n ρ' O' w),fun v H' t O' w=>q.2.rt v H' t O' (r t O' w),fun ρ' O' σ' H' w=>q.2.bk ρ' O' σ' H' (bk ρ' O' w),fun ρ' O' σ' H' w=>q.2.ct ρ' O' σ' H' (ct ρ' O' w)⟩
theorem Bq{p:Addr}{n:Nat}(hp:O p=some ts)(he:Z.Oe p=none)(hn:ρ[n]?=some (some (.raw (.ref p))))(h:Fu Z (ρ.set n (some (.lst ts))) (EC O p) ss Ψ):Fu Z ρ O ss Ψ:=PSs.weak h fun D σ H q=>by
 refine⟨⟨?_,⟨q.1.fr.kp.trans Dm,fun b us e=>?_,q.1.ok.drop⟩⟩,q.2.step Dm⟩
 ·have r1:=q.1.rl.kp (Dm (a:=p)) q.1.ok
  obtain⟨v,e1,e2⟩:=q.1.rl.2 n _ hn
  cases e2.raw_inv
  have r2:=r1.set (i:=n) (q.1.ok.rep hp)
  have:σ.set n (some (.ref p))=σ:=by
   apply lH
   intro m
   by_cases hm:m=n
   ·subst hm
    have hl:m<σ.length:=(jc.mp e1).1
    rw[ky hl,e1]
   ·rw[jx (Ne.symm hm)]
  rw[this] at r2
  exact r2
 ·obtain⟨us',e'⟩:=q.1.fr.own b us e
  have:b≠p:=fun z=>by rw[z,he] at e;cases e
  exact⟨us',by rw[El this];exact e'⟩
theorem AK(h:WE Z ρ O e Ψ.rt):WS Z ρ O (.Return (some e) pos) Ψ:=PS.weak (Mk h) fun D σ H q=> ⟨q.1,fun v H' t O' p f r=>q.2.rt v H' t O' p (q.1.fr.trans f) r⟩
theorem BC(h:WE Z ρ O e fun _ O'=>Ψ.nx ρ O')(hs:qx e none pos.line Z.X.env=pure false:=by rfl):WS Z ρ O (.Expr e pos) Ψ:=
 PS.weak (Ux h hs) fun D σ H q=> ⟨q.1,fun v H' t O' p f r=>q.2.nx ρ O' σ H' p (q.1.step f) f.kp⟩
theorem AN(i:Nat)(h:WE Z ρ O e fun t O'=>Ψ.nx (ρ.set i (some t)) O')(hN:Z.X.N.Nodup){pos':Pos}(hi:Z.X.N[i]?=some x:=by rfl)(hx:Mi Z.X.env.scope x:=by first|exact pJ rfl|exact oN rfl)(hs:qx e (some (.Name x pos')) pos.line Z.X.env=pure false:=by rfl)
  (hf:Z.X.fn x=true∨Z.X.env.scope.names.lookup x=some .local:=by first|exact .inl rfl|exact .inr rfl):WS Z ρ O (.Assign [.Name x pos'] e pos) Ψ:=
 PS.weak (YU hN hi hx h hs hf) fun D σ H q=> ⟨q.1,fun v H' t O' p f r=>q.2.nx _ O' _ H' p ⟨(q.1.step f).rl.set r,(q.1.step f).fr⟩ f.kp⟩
theorem ZP{op:r8}{ti:bU}(i:Nat){pos':Pos}(ho:gC Z.X op ti)(hρ:ρ[i]?=some (some ta))(h:WE Z ρ O e fun tb O1=>RT Z.K ti ta tb O1 fun t O2=>Ψ.nx (ρ.set i (some t)) O2)(hN:Z.X.N.Nodup)(hi:Z.X.N[i]?=some x:=by rfl)(hx:Mi Z.X.env.scope x:=by first|exact pJ rfl|exact oN rfl)
  (hf:Z.X.fn x=true∨Z.X.env.scope.names.lookup x=some .local:=by first|exact .inl rfl|exact .inr rfl):WS Z ρ O (.AugAssign (.Name x pos') op e pos) Ψ:=
 PS.weak (YW hN hi hx h ho hf) fun D σ H q=>by
  obtain⟨v,e1,r1⟩:=q.1.rl.2 i _ hρ
  exact⟨v,e1,q.1,fun w H1 tb O1 p f r=>p H1 v w _ f.ok (r1.kp f.kp q.1.ok) r fun z H2 t O2 p2 f2 r2=>q.2.nx _ O2 _ H2 p2 ⟨(q.1.step (f.trans f2)).rl.set r2,(q.1.step (f.trans f2)).fr⟩ (f.trans f2).kp⟩
theorem SY{ea eb:List Stmt}(h:WT Z ρ O c fun k O1=>if k=true then Fu Z ρ O1 ea Ψ else Fu Z ρ O1 eb Ψ):WS Z ρ O (.If c ea eb pos) Ψ:=
 PS.weak (XO h Lj Lj) fun D σ H q=> ⟨q.1,fun k H1 O1 p f=>by
  cases k with
  |true=>rw[if_pos rfl] at p ⊢;exact⟨ρ,O1,Ψ,p,q.1.step f,q.2.step f.kp⟩
  |false=>rw[if_neg i5] at p ⊢;exact⟨ρ,O1,Ψ,p,q.1.step f,q.2.step f.kp⟩⟩
theorem Ad{ea eb:List Stmt}{k:Bool}(hc:EB Z ρ O c k)(h1:k=true→Fu Z ρ O ea Ψ)(h2:k=false→Fu Z ρ O eb Ψ):WS Z ρ O (.If c ea eb pos) Ψ:=SY (hc _ (by
 cases k with
 |true=>rw[if_pos rfl];exact h1 rfl
 |false=>rw[if_neg i5];exact h2 rfl))
noncomputable def tG(Z:Zx)(n:Nat)(ρ:List (Option T))(O:AM)(t:T)(ρ':List (Option T)):TG:=fun v σ H Q=>Asr Z ρ O σ H∧Rep Z.K O H v t∧∀σ',Asr Z ρ' O σ' H→(σ'.length=σ.length∧∀j,n≤j→σ'[j]?=σ[j]?)→Q σ' H
noncomputable def WG(Z:Zx)(n:Nat)(ρ:List (Option T))(O:AM)(tg:Expr)(t:T)(ρ':List (Option T)):Prop:=PG Z.X tg (tG Z n ρ O t ρ')
theorem PG.weak{X:Cx}{e:Expr}{t t':TG}(h:PG X e t)(w:∀v σ H Q,t' v σ H Q→t v σ H Q):PG X e t':=fun pins s σ H v u Q I r q=>h pins s σ H v u Q I r (w v σ H Q q)
noncomputable def jC(Z:Zx)(n:Nat)(tg:Expr):TG:=fun v σ H Q=>∃ρ O t ρ',WG Z n ρ O tg t ρ'∧tG Z n ρ O t ρ' v σ H Q
theorem cq{n:Nat}{tg:Expr}:PG Z.X tg (jC Z n tg):=fun pins s σ H v u Q I r ⟨_,_,_,_,w,q⟩=>w pins s σ H v u Q I r q
theorem AV(i:Nat){n:Nat}(hN:Z.X.N.Nodup)(hn:i<n)(hi:Z.X.N[i]?=some x:=by rfl)(hx:Mi Z.X.env.scope x:=by first|exact pJ rfl|exact oN rfl)
  (hf:Z.X.fn x=true∨Z.X.env.scope.names.lookup x=some .local:=by first|exact .inl rfl|exact .inr rfl):WG Z n ρ O (.Name x pos) t (ρ.set i (some t)):=
 PG.weak (Bw hN hi hx hf) fun v σ H Q q=>q.2.2 _ ⟨q.1.rl.set q.2.1,q.1.fr⟩ ⟨by simp,fun j hj=>by rw[jx (by omega)]⟩
theorem Bb(i j:Nat){n:Nat}{y:Str}{p1 p2:Pos}{k:Nat}(hc:Z.X.calm=true)(hN:Z.X.N.Nodup)(hni:i<n)(hnj:j<n)(hi:Z.X.N[i]?=some x:=by rfl)(hj:Z.X.N[j]?=some y:=by rfl)(hx:Mi Z.X.env.scope x:=by first|exact pJ rfl|exact oN rfl)(hy:Mi Z.X.env.scope y:=by first|exact pJ rfl|exact oN rfl)
  (hf:Z.X.fn x=true∨Z.X.env.scope.names.lookup x=some .local:=by first|exact .inl rfl|exact .inr rfl) (hf2:Z.X.fn y=true∨Z.X.env.scope.names.lookup y=some .local:=by first|exact .inl rfl|exact .inr rfl)
  (hs:(kz [.Name x p1,.Name y p2] Z.X.env).map (·.2)=assign (.Name x p1) Z.X.env::(kz [.Name y p2] Z.X.env).map (·.2):=by rfl) (hs2:(kz [.Name y p2] Z.X.env).map (·.2)=assign (.Name y p2) Z.X.env::(kz [] Z.X.env).map (·.2):=by rfl)
  (hl:(kz [.Name x p1,.Name y p2] Z.X.env).length=2:=by rfl) (hst:(kz [.Name x p1,.Name y p2] Z.X.env).findIdx? (·.1)=none:=by rfl):
  WG Z n ρ O (.Tuple [.Name x p1,.Name y p2] k pos) (.tup [ta,tb]) ((ρ.set i (some ta)).set j (some tb)):=
 PG.weak (RD hc (Bn (Bw hN hi hx hf) (Bn (Bw hN hj hy hf2) JT hs2) hs) hl hst) fun v σ H Q q=>by
  obtain⟨q1,q2,q3⟩:=q
  obtain⟨a,xs,rfl,h1,r⟩:=q2.tup_inv
  obtain⟨v,w,rfl,r1,r2⟩:=r.two_inv
  exact⟨a,_,rfl,.inl (.inl h1),rfl,v,_,rfl,w,_,rfl,rfl,q3 _ ⟨(q1.rl.set r1).set r2,q1.fr⟩ ⟨by simp,fun m hm=>by rw[jx (by omega),jx (by omega)]⟩⟩
theorem NX{n:Nat}{tg:Expr}(h:WE Z ρ O e fun t O'=>∃ρ',WG Z n ρ O' tg t ρ'∧Ψ.nx ρ' O')(hs:pY [tg] e pos.line Z.X.env=pure false:=by rfl)(hw:pZ [tg] e Z.X.env=pure none:=by rfl)
  (h1:(kz [tg] Z.X.env).map (·.2)=[assign tg Z.X.env]:=by rfl):WS Z ρ O (.Assign [tg] e pos) Ψ:=
 PS.weak (RE h (cq (n:=n)) hs hw h1) fun D σ H q=> ⟨q.1,fun v H' t O' ⟨ρ',wg,p⟩ f r=> ⟨ρ,O',t,ρ',wg,q.1.step f,r,fun σ' a _=>q.2.nx _ O' _ H' p a f.kp⟩⟩
theorem Hc{o ix:Expr}{px:Pos}(h:WE Z ρ O e fun t O1=>WE Z ρ O1 o fun u O2=>∃a,u=.raw (.ref a)∧WE Z ρ O2 ix fun w O3=>∃ts k m,w=.int k∧O3 a=some ts∧QE ts.length k=some m∧Ψ.nx ρ (Ap O3 a (ts.set m t)))
  (ha:∀v,assign (.Subscript o ix px) Z.X.env v=(do
   let ov←holding [v] (eval o Z.X.env)
   let iv←holding [v,ov] (eval ix Z.X.env)
   standAt px
   holding [v,ov,iv] (setItem ov iv v)
   release [v,ov,iv] []):=by intro _;rfl)
  (hs:pY [.Subscript o ix px] e pos.line Z.X.env=pure false:=by rfl) (hw:pZ [.Subscript o ix px] e Z.X.env=pure none:=by rfl)
  (h1:(kz [.Subscript o ix px] Z.X.env).map (·.2)=[assign (.Subscript o ix px) Z.X.env]:=by rfl):WS Z ρ O (.Assign [.Subscript o ix px] e pos) Ψ:=by
 refine PS.weak (RE h (YT (BU (ρ:=ρ)) (BU (ρ:=ρ)) RW ha) hs hw h1) fun D σ H q=> ⟨q.1,fun v H1 t O1 p1 f1 r1=>?_⟩
 refine⟨O1,_,p1,q.1.step f1,?_⟩
 rintro vo H2 _ O2 ⟨a,rfl,p2⟩ f2 r2
 refine⟨O2,_,p2,q.1.step (f1.trans f2),?_⟩
 rintro vi H3 _ O3 ⟨ts,k,m,rfl,ho,hm,p3⟩ f3 r3
 cases r2.raw_inv
 obtain⟨xs,hx,rx⟩:=f3.ok a ts ho
 have r1':=(r1.kp f2.kp f1.ok).kp f3.kp f2.ok
 have f:=f1.trans (f2.trans (f3.trans (Frm.put f3.ok ho (rx.set r1' m))))
 exact⟨a,xs,k,m,rfl,r3.int_inv,hx,by rw[rx.length];exact hm,q.2.nx ρ _ σ _ p3 (q.1.step f) f.kp⟩
noncomputable def Lk(K:b9)(J:It)(O:AM)(H:Hp)(ts:List T):Prop:=∀O' H',Kp O H O' H'→OwnOk K O' H'→
 (∀i,i<ts.length→J.go i H')∧(∀i x H'',J.yld i H' x H''→∀t,ts[i]?=some t→Frm K O' H' O' H''∧Rep K O' H'' x t)∧∀i,ts.length≤i→J.stop i H'
noncomputable def WI(Z:Zx)(ρ:List (Option T))(O:AM)(tg iter:Expr)(Φ:NQ):Prop:=PI Z.X tg iter fun σ H R=>Asr Z ρ O σ H∧∀J H' ts O',Φ ts O'→Frm Z.K O H O' H'→Lk Z.K J O' H' ts→R J H'
theorem PI.weak{X:Cx}{tg e:Expr}{t t':TI}(h:PI X tg e t)(w:∀σ H R,t' σ H R→t σ H R):PI X tg e t':=fun pins s σ H R I q=>h pins s σ H R I (w σ H R q)
theorem QV{K:b9}{a:Addr}{xs:List V}(ok:OwnOk K O H)(h:H a=some (.lst xs))(n:O a=none)(r:Reps K O H xs ts):Lk K (gI K a) O H ts:=fun O' H' k ok'=>by
 have h':=(k.lst h n).1
 have r':=r.kp k ok
 refine⟨fun i hi=>?_,fun i x H'' y t e=>?_,fun i hi=> ⟨xs,.inl (.inl h'),by rw[r.length];exact hi⟩⟩
 ·obtain⟨v,e,_⟩:=r'.get (i:=i) (t:=ts[i]) (by simp[hi])
  exact⟨xs,v,.inl (.inl h'),e⟩
 ·obtain⟨rfl,y⟩:=y
  obtain⟨v,e',q⟩:=r'.get e
  have:=y xs (.inl (.inl h'))
  rw[e'] at this;cases this
  exact⟨.refl ok',q⟩
theorem SZ{K:b9}{a:Addr}{xs:List V}(ok:OwnOk K O H)(h:H a=some (.tup xs))(r:Reps K O H xs ts):Lk K (gJ K a) O H ts:=fun O' H' k ok'=>by
 have h':DN K H' a xs:=.inl (.inl (k.oth ok h fun _ z=>by cases z))
 have r':=r.kp k ok
 refine⟨fun i hi=>?_,fun i x H'' y t e=>?_,fun i hi=> ⟨xs,h',by rw[r.length];exact hi⟩⟩
 ·obtain⟨v,e,_⟩:=r'.get (i:=i) (t:=ts[i]) (by simp[hi])
  exact⟨xs,v,h',e⟩
 ·obtain⟨rfl,y⟩:=y
  obtain⟨v,e',q⟩:=r'.get e
  have:=y xs h'
  rw[e'] at this;cases this
  exact⟨.refl ok',q⟩
noncomputable def GD(lo:Int)(n:Nat):List T:=(j6 n).map fun(i:Nat)=>T.int (lo+i)
theorem BX{lo:Int}{n:Nat}:(GD lo n).length=n:=by simp[GD]
theorem DX{lo:Int}{n i:Nat}(h:(GD lo n)[i]?=some t):i<n∧t=.int (lo+i):=by
 unfold GD at h
 rw[e9] at h
 by_cases hi:i<n
 ·rw[nR hi] at h
  cases h
  exact⟨hi,rfl⟩
 ·rw[lA (by simpa using hi)] at h
  cases h
theorem Ll{K:b9}{lo:Int}{n:Nat}:Lk K (bX lo n) O H (GD lo n):=fun O' H' k ok'=>by
 refine⟨fun i hi=>by rwa[BX] at hi,fun i x H'' y t e=>?_,fun i hi=>by rwa[BX] at hi⟩
 obtain⟨rfl,rfl⟩:=y
 obtain⟨_,rfl⟩:=DX e
 exact⟨.refl ok',.int _⟩
theorem Oo{tg:Expr}{Φ:NQ}(h:WE Z ρ O e fun t O'=>∃ts,t=.lst ts∧Φ ts O'):WI Z ρ O tg e Φ:=PI.weak (Uz h) fun σ H R q=> ⟨q.1,by
 rintro v H' _ O' ⟨ts,rfl,p⟩ f r
 obtain⟨a,xs,rfl,h1,n,r⟩:=r.lst_inv
 exact⟨a,rfl,⟨xs,.inl (.inl h1)⟩,q.2 _ H' ts O' p f (QV f.ok h1 n r)⟩⟩
theorem ZQ{tg:Expr}{Φ:NQ}(h:WE Z ρ O e fun t O'=>∃ts,t=.tup ts∧Φ ts O'):WI Z ρ O tg e Φ:=PI.weak (YZ h) fun σ H R q=> ⟨q.1,by
 rintro v H' _ O' ⟨ts,rfl,p⟩ f r
 obtain⟨a,xs,rfl,h1,r⟩:=r.tup_inv
 exact⟨a,rfl,⟨xs,.inl (.inl h1)⟩,q.2 _ H' ts O' p f (SZ f.ok h1 r)⟩⟩
theorem QW{tg:Expr}{Φ:NQ}(hm:Z.X.mg "range" =none)(h:WA Z ρ O [a] fun ts O'=>∃j:Int,ts=[.int j]∧-(2^62)≤j∧j<2^62∧Φ (GD 0 j.toNat) O')(hg:Gl Z.X "range":=by rfl)(hs:i7 [a] Z.X.env=[(false,eval a Z.X.env)]:=by rfl):WI Z ρ O tg (.Call (.Name "range" p) [a] [] pos) Φ:=
 PI.weak (Pv hg hm h hs) fun σ H R q=> ⟨q.1,by
  rintro vs H' _ O' ⟨j,rfl,h1,h2,p⟩ f r
  obtain⟨v,rfl,r'⟩:=r.one_inv
  exact⟨j,by rw[r'.int_inv],h1,h2,q.2 _ H' _ O' p f Ll⟩⟩
theorem QX{tg:Expr}{Φ:NQ}(hm:Z.X.mg "range" =none)(h:WA Z ρ O [a,b] fun ts O'=>∃i j:Int,ts=[.int i,.int j]∧(-(2^62)≤i∧i<2^62∧-(2^62)≤j∧j<2^62)∧Φ (GD i (j-i).toNat) O')(hg:Gl Z.X "range":=by rfl)(hs:i7 [a,b] Z.X.env=[(false,eval a Z.X.env),(false,eval b Z.X.env)]:=by rfl)(hs2:i7 [b] Z.X.env=[(false,eval b Z.X.env)]:=by rfl):WI Z ρ O tg (.Call (.Name "range" p) [a,b] [] pos) Φ:=
 PI.weak (Pw hg hm h hs hs2) fun σ H R q=> ⟨q.1,by
  rintro vs H' _ O' ⟨i,j,rfl,h1,p⟩ f r
  obtain⟨v,w,rfl,r1,r2⟩:=r.two_inv
  exact⟨i,j,by rw[r1.int_inv,r2.int_inv],h1,q.2 _ H' _ O' p f Ll⟩⟩
noncomputable def EI(Z:Zx)(ρ:List (Option T))(O:AM)(tg iter:Expr)(ts:List T):Prop:=∀Φ:NQ,Φ ts O→WI Z ρ O tg iter Φ
theorem Am{tg:Expr}(h:ET Z ρ O e (.lst ts)):EI Z ρ O tg e ts:=fun Φ p=>Oo (h _ ⟨ts,rfl,p⟩)
theorem DA{tg:Expr}(h:ET Z ρ O e (.tup ts)):EI Z ρ O tg e ts:=fun Φ p=>ZQ (h _ ⟨ts,rfl,p⟩)
theorem BF{tg:Expr}{k:Int}(hm:Z.X.mg "range" =none)(h:ET Z ρ O a (.int k))(h1: -(2^62)≤k∧k<2^62)(hg:Gl Z.X "range":=by rfl)(hs:i7 [a] Z.X.env=[(false,eval a Z.X.env)]:=by rfl):EI Z ρ O tg (.Call (.Name "range" p) [a] [] pos) (GD 0 k.toNat):=fun Φ q=>QW hm (AQ h AB hs _ ⟨k,rfl,h1.1,h1.2,q⟩) hg hs
theorem Fc{tg:Expr}{k l:Int}(hm:Z.X.mg "range" =none)(h:ET Z ρ O a (.int k))(h2:ET Z ρ O b (.int l))(h1: -(2^62)≤k∧k<2^62∧-(2^62)≤l∧l<2^62)(hg:Gl Z.X "range":=by rfl)(hs:i7 [a,b] Z.X.env=[(false,eval a Z.X.env),(false,eval b Z.X.env)]:=by rfl)(hs2:i7 [b] Z.X.env=[(false,eval b Z.X.env)]:=by rfl):EI Z ρ O tg (.Call (.Name "range" p) [a,b] [] pos) (GD k (l-k).toNat):=
 fun Φ q=>QX hm (AQ h (AQ h2 AB hs2) (by rw[hs,hs2]) _ ⟨k,l,rfl,h1,q⟩) hg hs hs2
theorem Bc{tg iter:Expr}{body:List Stmt}(hp:qz (model Z.X.prog Z.X.w) Z.X.A Z.X.env Z.X.xe)(hc:Z.X.calm=true)
  (h:WI Z ρ O tg iter fun ts O1=>∃I:Nat→Li,I 0 ρ O1∧(∀i t ρ' O',ts[i]?=some t→I i ρ' O'→∃ρ2,WG Z Z.X.N.length ρ' O' tg t ρ2∧Fu Z ρ2 O' body {nx:=I (i+1),rt:=Ψ.rt,bk:=Ψ.nx,ct:=I (i+1)})∧∀ρ' O',I ts.length ρ' O'→Ψ.nx ρ' O')
  (hs:∀x,lU iter Z.X.env x=pure x:=by intro _;rfl):WS Z ρ O (.For tg iter body [] pos) Ψ:=by
 refine PS.weak (Yb hp hc h (cq (n:=Z.X.N.length)) Lj hs) fun D σ H q=> ⟨q.1,?_⟩
 rintro J H1 ts O1 ⟨I,i0,step,fin⟩ f1 it
 refine⟨fun i m σ' H'=>m=ts.length-i∧i≤ts.length∧∃ρ' O',I i ρ' O'∧Asr Z ρ' O' σ' H'∧Kp O1 H1 O' H',⟨ts.length,by simp,kN _,ρ,O1,i0,q.1.step f1,.refl⟩,?_⟩
 rintro i m σ2 H2 ⟨rfl,hi,ρ2,O2,i2,a2,k2⟩
 obtain⟨g1,g2,g3⟩:=it O2 H2 k2 a2.ok
 by_cases hlt:i<ts.length
 ·refine .inr ⟨g1 i hlt,fun σ' H'=>∃ρ' O',I (i+1) ρ' O'∧Asr Z ρ' O' σ' H'∧Kp O1 H1 O' H',fun σ' H' w=> ⟨_,by omega,rfl,by omega,w⟩,fun x H3 y=>?_⟩
  obtain⟨f3,r3⟩:=g2 i x H3 y ts[i] (by simp[hlt])
  obtain⟨ρ3,wg,wb⟩:=step i ts[i] ρ2 O2 (by simp[hlt]) i2
  refine⟨ρ2,O2,_,ρ3,wg,a2.step f3,r3,fun σ3 a3 _=> ⟨ρ3,O2,_,wb,a3,?_⟩⟩
  have kk:=(k2.trans f3.kp)
  exact⟨fun ρ' O' σ' H' w a k=> ⟨ρ',O',w,a,kk.trans k⟩,q.2.rt,fun ρ' O' σ' H' w a k=>q.2.nx ρ' O' σ' H' w a (f1.kp.trans (kk.trans k)),fun ρ' O' σ' H' w a k=> ⟨ρ',O',w,a,kk.trans k⟩⟩
 ·have:i=ts.length:=by omega
  subst this
  exact .inl ⟨g3 _ (jb _),q.2.nx ρ2 O2 σ2 H2 (fin ρ2 O2 i2) a2 (f1.kp.trans k2)⟩
end
noncomputable def zc(X:Cx)(Oe:AM)(He:Hp):Zx:=⟨X,Oe,He,fun _ _=>False⟩
noncomputable def IR(nc:List Str)(ρ:List (Option T))(cap:List (Str×Nat)):List (Option T):=kX nc.length none++cap.map fun q=> (ρ[q.2]?).join
noncomputable def fg(Z:Zx)(ρ:List (Option T))(O:AM)(ifs:List Expr)(Φ:Jn):Prop:=Yx Z.X ifs (bK Z ρ O Φ)
theorem BG{O:AM}{p:Addr}{ts:List T}(h:O p=none):EC (Ap O p ts) p=O:=by
 funext b
 by_cases hb:b=p
 ·rw[hb,Cw,h]
 ·rw[El hb,Ah hb]
theorem DY{O:AM}{p a:Addr}{ts us:List T}(h:a≠p):Ap (Ap O p ts) a us=Ap (Ap O a us) p ts:=by
 funext b
 unfold Ap
 by_cases h1:b=a
 ·subst h1;rw[if_pos rfl,if_neg h,if_pos rfl]
 ·rw[if_neg h1,if_neg h1]
section
variable{Z:Zx}{ρ:List (Option T)}{O:AM}{elt tg iter:Expr}{ifs:List Expr}{csc:Scope}{nc:List Str}{cap:List (Str×Nat)}{Φ:Bf}{pos:Pos}
theorem GN{Φ:Jn}(h:Φ true O):fg Z ρ O [] Φ:=fun pins s σ H Q I q=>VP pins s σ H Q I (q.2 true H O h q.1.refl)
theorem Oq{Φ:Jn}{c:Expr}(h:WT Z ρ O c Φ):fg Z ρ O [c] Φ:=VQ h
theorem cu{K:b9}{H:Hp}{σ:St}(r:Rl K O H σ ρ):Rl K O H (IQ nc σ cap) (IR nc ρ cap):=by
 refine⟨by simp[CO,IR],fun i t e=>?_⟩
 unfold IR at e
 have hi:nc.length≤i:=by
  by_cases hi:i<nc.length
  ·rw[jz (by simpa using hi),mx] at e
   split at e<;>cases e
  ·omega
 rw[jw (by simpa using hi),e9] at e
 simp only[lS] at e
 cases hc:cap[i-nc.length]? with
 |none=>rw[hc] at e;cases e
 |some q=>
  rw[hc] at e
  have e:(ρ[q.2]?).join=some t:=ki.inj e
  have e':ρ[q.2]?=some (some t):=by
   cases h:ρ[q.2]? with
   |none=>rw[h] at e;cases e
   |some w=>rw[h] at e;exact congrArg some e
  obtain⟨v,h1,h2⟩:=r.2 q.2 t e'
  refine⟨v,?_,h2⟩
  show(kX nc.length (none:Option V)++CO σ cap)[i]?=some (some v)
  rw[jw (by simpa using hi)]
  simp only[lS]
  unfold CO
  rw[e9,hc]
  show some (σ[q.2]?).join=_
  rw[h1]
  rfl
theorem Jr{X X':Cx}{Oe:AM}{He:Hp}{Xi Xi':Value→AM→Prop}{σ:St}{H:Hp}(hK:X'.K=X.K)(a:Asr ⟨X,Oe,He,Xi⟩ ρ O σ H):Asr ⟨X',Oe,He,Xi'⟩ ρ O σ H:=by
 obtain⟨r,f⟩:=a
 refine⟨?_,?_⟩
 ·show Rl X'.K O H σ ρ
  rw[hK];exact r
 ·show Frm X'.K Oe He O H
  rw[hK];exact f
noncomputable def gA(Z:Zx)(csc:Scope)(nc:List Str)(cap:List (Str×Nat))(tg:Expr):TG:=fun v σ H Q=>∃Oe He ρ O t ρ',(∀X',LcCx Z.X csc (Ak nc cap) X'→WG (zc X' Oe He) nc.length ρ O tg t ρ')∧tG (zc Z.X Oe He) nc.length ρ O t ρ' v σ H Q
noncomputable def gk(Z:Zx)(csc:Scope)(nc:List Str)(cap:List (Str×Nat))(ifs:List Expr):TT:=fun σ H Q=>∃Oe He ρ O Φ,(∀X',LcCx Z.X csc (Ak nc cap) X'→fg (zc X' Oe He) ρ O ifs Φ)∧bK (zc Z.X Oe He) ρ O Φ σ H Q
noncomputable def eA(Z:Zx)(csc:Scope)(nc:List Str)(cap:List (Str×Nat))(e:Expr):TE:=fun σ H Q=>∃Oe He ρ O Φ,(∀X',LcCx Z.X csc (Ak nc cap) X'→WE (zc X' Oe He) ρ O e Φ)∧tW (zc Z.X Oe He) ρ O Φ σ H Q
theorem ZR{X X':Cx}{N':List Str}(h:LcCx X csc N' X'):X'.K=X.K:=by
 obtain⟨_,_,_,_,rfl⟩:=h
 rfl
theorem ZS:∀X',LcCx Z.X csc (Ak nc cap) X'→PG X' tg (gA Z csc nc cap tg):=by
 rintro X' is pins s σ H v u Q I r ⟨Oe,He,ρ,O,t,ρ',w,a,rp,k⟩
 refine w X' is pins s σ H v u Q I r ⟨Jr (ZR is) a,?_,fun σ' a' h=>k σ' (Jr (ZR is).symm a') h⟩
 show Rep X'.K O H v t
 rw[ZR is];exact rp
theorem Sa:∀X',LcCx Z.X csc (Ak nc cap) X'→Yx X' ifs (gk Z csc nc cap ifs):=by
 rintro X' is pins s σ H Q I ⟨Oe,He,ρ,O,Φ,w,a,k⟩
 refine w X' is pins s σ H Q I ⟨Jr (ZR is) a,?_⟩
 intro b H' O' p f
 refine k b H' O' p ?_
 have f:Frm X'.K O H O' H':=f
 rw[ZR is] at f;exact f
theorem ZT:∀X',LcCx Z.X csc (Ak nc cap) X'→PE X' elt (eA Z csc nc cap elt):=by
 rintro X' is pins s σ H Q I ⟨Oe,He,ρ,O,Φ,w,a,k⟩
 refine w X' is pins s σ H Q I ⟨Jr (ZR is) a,?_⟩
 intro v H' t O' p f r
 have f:Frm X'.K O H O' H':=f
 have r:Rep X'.K O' H' v t:=r
 rw[ZR is] at f r
 exact k v H' t O' p f r
noncomputable def Vi(Z:Zx)(ρ:List (Option T))(elt tg:Expr)(ifs:List Expr)(csc:Scope)(nc:List Str)(cap:List (Str×Nat))(F:List T→AM→Prop)(ts:List T)(O1:AM):Prop:=
 ∃I:Nat→List T→AM→Prop,I 0 [] O1∧(∀i t acc O' p,ts[i]?=some t→I i acc O'→O' p=none→∃ρ4,∀X' Oe He,LcCx Z.X csc (Ak nc cap) X'→WG (zc X' Oe He) nc.length (IR nc ρ cap) (Ap O' p acc) tg t ρ4∧
   fg (zc X' Oe He) ρ4 (Ap O' p acc) ifs fun b O2=>if b=true then∀X' Oe He,LcCx Z.X csc (Ak nc cap) X'→WE (zc X' Oe He) ρ4 O2 elt fun y O3=>∃O4,O3=Ap O4 p acc∧O4 p=none∧acc.length<sizeLine∧I (i+1) (acc++[y]) O4
    else∃O4,O2=Ap O4 p acc∧O4 p=none∧I (i+1) acc O4)∧∀acc O',I ts.length acc O'→F acc O'
theorem Sb{F:List T→AM→Prop}{σ:St}{H:Hp}{Q:VK}(a:Asr Z ρ O σ H)(h:WI Z ρ O tg iter (Vi Z ρ elt tg ifs csc nc cap F))
  (fin:∀acc O' p H',F acc O'→O' p=none→Frm Z.K O H (Ap O' p acc) H'→(∀b us,O b=some us→b≠p)→Q (.ref p) H'):
  fb (fun σ H R=>Asr Z ρ O σ H∧∀J H' ts O',Vi Z ρ elt tg ifs csc nc cap F ts O'→Frm Z.K O H O' H'→Lk Z.K J O' H' ts→R J H') nc cap (gA Z csc nc cap tg) (gk Z csc nc cap ifs) (eA Z csc nc cap elt) σ H Q:=by
 refine⟨a,?_⟩
 rintro J H1 ts O1 ⟨I,i0,step,done⟩ f1 it p hp
 have np:O1 p=none:=f1.ok.none_of hp
 have nb:∀b us,O1 b=some us→b≠p:=fun b us e z=>by rw[z,np] at e;cases e
 have fn:=Frm.newO (ts:=[]) (xs:=[]) f1.ok hp .nil
 refine⟨fun i m H2=>m=ts.length-i∧i≤ts.length∧∃acc O',I i acc O'∧O' p=none∧Frm Z.K O1 H1 (Ap O' p acc) H2,⟨ts.length,by simp,kN _,[],O1,i0,np,fn⟩,?_⟩
 rintro i m H2 ⟨rfl,hi,acc,O2,i2,n2,f2⟩
 obtain⟨g1,g2,g3⟩:=it _ H2 f2.kp f2.ok
 by_cases hlt:i<ts.length
 ·refine .inr ⟨g1 i hlt,fun H'=>∃acc O',I (i+1) acc O'∧O' p=none∧Frm Z.K O1 H1 (Ap O' p acc) H',fun H' w=> ⟨_,by omega,rfl,by omega,w⟩,fun x H3 y=>?_⟩
  obtain⟨f3,r3⟩:=g2 i x H3 y ts[i] (by simp[hlt])
  obtain⟨ρ4,st⟩:=step i ts[i] acc O2 p (by simp[hlt]) i2 n2
  have a3:Asr (zc Z.X (Ap O2 p acc) H3) (IR nc ρ cap) (Ap O2 p acc) (IQ nc σ cap) H3:=⟨cu ((a.rl.kp f1.kp a.ok).kp (f2.kp.trans f3.kp) f1.ok),.refl f3.ok⟩
  refine⟨Ap O2 p acc,H3,IR nc ρ cap,Ap O2 p acc,ts[i],ρ4,fun X' is=> (st X' _ _ is).1,a3,r3,fun σ4 a4 hag=> ⟨?_,?_⟩⟩
  ·refine⟨σ4.take nc.length,?_,?_⟩
   ·rw[j8,hag.1]
    simp
   ·have e1:σ4.drop nc.length=CO σ cap:=by
     apply lH
     intro m
     rw[lx,hag.2 _ (by omega)]
     show(kX nc.length (none:Option V)++CO σ cap)[nc.length+m]?=_
     rw[jw (by simp)]
     simp
    rw[←e1,kU]
  ·refine⟨Ap O2 p acc,H3,ρ4,Ap O2 p acc,_,fun X' is=> (st X' _ _ is).2,a4,?_⟩
   intro b H5 O5 q5 f5
   cases b with
   |false=>
    rw[if_neg i5] at q5 ⊢
    obtain⟨O4,rfl,n4,i4⟩:=q5
    exact⟨acc,O4,i4,n4,f2.trans (f3.trans f5)⟩
   |true=>
    rw[if_pos rfl] at q5 ⊢
    refine⟨Ap O2 p acc,H3,ρ4,O5,_,fun X' is=>q5 X' _ _ is,a4.step f5,?_⟩
    rintro y H6 t6 O6 ⟨O4,rfl,n4,hlen,i4⟩ f6 r6
    obtain⟨ys,hys,rys⟩:=f6.ok p acc AH
    refine⟨ys,hys,by rw[rys.length];exact hlen,acc++[t6],O4,i4,n4,?_⟩
    have fp:=Frm.put (a:=p) f6.ok AH (rys.append (.one r6))
    rw[BS] at fp
    exact f2.trans (f3.trans (f5.trans (f6.trans fp)))
 ·have:i=ts.length:=by omega
  subst this
  refine .inl ⟨g3 _ (jb _),fin acc O2 p H2 (done acc O2 i2) n2 (f1.trans f2) fun b us e=>?_⟩
  obtain⟨us',e'⟩:=f1.own b us e
  exact nb b us' e'
theorem Xd{σ:St}{H:Hp}{Q:VK}(h:WI Z ρ O tg iter (Vi Z ρ elt tg ifs csc nc cap fun acc O'=>Φ (.lst acc) O'))(q:tW Z ρ O Φ σ H Q):
  fb (fun σ H R=>Asr Z ρ O σ H∧∀J H' ts O',Vi Z ρ elt tg ifs csc nc cap (fun acc O'=>Φ (.lst acc) O') ts O'→Frm Z.K O H O' H'→Lk Z.K J O' H' ts→R J H') nc cap (gA Z csc nc cap tg) (gk Z csc nc cap ifs) (eA Z csc nc cap elt) σ H Q:=by
 refine Sb q.1 h fun acc O' p H' p1 n f nb=>q.2 _ H' _ O' p1 ?_ ?_
 ·have e:=BG (ts:=acc) n
  refine⟨fun b o e1 e2=>?_,fun b us e1=>?_,?_⟩
  ·have:=f.kp.trans (Dm (a:=p)) b o e1 e2
   rw[e] at this;exact this
  ·obtain⟨us',e2⟩:=f.own b us e1
   rw[Ah (nb b us e1)] at e2
   exact⟨us',e2⟩
  ·have:=f.ok.drop (a:=p)
   rw[e] at this;exact this
 ·have:=f.ok.rep (a:=p) AH
  rw[BG n] at this
  exact this
theorem Sd(hc:Z.X.calm=true)(ok:LcOk Z.X csc nc cap)(h:WI Z ρ O tg iter (Vi Z ρ elt tg ifs csc nc cap fun acc O'=>Φ (.lst acc) O'))
  (hs:∀x,lU iter Z.X.env x=pure x:=by intro _;rfl):WE Z ρ O (.ListComp elt [⟨tg,iter,ifs,0⟩] csc pos) Φ:=
 PE.weak (cO hc ok h ZS Sa ZT hs) fun σ H Q q=>Xd h q
theorem Eo{i:Nat}{x:Str}{px spos:Pos}{Ψ:Es}(hsw:qx (.ListComp elt [⟨tg,iter,ifs,0⟩] csc pos) (some (.Name x px)) spos.line Z.X.env=pure true)(hN:Z.X.N.Nodup)(hc:Z.X.calm=true)(ok:LcOk Z.X csc nc cap)
  (h:WI Z ρ O tg iter (Vi Z ρ elt tg ifs csc nc cap fun acc O'=>Ψ.nx (ρ.set i (some (.lst acc))) O')) (hx:Z.X.N[i]?=some x:=by rfl) (hk:Z.X.env.scope.names.lookup x=some .local:=by rfl)
  (hs:∀x,lU iter Z.X.env x=pure x:=by intro _;rfl):WS Z ρ O (.Assign [.Name x px] (.ListComp elt [⟨tg,iter,ifs,0⟩] csc pos) spos) Ψ:=
 PS.weak (LJ hN hx hk hsw hc ok h ZS Sa ZT hs) fun D σ H q=>Xd (Φ:=fun t O'=>Ψ.nx (ρ.set i (some t)) O') h ⟨q.1,fun v H' t O' p f r=>q.2.nx _ O' _ H' p ⟨(q.1.step f).rl.set r,(q.1.step f).fr⟩ f.kp⟩
end
noncomputable def gm:T→String
 | .non=> "NoneType" | .bl _=> "bool" | .int _=> "int" | .str _=> "str" | .tup _=> "tuple" | .lst _=> "list" | .frz _=> "list" | .dct=> "dict" | .raw _=> "object"
noncomputable def DZ:T→Bool
 | .raw _=>true
 |_=>false
noncomputable def cw:T→Bool
 | .int _=>true
 | .bl _=>true
 |_=>false
noncomputable def ZU:T→Bool
 | .bl _=>true
 |_=>false
noncomputable def dA:T→Bool
 | .tup _=>true
 |_=>false
noncomputable def QY(K:b9)(c:String)(g:T→Bool):Prop:=∀t,DZ t=false→jZ K (.type (gm t)) (.type c)=some (g t)
section
variable{K:b9}{O:AM}{H:Hp}{v:V}{t:T}
theorem Rep.ty(r:Rep K O H v t)(hp:DZ t=false):TyOf K H v (.type (gm t)):=by
 cases r with
 |non=>exact .non
 |bl b=>exact .bl b
 |int i=>exact .int i
 |str i=>exact .str i
 |tup h=>exact .tup h
 |lst h=>exact .lst h
 |frz h=>exact .frz h
 |dct h=>exact .dK h
 |raw v=>cases hp
theorem jD(K:b9):jZ K (.type "NoneType") (.type "int")=some false:=by kernel_rfl
theorem jE(K:b9):jZ K (.type "bool") (.type "int")=some true:=by kernel_rfl
theorem jF(K:b9):jZ K (.type "int") (.type "int")=some true:=by rfl
theorem jG(K:b9):jZ K (.type "str") (.type "int")=some false:=by kernel_rfl
theorem jH(K:b9):jZ K (.type "tuple") (.type "int")=some false:=by kernel_rfl
theorem iQ(K:b9):jZ K (.type "list") (.type "int")=some false:=by kernel_rfl
theorem jI(K:b9):jZ K (.type "dict") (.type "int")=some false:=by kernel_rfl
theorem Vj:QY K "int" cw:=fun t h=>by
 cases t with
 |non=>exact jD K
 |bl b=>exact jE K
 |int i=>exact jF K
 |str i=>exact jG K
 |tup i=>exact jH K
 |lst i=>exact iQ K
 |frz i=>exact iQ K
 |dct=>exact jI K
 |raw v=>cases h
theorem jJ(K:b9):jZ K (.type "NoneType") (.type "bool")=some false:=by kernel_rfl
theorem jK(K:b9):jZ K (.type "bool") (.type "bool")=some true:=by rfl
theorem jL(K:b9):jZ K (.type "int") (.type "bool")=some false:=by kernel_rfl
theorem jM(K:b9):jZ K (.type "str") (.type "bool")=some false:=by kernel_rfl
theorem jN(K:b9):jZ K (.type "tuple") (.type "bool")=some false:=by kernel_rfl
theorem iR(K:b9):jZ K (.type "list") (.type "bool")=some false:=by kernel_rfl
theorem jO(K:b9):jZ K (.type "dict") (.type "bool")=some false:=by kernel_rfl
theorem Se:QY K "bool" ZU:=fun t h=>by
 cases t with
 |non=>exact jJ K
 |bl b=>exact jK K
 |int i=>exact jL K
 |str i=>exact jM K
 |tup i=>exact jN K
 |lst i=>exact iR K
 |frz i=>exact iR K
 |dct=>exact jO K
 |raw v=>cases h
theorem jP(K:b9):jZ K (.type "NoneType") (.type "tuple")=some false:=by kernel_rfl
theorem jQ(K:b9):jZ K (.type "bool") (.type "tuple")=some false:=by kernel_rfl
theorem jR(K:b9):jZ K (.type "int") (.type "tuple")=some false:=by kernel_rfl
theorem jS(K:b9):jZ K (.type "str") (.type "tuple")=some false:=by kernel_rfl
theorem jT(K:b9):jZ K (.type "tuple") (.type "tuple")=some true:=by rfl
theorem iS(K:b9):jZ K (.type "list") (.type "tuple")=some false:=by kernel_rfl
theorem jU(K:b9):jZ K (.type "dict") (.type "tuple")=some false:=by kernel_rfl
theorem Js:QY K "tuple" dA:=fun t h=>by
 cases t with
 |non=>exact jP K
 |bl b=>exact jQ K
 |int i=>exact jR K
 |str i=>exact jS K
 |tup i=>exact jT K
 |lst i=>exact iS K
 |frz i=>exact iS K
 |dct=>exact jU K
 |raw v=>cases h
theorem ZV{c:String}{g:T→Bool}(hk:QY K c g)(hp:DZ t=false):CP K (cP K) [t,.raw (.ty c)] O (.bl (g t)):=fun Φ p H vs Q ok r q=>by
 obtain⟨v,w,rfl,r1,r2⟩:=r.two_inv
 cases r2.raw_inv
 exact⟨v,.ty c,.type (gm t),.type c,g t,rfl,rfl,.inl (r1.ty hp),hk t hp,q _ H _ O p (.refl ok) (.bl _)⟩
theorem dB:ku "int" =some (.type "int"):=by decide+kernel
theorem dC:ku "bool" =some (.type "bool"):=by decide+kernel
theorem Jt:ku "tuple" =some (.type "tuple"):=by decide+kernel
theorem Xe:ku "list" =some (.type "list"):=by decide+kernel
theorem dD:ku "set" =some (.type "set"):=by decide+kernel
theorem gq:ku "isinstance" =some (.builtin "isinstance"):=by decide+kernel
theorem dE:ku "max" =some (.builtin "max"):=by decide+kernel
theorem ZW:ku "min" =some (.builtin "min"):=by decide+kernel
theorem Vk:ku "len" =some (.builtin "len"):=by decide+kernel
theorem gu:ku "all" =some (.builtin "all"):=by decide+kernel
theorem gw:ku "any" =some (.builtin "any"):=by decide+kernel
theorem Os:ku "sorted" =some (.builtin "sorted"):=by decide+kernel
theorem Reps.bls:∀{vs:List V} {ns:List Bool},Reps K O H vs (ns.map T.bl)→vs=ns.map V.bl
 |_,[],r=>r.nil_inv
 |_,n::ns,r=>by
  obtain⟨v,vs',rfl,h,r⟩:=Reps.cons_inv r
  rw[h.bl_inv,Reps.bls r]
  rfl
end
section
variable{Z:Zx}{ρ:List (Option T)}{O:AM}{e a b c:Expr}{es:List Expr}{Φ:Bf}{pos p:Pos}{t ta tb:T}{ts us:List T}{i j:Int}{x:Str}{lo hi:Expr}
theorem ZX{cn:String}{g:T→Bool}(mI:Z.X.mg "isinstance" =none)(mC:Z.X.mg x=none)(bC:ku x=some (.type cn))(hk:QY Z.K cn g)(h:ET Z ρ O e t)(hp:DZ t=false){p1:Pos}(hgi:Gl Z.X "isinstance":=by rfl)(hgc:Gl Z.X x:=by rfl)
  (hn:x≠"__name__":=by decide) (hd:(x==("__debug__" :Str))=false:=by decide)
  (he:i7 [e,.Name x p1] Z.X.env=(false,eval e Z.X.env)::i7 [.Name x p1] Z.X.env:=by rfl):ET Z ρ O (.Call (.Name "isinstance" p) [e,.Name x p1] [] pos) (.bl (g t)):=
 BN Ri mI gq (AQ h (AQ (cY mC bC hgc hn hd) AB) he) (ZV hk hp) hgi (by decide) (by decide) he
theorem Hf{cn:String}{g:T→Bool}(mI:Z.X.mg "isinstance" =none)(mC:Z.X.mg x=none)(bC:ku x=some (.type cn))(hk:QY Z.K cn g)(h:ET Z ρ O e t)(hp:DZ t=false){p1:Pos}(hgi:Gl Z.X "isinstance":=by rfl)(hgc:Gl Z.X x:=by rfl)
  (hn:x≠"__name__":=by decide) (hd:(x==("__debug__" :Str))=false:=by decide)
  (he:i7 [e,.Name x p1] Z.X.env=(false,eval e Z.X.env)::i7 [.Name x p1] Z.X.env:=by rfl):EB Z ρ O (.Call (.Name "isinstance" p) [e,.Name x p1] [] pos) (g t):=
 Bg (ZX mI mC bC hk h hp hgi hgc hn hd he)
theorem Ep(m:Z.X.mg "len" =none)(h:ET Z ρ O e (.tup ts))(hg:Gl Z.X "len":=by rfl)(he:i7 [e] Z.X.env=(false,eval e Z.X.env)::i7 [] Z.X.env:=by rfl):ET Z ρ O (.Call (.Name "len" p) [e] [] pos) (.int ts.length):=
 BN Cq m Vk (AQ h AB he) (fun Φ q H vs Q ok r k=>by
  obtain⟨v,rfl,r1⟩:=r.one_inv
  obtain⟨a,xs,rfl,h1,r1⟩:=r1.tup_inv
  refine⟨a,xs,rfl,.inr (.inl (.inl h1)),?_⟩
  rw[r1.length]
  exact k _ H _ O q (.refl ok) (.int _)) hg (by decide) (by decide) he
theorem GO(m:Z.X.mg "len" =none)(h:ET Z ρ O e (.lst ts))(hg:Gl Z.X "len":=by rfl)(he:i7 [e] Z.X.env=(false,eval e Z.X.env)::i7 [] Z.X.env:=by rfl):ET Z ρ O (.Call (.Name "len" p) [e] [] pos) (.int ts.length):=
 BN Cq m Vk (AQ h AB he) (fun Φ q H vs Q ok r k=>by
  obtain⟨v,rfl,r1⟩:=r.one_inv
  obtain⟨a,xs,rfl,h1,_,r1⟩:=r1.lst_inv
  refine⟨a,xs,rfl,.inl (.inl (.inl h1)),?_⟩
  rw[r1.length]
  exact k _ H _ O q (.refl ok) (.int _)) hg (by decide) (by decide) he
theorem Ju{bs:List Bool}(m:Z.X.mg "all" =none)(hc:Z.X.calm=true)(h:ET Z ρ O e (.lst (bs.map T.bl)))(hg:Gl Z.X "all":=by rfl)(he:i7 [e] Z.X.env=(false,eval e Z.X.env)::i7 [] Z.X.env:=by rfl):ET Z ρ O (.Call (.Name "all" p) [e] [] pos) (.bl (bs.all id)):=
 BN (SK hc) m gu (AQ h AB he) (fun Φ q H vs Q ok r k=>by
  obtain⟨v,rfl,r1⟩:=r.one_inv
  obtain⟨a,xs,rfl,h1,_,r1⟩:=r1.lst_inv
  cases r1.bls
  exact⟨a,bs,rfl,.inl (.inl (.inl h1)),k _ H _ O q (.refl ok) (.bl _)⟩) hg (by decide) (by decide) he
theorem Sf{bs:List Bool}(m:Z.X.mg "any" =none)(hc:Z.X.calm=true)(h:ET Z ρ O e (.lst (bs.map T.bl)))(hg:Gl Z.X "any":=by rfl)(he:i7 [e] Z.X.env=(false,eval e Z.X.env)::i7 [] Z.X.env:=by rfl):ET Z ρ O (.Call (.Name "any" p) [e] [] pos) (.bl (bs.any id)):=
 BN (SL hc) m gw (AQ h AB he) (fun Φ q H vs Q ok r k=>by
  obtain⟨v,rfl,r1⟩:=r.one_inv
  obtain⟨a,xs,rfl,h1,_,r1⟩:=r1.lst_inv
  cases r1.bls
  exact⟨a,bs,rfl,.inl (.inl (.inl h1)),k _ H _ O q (.refl ok) (.bl _)⟩) hg (by decide) (by decide) he
theorem GP(m:Z.X.mg "min" =none)(hc:Z.X.calm=true)(h:ET Z ρ O a (.int i))(h2:ET Z ρ O b (.int j))(hg:Gl Z.X "min":=by rfl)(he:i7 [a,b] Z.X.env=(false,eval a Z.X.env)::i7 [b] Z.X.env:=by rfl)(he2:i7 [b] Z.X.env=(false,eval b Z.X.env)::i7 [] Z.X.env:=by rfl)(hpl:(mM pos (i7 [b] Z.X.env)).any (·.1)=false:=by rfl):ET Z ρ O (.Call (.Name "min" p) [a,b] [] pos) (.int (min i j)):=
 BN (Pz hc) m ZW (AQ h (AQ h2 AB he2) he) (fun Φ q H vs Q ok r k=>by
  obtain⟨v,w,rfl,r1,r2⟩:=r.two_inv
  cases r1.int_inv;cases r2.int_inv
  refine⟨i,j,rfl,?_⟩
  have:(if j<i then j else i)=min i j:=by split<;>omega
  rw[this]
  exact k _ H _ O q (.refl ok) (.int _)) hg (by decide) (by decide) he hpl
theorem Dq(m:Z.X.mg "max" =none)(hc:Z.X.calm=true)(h:ET Z ρ O a (.int i))(h2:ET Z ρ O b (.int j))(hg:Gl Z.X "max":=by rfl)(he:i7 [a,b] Z.X.env=(false,eval a Z.X.env)::i7 [b] Z.X.env:=by rfl)(he2:i7 [b] Z.X.env=(false,eval b Z.X.env)::i7 [] Z.X.env:=by rfl)(hpl:(mM pos (i7 [b] Z.X.env)).any (·.1)=false:=by rfl):ET Z ρ O (.Call (.Name "max" p) [a,b] [] pos) (.int (max i j)):=
 BN (Py hc) m dE (AQ h (AQ h2 AB he2) he) (fun Φ q H vs Q ok r k=>by
  obtain⟨v,w,rfl,r1,r2⟩:=r.two_inv
  cases r1.int_inv;cases r2.int_inv
  refine⟨i,j,rfl,?_⟩
  have:(if j>i then j else i)=max i j:=by split<;>omega
  rw[this]
  exact k _ H _ O q (.refl ok) (.int _)) hg (by decide) (by decide) he hpl
theorem Vl{k:Bool}(m:Z.X.mg "int" =none)(h:ET Z ρ O e (.bl k))(hg:Gl Z.X "int":=by rfl)(he:i7 [e] Z.X.env=(false,eval e Z.X.env)::i7 [] Z.X.env:=by rfl):ET Z ρ O (.Call (.Name "int" p) [e] [] pos) (.int (if k then 1 else 0)):=
 Iy QA m dB (AQ h AB he) (fun Φ q H vs Q ok r k=>by
  obtain⟨v,rfl,r1⟩:=r.one_inv
  cases r1.bl_inv
  exact .inr ⟨_,rfl,k _ H _ O q (.refl ok) (.int _)⟩) hg (by decide) (by decide) he
theorem Hg(m:Z.X.mg "tuple" =none)(h:WE Z ρ O e fun t O'=>∃ts,t=.lst ts∧Φ (.tup ts) O')(hg:Gl Z.X "tuple":=by rfl)(he:i7 [e] Z.X.env=(false,eval e Z.X.env)::i7 [] Z.X.env:=by rfl):WE Z ρ O (.Call (.Name "tuple" p) [e] [] pos) Φ:=
 Fb Lb m Jt (Do (Dn h (by
  rintro t O' ⟨ts,rfl,q⟩
  refine BL fun H vs Q ok r k=>?_
  obtain⟨v,rfl,r1⟩:=r.one_inv
  obtain⟨a,xs,rfl,h1,_,r1⟩:=r1.lst_inv
  exact⟨a,xs,rfl,.inl (.inl h1),fun p hp=>k _ _ _ O' q (.new ok hp) (.tup AY (r1.kp (BZ ok hp) ok))⟩)) he) hg (by decide) (by decide) he
theorem Lm(m:Z.X.mg "tuple" =none)(h:ET Z ρ O e (.lst ts))(hg:Gl Z.X "tuple":=by rfl)(he:i7 [e] Z.X.env=(false,eval e Z.X.env)::i7 [] Z.X.env:=by rfl):ET Z ρ O (.Call (.Name "tuple" p) [e] [] pos) (.tup ts):=fun Φ q=>Hg m (h _ ⟨ts,rfl,q⟩) hg he
theorem Sg(m:Z.X.mg "list" =none)(h:ET Z ρ O e (.tup ts))(hg:Gl Z.X "list":=by rfl)(he:i7 [e] Z.X.env=(false,eval e Z.X.env)::i7 [] Z.X.env:=by rfl):ET Z ρ O (.Call (.Name "list" p) [e] [] pos) (.lst ts):=
 Iy HY m Xe (AQ h AB he) (fun Φ q H vs Q ok r k=>by
  obtain⟨v,rfl,r1⟩:=r.one_inv
  obtain⟨a,xs,rfl,h1,r1⟩:=r1.tup_inv
  exact⟨a,xs,rfl,.inr (.inl (.inl h1)),fun p hp=>k _ _ _ O q (.new ok hp) (.lst AY (ok.none_of hp) (r1.kp (BZ ok hp) ok))⟩) hg (by decide) (by decide) he
end
noncomputable def Fd(ts:List T)(lo hi:Option Int):List T:=(ts.drop (HT.BO ts.length 0 lo)).take (HT.BO ts.length ts.length hi-HT.BO ts.length 0 lo)
section
variable{K:b9}{O:AM}{H:Hp}
theorem Reps.cut{vs:List V}{ts:List T}{lo hi:Option Int}(r:Reps K O H vs ts):Reps K O H (FO vs lo hi) (Fd ts lo hi):=by
 unfold FO Fd
 rw[r.length]
 exact(r.drop _).take _
end
section
variable{Z:Zx}{ρ:List (Option T)}{O:AM}{e a b c:Expr}{es:List Expr}{Φ:Bf}{pos p p2:Pos}{t ta tb:T}{ts us:List T}{i j:Int}{x:Str}{lo hi:Expr}
theorem Ot{H1 H:Hp}{Q:VK}{o1 o2:Option Int}{v:V}(k:Acc Z.K O H (fun t O'=>Φ t O') Q)(f:Frm Z.K O H O H1)(r:Rep Z.K O H1 v (.tup ts))(p:Φ (.tup (Fd ts o1 o2)) O):cV Z.K v o1 o2 H1 Q:=by
 obtain⟨a,xs,rfl,h1,r1⟩:=r.tup_inv
 refine⟨a,xs,rfl,.inl (.inl h1),fun q H' hq=>?_⟩
 rcases hq with⟨rfl,rfl,e⟩| ⟨hq,rfl⟩
 ·have rc:=r1.cut (lo:=o1) (hi:=o2)
  rw[e] at rc
  exact k _ _ _ O p f (.tup h1 rc)
 ·exact k _ _ _ O p (f.trans (.new f.ok hq)) (.tup AY ((r1.cut).kp (BZ f.ok hq) f.ok))
theorem ZY(h:ET Z ρ O e (.tup ts))(hl:ET Z ρ O lo (.int i)):ET Z ρ O (.Subscript e (.Slice (some lo) none none p2) pos) (.tup (Fd ts (some i) none)):=fun Φ q=>by
 refine PE.weak (Ec Oj (BU (ρ:=ρ)) (Eb (BU (ρ:=ρ))) JV) fun σ H Q k=>?_
 refine⟨O,_,h (fun t O'=>t=.tup ts∧O'=O) ⟨rfl,rfl⟩,k.1,?_⟩
 rintro v H1 _ _ ⟨rfl,rfl⟩ f1 r1
 refine⟨_,_,hl (fun t O'=>t=.int i∧O'=_) ⟨rfl,rfl⟩,k.1.step f1,?_⟩
 rintro w H2 _ _ ⟨rfl,rfl⟩ f2 r2
 exact⟨i,r2.int_inv,Ot k.2 (f1.trans f2) (r1.kp f2.kp f1.ok) q⟩
theorem ZZ(h:ET Z ρ O e (.tup ts))(hl:ET Z ρ O hi (.int i)):ET Z ρ O (.Subscript e (.Slice none (some hi) none p2) pos) (.tup (Fd ts none (some i))):=fun Φ q=>by
 refine PE.weak (Ec Oj (BU (ρ:=ρ)) JV (Eb (BU (ρ:=ρ)))) fun σ H Q k=>?_
 refine⟨O,_,h (fun t O'=>t=.tup ts∧O'=O) ⟨rfl,rfl⟩,k.1,?_⟩
 rintro v H1 _ _ ⟨rfl,rfl⟩ f1 r1
 refine⟨_,_,hl (fun t O'=>t=.int i∧O'=_) ⟨rfl,rfl⟩,k.1.step f1,?_⟩
 rintro w H2 _ _ ⟨rfl,rfl⟩ f2 r2
 exact⟨i,r2.int_inv,Ot k.2 (f1.trans f2) (r1.kp f2.kp f1.ok) q⟩
theorem Vm(ha:ET Z ρ O a (.tup ts))(hb:ET Z ρ O b (.tup us))(hl:ts.length+us.length≤sizeLine):ET Z ρ O (.BinOp a .Add b pos) (.tup (ts++us)):=Fs Ve (fun Φ p H v w Q ok r1 r2 q=>by
 obtain⟨a,xs,rfl,h1,g1⟩:=r1.tup_inv
 obtain⟨b,ys,rfl,h2,g2⟩:=r2.tup_inv
 clear r1 r2
 refine⟨a,b,xs,ys,rfl,rfl,.inl (.inl h1),.inl (.inl h2),by rw[g1.length,g2.length];exact hl,fun l H' hq=>?_⟩
 rcases hq with⟨rfl,rfl,rfl⟩| ⟨rfl,rfl,rfl⟩| ⟨hq,rfl⟩
 ·have:us=[]:=pD.mp g2.length.symm
  subst this
  rw[mj] at p
  exact q _ _ _ O p (.refl ok) (.tup h1 g1)
 ·have:ts=[]:=pD.mp g1.length.symm
  subst this
  exact q _ _ _ O p (.refl ok) (.tup h2 g2)
 ·exact q _ _ _ O p (.new ok hq) (.tup AY ((g1.append g2).kp (BZ ok hq) ok))) ha hb
theorem Jv(hl:ts.length+us.length≤sizeLine){K:b9}:RP K cH (.lst ts) (.lst us) O (.lst (ts++us)):=fun Φ p H v w Q ok r1 r2 q=>by
 obtain⟨a,xs,rfl,h1,_,r1⟩:=r1.lst_inv
 obtain⟨b,ys,rfl,h2,_,r2⟩:=r2.lst_inv
 exact⟨a,b,xs,ys,rfl,rfl,h1,h2,by rw[r1.length,r2.length];exact hl,fun l hq=>q _ _ _ O p (.new ok hq) (.lst AY (ok.none_of hq) ((r1.append r2).kp (BZ ok hq) ok))⟩
theorem DB(ha:ET Z ρ O a (.lst ts))(hb:ET Z ρ O b (.lst us))(hl:ts.length+us.length≤sizeLine):ET Z ρ O (.BinOp a .Add b pos) (.lst (ts++us)):=Fs Mt (Jv hl) ha hb
theorem Za{K:b9}{ns ms:List Int}:RP K (cA K) (.tup (ns.map T.int)) (.tup (ms.map T.int)) O (.bl (HT.Bo ns ms)):=fun Φ p H v w Q ok r1 r2 q=>by
 obtain⟨a,xs,rfl,h1,r1⟩:=r1.tup_inv
 obtain⟨b,ys,rfl,h2,r2⟩:=r2.tup_inv
 cases r1.ints
 cases r2.ints
 exact⟨a,b,ns,ms,rfl,rfl,.inl (.inl h1),.inl (.inl h2),q _ H _ O p (.refl ok) (.bl _)⟩
theorem Zb{ns ms:List Int}(hu:Z.X.A.units<cLine)(ha:ET Z ρ O a (.tup (ns.map T.int)))(hb:ET Z ρ O b (.tup (ms.map T.int))):ET Z ρ O (.Compare a [.Lt] [b] pos) (.bl (HT.Bo ns ms)):=FW (Yq hu) (Ac _) Za ha hb
noncomputable def Er(ts us:List T):List T:=List.zipWith (fun a b=> .tup [a,b]) ts us
theorem Sh{K:b9}{H:Hp}{l m:Addr}{xs ys:List V}(ok:OwnOk K O H)(h1:H l=some (.tup xs))(h2:H m=some (.tup ys))(r1:Reps K O H xs ts)(r2:Reps K O H ys us):Lk K (gf K l m) O H (Er ts us):=fun O' H' k ok'=>by
 have g1:DN K H' l xs:=.inl (.inl (k.oth ok h1 fun _ z=>by cases z))
 have g2:DN K H' m ys:=.inl (.inl (k.oth ok h2 fun _ z=>by cases z))
 have q1:=r1.kp k ok
 have q2:=r2.kp k ok
 have hl:(Er ts us).length=min ts.length us.length:=by simp[Er]
 refine⟨fun i hi=>?_,fun i x H'' y t e=>?_,fun i hi=> ⟨xs,ys,g1,g2,?_⟩⟩
 ·rw[hl] at hi
  obtain⟨v,e1,_⟩:=q1.get (i:=i) (t:=ts[i]'(by omega)) (by simp)
  obtain⟨w,e2,_⟩:=q2.get (i:=i) (t:=us[i]'(by omega)) (by simp)
  exact⟨xs,ys,v,w,g1,g2,e1,e2⟩
 ·obtain⟨p,v,w,hp,rfl,rfl,a1,a2⟩:=y
  unfold Er at e
  rw[pT] at e
  cases et:ts[i]? with
  |none=>rw[et] at e;cases e
  |some t1=>
   cases eu:us[i]? with
   |none=>rw[et,eu] at e;cases e
   |some t2=>
    rw[et,eu] at e
    have e:T.tup [t1,t2]=t:=ki.inj e
    subst e
    obtain⟨v',e1,rv⟩:=q1.get et
    obtain⟨w',e2,rw'⟩:=q2.get eu
    have z1:=a1 xs g1
    have z2:=a2 ys g2
    rw[e1] at z1;cases z1
    rw[e2] at z2;cases z2
    exact⟨.new ok' hp,.tup AY ((Reps.cons rv (.one rw')).kp (BZ ok' hp) ok')⟩
 ·rw[hl] at hi
  rw[r1.length,r2.length]
  omega
theorem Zc{tes:List Expr}{tk:Nat}{tpos:Pos}(hm:Z.X.mg "zip" =none)(h1:ET Z ρ O a (.tup ts))(h2:ET Z ρ O b (.tup us))(hg:Gl Z.X "zip":=by rfl)(hs:i7 [a,b] Z.X.env=[(false,eval a Z.X.env),(false,eval b Z.X.env)]:=by rfl)(hs2:i7 [b] Z.X.env=[(false,eval b Z.X.env)]:=by rfl):EI Z ρ O (.Tuple tes tk tpos) (.Call (.Name "zip" p) [a,b] [] pos) (Er ts us):=fun Φ q=>
 PI.weak (ZJ hg hm (AQ h1 (AQ h2 AB hs2) (by rw[hs,hs2]) (fun vs O'=>vs=[.tup ts,.tup us]∧O'=O) ⟨rfl,rfl⟩) hs hs2) fun σ H R k=> ⟨k.1,by
  rintro vs H' _ _ ⟨rfl,rfl⟩ f r
  obtain⟨v,w,rfl,r1,r2⟩:=r.two_inv
  obtain⟨l,xs,rfl,g1,r1⟩:=r1.tup_inv
  obtain⟨m,ys,rfl,g2,r2⟩:=r2.tup_inv
  exact⟨l,m,rfl,⟨xs,.inl (.inl g1)⟩,⟨ys,.inl (.inl g2)⟩,k.2 _ H' _ _ q f (Sh f.ok g1 g2 r1 r2)⟩⟩
end
noncomputable def AF(p:Int×Int):T:=.tup [.int p.1,.int p.2]
noncomputable def CQ(p q:Int×Int):Prop:=p.1<q.1∨(p.1=q.1∧p.2<q.2)
section
variable{K:b9}{O:AM}{H:Hp}
theorem Hi:∀{ps:List (Int×Int)} {xs:List V},Reps K O H xs (ps.map AF)→∃qs:List (List Int×Addr),xs=qs.map (fun p=>V.ref p.2)∧qs.map (·.1)=ps.map (fun p=> [p.1,p.2])∧∀k x,(k,x)∈qs→H x=some (.tup (k.map V.int))
 | [],xs,r=> ⟨[],r.nil_inv,rfl,fun _ _ h=>by cases h⟩
 |p::ps,xs,r=>by
  obtain⟨v,vs',rfl,h,r'⟩:=Reps.cons_inv r
  obtain⟨a,ys,rfl,ha,r2⟩:=h.tup_inv
  cases Reps.ints (ns:=[p.1,p.2]) r2
  obtain⟨qs,rfl,e,hk⟩:=Hi r'
  refine⟨([p.1,p.2],a)::qs,rfl,by rw[jr,jr,e],fun k x h=>?_⟩
  rcases i6.mp h with h|h
  ·cases h;exact ha
  ·exact hk k x h
theorem Hj:∀{qs:List (List Int×Addr)} {ps:List (Int×Int)},qs.map (·.1)=ps.map (fun p=> [p.1,p.2])→(∀k x,(k,x)∈qs→H x=some (.tup (k.map V.int)))→Reps K O H (qs.map fun p=>V.ref p.2) (ps.map AF)
 | [],[],_,_=> .nil
 | [],p::ps,e,_=>by cases e
 |q::qs,[],e,_=>by cases e
 | (k,x)::qs,p::ps,e,h=>by
  rw[jr,jr] at e
  injection e with e1 e2
  have e1:k=[p.1,p.2]:=e1
  have hx:=h k x (j9 ..)
  rw[e1] at hx
  exact .cons (.tup hx (.cons (.int _) (.cons (.int _) .nil))) (Hj e2 fun k x hk=>h k x (jn _ hk))
end
theorem Ou:∀{ys:List (List Int×Addr)},(∀k x,(k,x)∈ys→∃i j:Int,k=[i,j])→∃ps:List (Int×Int),ys.map (·.1)=ps.map (fun p=> [p.1,p.2])
 | [],_=> ⟨[],rfl⟩
 | (k,x)::ys,h=>by
  obtain⟨i,j,e⟩:=h k x (j9 ..)
  obtain⟨ps,e2⟩:=Ou fun k x hk=>h k x (jn _ hk)
  exact⟨(i,j)::ps,by rw[jr,jr,e,e2]⟩
section
variable{Z:Zx}{ρ:List (Option T)}{O:AM}{e:Expr}{Φ:Bf}{pos p p1 pos1:Pos}
theorem Et{ps:List (Int×Int)}(m:Z.X.mg "sorted" =none)(m2:Z.X.mg "set" =none)(hc:Z.X.calm=true)(hu:Z.X.A.units+8<cLine)(h:ET Z ρ O e (.lst (ps.map AF)))(hl:ps.length≤300)(hb:∀q∈ps,0≤q.2∧q.2<65536)
  (k:∀qs:List (Int×Int),qs.Pairwise CQ→(∀q,q∈qs↔q∈ps)→qs.length≤ps.length→Φ (.lst (qs.map AF)) O) (hg:Gl Z.X "sorted":=by rfl) (hg2:Gl Z.X "set":=by rfl) (he:i7 [e] Z.X.env=(false,eval e Z.X.env)::i7 [] Z.X.env:=by rfl)
  (he2:i7 [Expr.Call (.Name "set" p1) [e] [] pos1] Z.X.env=(false,eval (.Call (.Name "set" p1) [e] [] pos1) Z.X.env)::i7 [] Z.X.env:=by rfl):WE Z ρ O (.Call (.Name "sorted" p) [.Call (.Name "set" p1) [e] [] pos1] [] pos) Φ:=by
 refine PE.weak (EZ (Jk hc) hg m Os (GG (FN (QS hc hu) hg2 m2 dD (Ld (ρ:=ρ)) (by decide) (by decide) he) JU he2) (by decide) (by decide) he2) fun σ H Q q=>?_
 refine⟨O,_,AQ h AB he (fun ts O'=>ts=[.lst (ps.map AF)]∧O'=O) ⟨rfl,rfl⟩,q.1,?_⟩
 rintro vs H1 _ _ ⟨rfl,rfl⟩ f r
 obtain⟨v,rfl,r1⟩:=r.one_inv
 obtain⟨a,xs,rfl,h1,_,r1⟩:=r1.lst_inv
 obtain⟨qs,rfl,eq,hk⟩:=Hi r1
 have lq:qs.length=ps.length:=by
  have:=congrArg List.length eq
  simpa using this
 refine⟨a,qs,rfl,.inl (.inl h1),fun k x hx=> .inl (.inl (hk k x hx)),by omega,fun l xs hl1 so nd=>?_⟩
 obtain⟨s1,s2,s3⟩:=so
 have f1:=Frm.new (o:=SetO Z.X.prog Z.X.w l xs) f.ok hl1
 have hk2:∀k x,(k,x)∈xs→upd H1 l (SetO Z.X.prog Z.X.w l xs) x=some (.tup (k.map V.int)):=fun k x hx=>by
  have:=hk k x (s1 _ hx)
  rw[AO (AL this hl1)];exact this
 have mem1:∀k x,(k,x)∈qs→∃q∈ps,k=[q.1,q.2]:=fun k x hx=>by
  have:k∈qs.map (·.1):=jl.mpr ⟨(k,x),hx,rfl⟩
  rw[eq] at this
  obtain⟨q,h1,h2⟩:=jl.mp this
  exact⟨q,h1,h2.symm⟩
 have two:∀k x,(k,x)∈xs→∃i j,k=[i,j]∧0≤j∧j<65536:=fun k x hx=>by
  obtain⟨q,h1,h2⟩:=mem1 k x (s1 _ hx)
  exact⟨q.1,q.2,h2,hb q h1⟩
 refine⟨l,xs,rfl,AY,fun k x hx=> .inl (.inl (hk2 k x hx)),by omega,two,fun d ys hd pm pw=>?_⟩
 obtain⟨rs,er⟩:=Ou (ys:=ys) fun k x hx=>by
  obtain⟨i,j,e,_⟩:=two k x (pm.mem_iff.mp hx)
  exact⟨i,j,e⟩
 have f2:=Frm.new (o:=.lst (ys.map fun p=>V.ref p.2)) f1.ok hd
 have hk3:∀k x,(k,x)∈ys→upd (upd H1 l (SetO Z.X.prog Z.X.w l xs)) d (.lst (ys.map fun p=>V.ref p.2)) x=some (.tup (k.map V.int)):=fun k x hx=>by
  have:=hk2 k x (pm.mem_iff.mp hx)
  rw[AO (AL this hd)];exact this
 have memr:∀z,z∈rs↔∃x,([z.1,z.2],x)∈ys:=fun z=>by
  constructor
  ·intro hz
   have:[z.1,z.2]∈ys.map (·.1):=by rw[er];exact jl.mpr ⟨z,hz,rfl⟩
   obtain⟨⟨k,x⟩,h1,h2⟩:=jl.mp this
   have h2:k=_:=h2
   subst h2
   exact⟨x,h1⟩
  ·rintro⟨x,hx⟩
   have:[z.1,z.2]∈ys.map (·.1):=jl.mpr ⟨_,hx,rfl⟩
   rw[er] at this
   obtain⟨w,h1,h2⟩:=jl.mp this
   injection h2 with e1 e2
   injection e2 with e2 _
   have:w=z:=kW e1 e2
   rw[←this];exact h1
 have ndy:(ys.map (·.1)).Nodup:=(pm.map _).nodup_iff.mpr nd
 refine q.2 _ _ _ _ (k rs ?_ (fun z=>?_) ?_) (f.trans (f1.trans f2)) (.lst AY (f1.ok.none_of hd) (Hj er hk3))
 ·--strictly rising
  have pw':rs.Pairwise fun x y=>65536*x.1+x.2≤65536*y.1+y.2:=by
   have h3:(ys.map (·.1)).Pairwise fun x y=>65536*x.getD 0 0+x.getD 1 0≤65536*y.getD 0 0+y.getD 1 0:=mE.mpr pw
   rw[er] at h3
   exact(mE (f:=fun(p:Int×Int)=> [p.1,p.2]) (R:=fun x y=>65536*x.getD 0 0+x.getD 1 0≤65536*y.getD 0 0+y.getD 1 0)).mp h3
  have nd':rs.Pairwise fun x y=>x≠y:=by
   have h3:(ys.map (·.1)).Pairwise (·≠·):=ndy
   rw[er] at h3
   exact(mE.mp h3).imp fun hxy z=>hxy (by rw[z])
  refine(pw'.and nd').imp_of_mem fun{x y} hx hy ⟨h1,h2⟩=>?_
  have bnd:∀z,z∈rs→0≤z.2∧z.2<65536:=fun z hz=>by
   obtain⟨v,hv⟩:=(memr z).mp hz
   obtain⟨i,j,e,hj⟩:=two _ v (pm.mem_iff.mp hv)
   injection e with e1 e2
   injection e2 with e2 _
   omega
  have b1:=bnd x hx
  have b2:=bnd y hy
  unfold CQ
  have:¬(x.1=y.1∧x.2=y.2):=fun z=>h2 (kW z.1 z.2)
  omega
 ·rw[memr]
  constructor
  ·rintro⟨x,hx⟩
   obtain⟨w,h1,h2⟩:=mem1 _ x (s1 _ (pm.mem_iff.mp hx))
   injection h2 with e1 e2
   injection e2 with e2 _
   have:z=w:=kW e1 e2
   rw[this];exact h1
  ·intro hz
   have:[z.1,z.2]∈qs.map (·.1):=by rw[eq];exact jl.mpr ⟨z,hz,rfl⟩
   obtain⟨⟨k,x⟩,h1,h2⟩:=jl.mp this
   have h2:k=_:=h2
   subst h2
   obtain⟨x',hx'⟩:=s2 _ _ h1
   exact⟨x',pm.mem_iff.mpr hx'⟩
 ·have e1:rs.length=ys.length:=by
   have:=congrArg List.length er
   simpa using this.symm
  have e2:=pm.length_eq
  omega
end
theorem XFly.mono{X:Cx}{W W':St→XK}(x:XFly X W)(h:∀σ cls H',W' σ cls none H'→W σ cls none H'):XFly X W':=⟨fun pins σ H s e s' I c=>x.fly pins σ H s e s' I (by
 obtain⟨y,cls,H',e1,f,q⟩:=c
 exact⟨y,cls,H',e1,f,h σ cls H' q⟩)⟩
theorem By{X:Cx}{Oe:AM}{He:Hp}:XFly X (zc X Oe He).W:=⟨fun pins σ H s e s' I c=>by
 obtain⟨y,cls,H',e1,f,_,O',z,_⟩:=c
 exact z.elim⟩
noncomputable abbrev zB(P:Program)(w:World)(K:b9)(mg:Str→Option Value)(base:Heap)(N:List Str)(qual:Str)(sc:Scope)(f:Addr)(cdv:Value)(A:js)(outer:List Env)(s:c9)(H:Hp)(E:XK)(O:AM)(Ξ:Value→AM→Prop):Zx:=
 ⟨CU (CXe P w) P w K mg base N qual sc f cdv A outer s H E,O,H,Ξ⟩
noncomputable def Fe(N:List Str)(ts:List T):List (Option T):=ts.map some++kX (N.length-ts.length) none
theorem Ln{K:b9}{O:AM}{H:Hp}{N:List Str}{vs:List V}{ts:List T}(r:Reps K O H vs ts):Rl K O H (start N vs) (Fe N ts):=by
 refine⟨by simp[start,Fe,r.length],fun i t e=>?_⟩
 unfold Fe at e
 by_cases hi:i<ts.length
 ·rw[jz (by simpa using hi),e9] at e
  cases ht:ts[i]? with
  |none=>rw[ht] at e;cases e
  |some u=>
   rw[ht] at e
   cases e
   obtain⟨v,h1,h2⟩:=r.get ht
   refine⟨v,?_,h2⟩
   unfold start
   rw[jz (by simpa[r.length] using hi),e9,h1]
   rfl
 ·rw[jw (by simpa using hi),mx] at e
  split at e<;>cases e
theorem AS{P:Program}{w:World}{K:b9}{mg:Str→Option Value}{base:Heap}{x qual:Str}{st:Stmt}{f:Addr}{fd:jv}{N ps:List Str}{k:Nat}{sp:Bp}(F:Fun K x qual st f fd)(S:FnScope N ps (AA st))(len:∀ts O Φ Ξ,sp ts O Φ Ξ→ts.length=ps.length)
  (h:∀(cdv:Value) (A:js) (outer:List Env) (s:c9) (H:Hp) (E:XK) (O:AM) (Ξ:Value→AM→Prop),Room k (A.deeper (m9 qual (AA st) s.heap.objs.size f cdv))→XFly (zB P w K mg base N qual (AA st) f cdv A outer s H E O Ξ).X (zB P w K mg base N qual (AA st) f cdv A outer s H E O Ξ).W→
   ∀ts Φ,sp ts O Φ Ξ→Fu (zB P w K mg base N qual (AA st) f cdv A outer s H E O Ξ) (Fe N ts) O (BQ st) {nx:=fun _ O'=>Φ .non O',rt:=Φ}):FnOk P w K mg base (CXe P w) (k+1) f fd ps (CC K sp):=by
 refine F.okX S (fun vs H Q E h=>?_) (fun cdv A outer s H vs Q E hr h1=>?_)
 ·obtain⟨ts,O,Φ,Ξ,r,_,q,_⟩:=h
  rw[r.length];exact len ts O Φ Ξ q
 ·obtain⟨ts,O,Φ,Ξ,r,ok,q,acc,ex⟩:=h1
  refine⟨_,h cdv A outer s H E O Ξ hr (XFly.mono Ao.f ?_) ts Φ q,⟨Ln r,.refl ok⟩,?_⟩
  ·rintro σ cls H' ⟨_,O',x,f⟩
   exact ex cls O' H' x f
  ·exact⟨fun ρ' O' σ' H' p a _=>acc _ _ _ O' p a.fr .non,fun v H' t O' p f r=>acc v H' t O' p f r,fun _ _ _ _ z=>z.elim,fun _ _ _ _ z=>z.elim⟩
theorem FnT.mono{P:Program}{w:World}{K:b9}{mg:Str→Option Value}{base:Heap}{x:Str}{j k:Nat}{ps:List Str}{s:Bp}(G:FnT P w K mg base x j ps s)(h:j≤k):FnT P w K mg base x k ps s:=by
 obtain⟨f,fd,F,r⟩:=G.ex
 exact⟨f,fd,F.mono h,r⟩
noncomputable def Xf(S:Scope)(N:List Str)(csc:Scope)(cap:List (Str×Nat)):Bool:=
 decide (csc.kind=.function)&&csc.names.all (fun y=>decide (y.2=.cell→csc.names.lookup y.1=some .cell))&&csc.names.all (fun y=>decide (y.2=.local→csc.names.lookup y.1=some .local))&&csc.names.all (fun y=>decide (y.2=.free→S.names.lookup y.1=some .cell∨S.names.lookup y.1=some .free))&&cap.all (fun p=>decide (N[p.2]?=some p.1∧csc.names.lookup p.1=some .free))
theorem BV{X:Cx}{csc:Scope}{nc:List Str}{cap:List (Str×Nat)}(S:Scope)(N:List Str)(chk:Xf S N csc cap=true)(h1:X.env.scope=S:=by rfl)(h2:X.N=N:=by rfl):LcOk X csc nc cap:=by
 unfold Xf at chk
 simp only[km,lP,decide_eq_true_eq] at chk
 obtain⟨⟨⟨⟨c1,c2⟩,c3⟩,c4⟩,c5⟩:=chk
 exact⟨c1,c2,c3,by rw[h1];exact c4,by rw[h2];exact c5⟩
section
variable{Z:Zx}{ρ:List (Option T)}{O:AM}{elt tg iter:Expr}{ifs:List Expr}{csc:Scope}{nc:List Str}{cap:List (Str×Nat)}{Φ:Bf}{pos:Pos}{α:Type}
theorem Lo{F:List T→AM→Prop}(xs:List α)(f g:α→T)(hl:xs.length≤sizeLine)(h:∀x,x∈xs→∃ρ4,∀X' Oe He,LcCx Z.X csc (Ak nc cap) X'→∀O',(WG (zc X' Oe He) nc.length (IR nc ρ cap) O' tg (f x) ρ4∧ET (zc X' Oe He) ρ4 O' elt (g x)))(fin:F (xs.map g) O):Vi Z ρ elt tg [] csc nc cap F (xs.map f) O:=by
 refine⟨fun i acc O'=>O'=O∧acc=(xs.take i).map g,⟨rfl,by simp⟩,?_,?_⟩
 ·rintro i t acc O' p e ⟨rfl,rfl⟩ np
  rw[e9] at e
  cases ex:xs[i]? with
  |none=>rw[ex] at e;cases e
  |some x=>
   rw[ex] at e
   cases e
   obtain⟨ρ4,w⟩:=h x (i9 ex)
   have hi:=(jc.mp ex).1
   refine⟨ρ4,fun X' Oe He is=> ⟨(w X' Oe He is _).1,GN (JX fun X' Oe He is=> (w X' Oe He is _).2 _ ⟨_,rfl,np,?_,rfl,?_⟩)⟩⟩
   ·simp;omega
   ·rw[kO,ex];simp
 ·rintro acc O' ⟨rfl,rfl⟩
  rw[e7,kI]
  exact fin
theorem Da{F:List T→AM→Prop}{c:Expr}(xs:List α)(f g:α→T)(q:α→Bool)(hl:xs.length≤sizeLine)(h:∀x,x∈xs→∃ρ4,∀X' Oe He,LcCx Z.X csc (Ak nc cap) X'→∀O',(WG (zc X' Oe He) nc.length (IR nc ρ cap) O' tg (f x) ρ4∧EB (zc X' Oe He) ρ4 O' c (q x)∧(q x=true→ET (zc X' Oe He) ρ4 O' elt (g x))))(fin:F ((xs.filter q).map g) O):Vi Z ρ elt tg [c] csc nc cap F (xs.map f) O:=by
 refine⟨fun i acc O'=>O'=O∧acc=((xs.take i).filter q).map g,⟨rfl,by simp⟩,?_,?_⟩
 ·rintro i t acc O' p e ⟨rfl,rfl⟩ np
  rw[e9] at e
  cases ex:xs[i]? with
  |none=>rw[ex] at e;cases e
  |some x=>
   rw[ex] at e
   cases e
   obtain⟨ρ4,w⟩:=h x (i9 ex)
   have hi:=(jc.mp ex).1
   refine⟨ρ4,fun X' Oe He is=> ⟨(w X' Oe He is _).1,Oq ((w X' Oe He is _).2.1 _ ?_)⟩⟩
   cases hq:q x with
   |true=>
    refine JX fun X' Oe He is=> (w X' Oe He is _).2.2 hq _ ⟨_,rfl,np,?_,rfl,?_⟩
    ·have:=lz q (xs.take i)
     simp at this ⊢;omega
    ·rw[kO,ex];simp[hq]
   |false=>
    refine Rb ⟨_,rfl,np,rfl,?_⟩
    rw[kO,ex];simp[hq]
 ·rintro acc O' ⟨rfl,rfl⟩
  rw[e7,kI]
  exact fin
theorem BM(nc:List Str)(cap:List (Str×Nat))(xs:List α)(f g:α→T)(hc:Z.X.calm=true)(ok:LcOk Z.X csc nc cap)(hi:EI Z ρ O tg iter (xs.map f))(hl:xs.length≤sizeLine)(h:∀x,x∈xs→∃ρ4,∀X' Oe He,LcCx Z.X csc (Ak nc cap) X'→∀O',(WG (zc X' Oe He) nc.length (IR nc ρ cap) O' tg (f x) ρ4∧ET (zc X' Oe He) ρ4 O' elt (g x)))
  (hs:∀x,lU iter Z.X.env x=pure x:=by intro _;rfl):ET Z ρ O (.ListComp elt [⟨tg,iter,[],0⟩] csc pos) (.lst (xs.map g)):=fun Φ p=>Sd hc ok (hi _ (Lo xs f g hl h p)) hs
theorem Dc(nc:List Str)(cap:List (Str×Nat)){c:Expr}(xs:List α)(f g:α→T)(q:α→Bool)(hc:Z.X.calm=true)(ok:LcOk Z.X csc nc cap)(hi:EI Z ρ O tg iter (xs.map f))(hl:xs.length≤sizeLine)(h:∀x,x∈xs→∃ρ4,∀X' Oe He,LcCx Z.X csc (Ak nc cap) X'→∀O',(WG (zc X' Oe He) nc.length (IR nc ρ cap) O' tg (f x) ρ4∧EB (zc X' Oe He) ρ4 O' c (q x)∧(q x=true→ET (zc X' Oe He) ρ4 O' elt (g x))))
  (hs:∀x,lU iter Z.X.env x=pure x:=by intro _;rfl):ET Z ρ O (.ListComp elt [⟨tg,iter,[c],0⟩] csc pos) (.lst ((xs.filter q).map g)):=fun Φ p=>Sd hc ok (hi _ (Da xs f g q hl h p)) hs
end
section
variable{Z:Zx}{ρ:List (Option T)}{O:AM}{e:Expr}{es:List Expr}{Φ:Bf}{Ψ:Es}{pos p:Pos}{ts:List T}{x:Str}
theorem EA.wa{Φ:NQ}(h:EA Z ρ O es ts)(p:Φ ts O):WA Z ρ O es Φ:=h Φ p
theorem EI.wi{tg iter:Expr}{Φ:NQ}(h:EI Z ρ O tg iter ts)(p:Φ ts O):WI Z ρ O tg iter Φ:=h Φ p
theorem Si{k:Nat}{f:Addr}{fd:jv}{ps:List Str}{sp:Sp}(F:FnOk Z.X.prog Z.X.w Z.X.K Z.X.mg Z.X.base (CXe Z.X.prog Z.X.w) k f fd ps sp)(hm:Z.X.mg x=some (.ref f))(hk:nh Z.X.K (.ref f)=true)(hb:Binds Z.X.K fd ps [])(hr:Room k Z.X.A)(xf:XFly Z.X Z.W)(h:EA Z ρ O (e::es) ts)
  (w:∀σ H vs Q,Asr Z ρ O σ H→Reps Z.K O H vs ts→Acc Z.K O H Φ Q→sp vs H Q (Z.W σ)) (hg:Gl Z.X x:=by rfl)
  (hdb:(x==("__debug__" :Str))=false:=by decide) (he:i7 (e::es) Z.X.env=(false,eval e Z.X.env)::i7 es Z.X.env:=by rfl) (hpl:(mM pos (i7 es Z.X.env)).any (·.1)=false:=by rfl):WE Z ρ O (.Call (.Name x p) (e::es) [] pos) Φ:=by
 refine PE.weak (LM xf F hr hg hm hk hb (Ld (ρ:=ρ)) hdb he hpl) fun σ H Q q=>?_
 refine⟨O,_,h (fun us O'=>us=ts∧O'=O) ⟨rfl,rfl⟩,q.1,?_⟩
 rintro vs H1 _ _ ⟨rfl,rfl⟩ f r
 exact w σ H1 vs Q (q.1.step f) r (q.2.step f)
end
noncomputable def Av:Expr→Bool
 | .Starred .. =>false
 |_=>true
theorem Ax{e:Expr}{es:List Expr}{env:Env}(h:Av e=true):i7 (e::es) env=(false,eval e env)::i7 es env:=by
 cases e<;>first|rfl|cases h
section
variable{Z:Zx}{ρ:List (Option T)}{O:AM}{e:Expr}{es:List Expr}{t:T}{ts:List T}
theorem AD(h:ET Z ρ O e t)(hr:EA Z ρ O es ts)(hn:Av e=true:=by rfl):EA Z ρ O (e::es) (t::ts):=AQ h hr (Ax hn)
theorem Hk{Φ:NQ}(h:WE Z ρ O e fun t O1=>WA Z ρ O1 es fun ts O2=>Φ (t::ts) O2)(hn:Av e=true:=by rfl):WA Z ρ O (e::es) Φ:=Do h (Ax hn)
theorem An{a b:Expr}{i j:Int}{k:Nat}{pos:Pos}(ha:ET Z ρ O a (.int i))(hb:ET Z ρ O b (.int j))(h1:Av a=true:=by rfl)(h2:Av b=true:=by rfl):ET Z ρ O (.Tuple [a,b] k pos) (AF (i,j)):=Ba (AD ha (AD hb AB h2) h1) (by show 2≤sizeLine;decide)
end
theorem Sj{O:AM}{p:Addr}{xs:List T}(h:O p=some xs):Ap O p xs=O:=by
 funext b
 by_cases hb:b=p
 ·rw[hb,AH,h]
 ·rw[Ah hb]
theorem Zd{O:AM}{p l:Addr}{xs:List T}(h:O p=some xs)(hl:O l=none):p≠l:=fun z=>by rw[z,hl] at h;cases h
section
variable{Z:Zx}{ρ:List (Option T)}{O:AM}{e:Expr}{es:List Expr}{t:T}{ts:List T}{Φ:Bf}{Ψ:Es}{pos p2:Pos}{x:Str}
structure HS(Z:Zx)(ρ:List (Option T))(O:AM)(ss:List Stmt)(Ψ:Es):Prop where
 out:Fu Z ρ O ss Ψ
theorem Dr{s:Stmt}{ss:List Stmt}(h:WS Z ρ O s {Ψ with nx:=fun ρ' O'=>HS Z ρ' O' ss Ψ}):HS Z ρ O (s::ss) Ψ:=
 ⟨AE (GM h (fun _ _ z=>z.out) (fun _ _ z=>z) (fun _ _ z=>z) (fun _ _ z=>z))⟩
theorem NY{s:Stmt}(h:WS Z ρ O s Ψ):HS Z ρ O [s] Ψ:=⟨AG h⟩
end
section
variable{X:Cx}{a b c d:Expr}{ta tb tc td:TE}{pos:Pos}
end
section
variable{Z:Zx}{ρ:List (Option T)}{O:AM}{a b c d:Expr}{pos:Pos}{i j k l:Int}
end
end L2.TL
namespace L2
open PySem PySem.Spec PySem.Calls PyProof.Rows
section
variable{prog:Program}{w:World}{A:js}{E:Value→c9→Prop}{s:c9}
theorem NZ{l:Addr}{o:Obj}{vs:List Value}{n:Nat}{ns:List Int}{Q:Value→c9→Prop}(ho:s.heap.get? l=some o)(hc:o.cls=.type "tuple")(hd:o.data=.seq vs.toArray n)(hI:mQ vs ns)(h64:vs.length<64)
  (h:∀(h':Heap) (a:Addr) (out:List Value) (ms:List Int) (c:Nat),s.heap.get? a=none→h'.get? a=some (lj "list" out.toArray c)→(∀b o,s.heap.get? b=some o→h'.get? b=some o)→mQ out ms→ms.Perm ns→ms.Pairwise (·≤·)→Q (.ref a) {s with heap:=h'}):
  wpAny (model prog w) A (call (.builtin "sorted") [.ref l]) Q E s:=by
 refine Calls.call_function_entry kind_sorted plain_sorted entry_sorted (args_sorted1 _) ?_
 unfold Builtin.«sorted»
 refine b6 (m:=checkCount "sorted" 1 1 _) (e6 ?_)
 refine b6 (wpAny_collect_seq l (.inr rfl) ho hc hd (fun h1 hk1=>?_) (by rw[ji,lI];omega))
 show wpAny _ _ (newList vs>>=_) _ _ _
 refine b6 (qS ?_ (by rw[lI];omega))
 have hoL:(h1.push (lj "list" vs.toArray 0)).get? h1.objs.size=some (lj "list" vs.toArray 0):=jq _ rfl
 show wpAny _ _ _ _ _ {s with heap:=h1.push (lj "list" vs.toArray 0)}
 refine b6 (kh (lD slot_list_sort ⟨_,hoL,rfl⟩ entry_list_sort (list_sort_tree hoL hI h64 fun out ms a1 a2 a3=> ⟨_,rfl,?_⟩) (args_list_sort _)))
 refine e6 ⟨_,rfl,?_⟩
 obtain⟨c,hcat⟩:=sortedHeap_at (out:=out) hoL
 refine h _ h1.objs.size out.toList ms c ?_ hcat (fun b o e=>?_) a1 a2 a3
 ·cases e:s.heap.get? h1.objs.size with
  |none=>rfl
  |some o'=>exact absurd (je (hk1 _ _ e)) (k8 _)
 ·have hlt:=je (hk1 b o e)
  rw[sortedHeap_old (jY hlt) (by rw[size_push'];exact md hlt)]
  exact e8 _ (hk1 b o e)
end
section
variable{X:Cx}
noncomputable def Ze(K:b9):List V→Hp→VK→Prop:=fun xs H Q=>∃(a:Addr) (ns:List Int),xs=[.ref a]∧DN K H a (ns.map V.int)∧ns.length<64∧∀(p:Addr) (ms:List Int),H p=none→ms.Perm ns→ms.Pairwise (·≤·)→Q (.ref p) (upd H p (.lst (ms.map V.int)))
theorem Jw:BJ X (.builtin "sorted") (Ze X.K):=by
 intro pins s σ H xs us Q I r h
 obtain⟨a,ns,rfl,hS,hl,q⟩:=h
 obtain⟨u,rfl,ru⟩:=Vals.one r
 cases ru
 obtain⟨its,rv,⟨o,e1,e2,n,e3⟩,_⟩:=I.tuple hS
 have hi:=Bj rv
 have hlen:its.length<64:=by have:=rv.length;simp at this;omega
 refine NZ e1 e2 e3 hi hlen fun h' b out ms c hb hg hk hI pm pw=>?_
 have hf:H b=none:=I.hok.none_of hb
 refine⟨.ref b,upd H b (.lst (ms.map V.int)),I.laidF (t':=s.toks) hk hb ⟨?_,out,c,FP hI,hg⟩,rfl,q b ms hf pm pw⟩
 rw[e7,pm.length_eq,lI]
 omega
theorem Iz:∀{ns ms:List Int},Mz (ns.map V.int) (ms.map V.int)=decide (ns=ms)
 | [],[]=>rfl
 | [],_::_=>rfl
 |_::_,[]=>rfl
 |n::ns,m::ms=>by
  show(Kt (V.int n) (V.int m)&&Mz (ns.map V.int) (ms.map V.int))=_
  rw[Iz (ns:=ns) (ms:=ms)]
  have:Kt (V.int n) (V.int m)=(n==m):=rfl
  rw[this]
  by_cases h1:n=m
  ·subst h1
   by_cases h2:ns=ms
   ·subst h2;simp
   ·simp[h2]
  ·simp[h1]
theorem Ff{ns:List Int}:(ns.map V.int).all DH=true:=by
 rw[lP]
 intro x hx
 obtain⟨n,_,rfl⟩:=jl.mp hx
 rfl
noncomputable def iT(K:b9)(g:Bool→Bool):R2:=fun x y H Q=>∃(a b:Addr) (ns ms:List Int),x=.ref a∧y=.ref b∧CM K H a (ns.map V.int)∧CM K H b (ms.map V.int)∧Q (.bl (g (decide (ns=ms)))) H
theorem Zf(hu:X.A.units<cLine):Cb X (kR .NotEq) (iT X.K (!·)):=by
 intro pins s σ H x y v u Q I rx ry h
 obtain⟨a,b,ns,ms,rfl,rfl,ha,hb,q⟩:=h
 by_cases hl:ns.length=ms.length
 ·refine ZC hu pins s σ H _ _ v u Q I rx ry ⟨a,b,_,_,rfl,rfl,ha,hb,Ff,Ff,by simpa using hl,?_⟩
  rw[Iz];exact q
 ·cases rx;cases ry
  obtain⟨its,r1,p1,z1⟩:=I.list ha
  obtain⟨its2,r2,p2,z2⟩:=I.list hb
  have l1:=r1.length
  have l2:=r2.length
  refine SeqAt.RcNeAt.lists_lengths p1.isList p2.isList ?_ hu _ _ _ _ ⟨.bl _,H,I,rfl,?_⟩
  ·simp only[ji,bne_iff_ne,ne_eq]
   simp at l1 l2
   omega
  ·have:decide (ns=ms)=false:=decide_eq_false fun z=>hl (by rw[z])
   rw[this] at q
   exact q
end
end L2
namespace L2.TL
open PySem PySem.Spec PySem.Calls PyProof.Rows
mutual
noncomputable def dT:T→j5
 | .non=> .none
 | .bl b=> .bool b
 | .int i=> .int i
 | .str x=> .str x
 | .tup ts=> .tuple (dTs ts)
 | .lst ts=> .list (dTs ts)
 | .frz _=> .none
 | .dct=> .none
 | .raw _=> .none
noncomputable def dTs:List T→List j5
 | []=> []
 |t::ts=>dT t::dTs ts
end
section
variable{K:b9}{O:AM}{H:Hp}{P:Program}{w:World}{h:Heap}
end
section
variable{X:Cx}
end
theorem Fv:∀{ps:List (Int×Int)},ko (dTs (ps.map AF))≤2
 | []=>by decide
 |p::ps=>by
  have ih:=Fv (ps:=ps)
  show max (dT (AF p)).depth (ko (dTs (ps.map AF)))≤2
  refine Nat.max_le.mpr ⟨?_,ih⟩
  simp[AF,dT,dTs,j5.depth,ko]
theorem Fg{K:b9}{O:AM}{H:Hp}:∀(ns:List Int),Reps K O H (ns.map V.int) (ns.map T.int)
 | []=> .nil
 |n::ns=> .cons (.int n) (Fg ns)
section
variable{Z:Zx}{ρ:List (Option T)}{O:AM}{e a b:Expr}{es:List Expr}{Ψ:Es}{Φ:Bf}{pos p:Pos}{t:T}{ts:List T}
theorem Na{ns:List Int}(m:Z.X.mg "sorted" =none)(h:ET Z ρ O e (.tup (ns.map T.int)))(hl:ns.length<64)(k:∀ms:List Int,ms.Perm ns→ms.Pairwise (·≤·)→Φ (.lst (ms.map T.int)) O)(hg:Gl Z.X "sorted":=by rfl)
  (he:i7 [e] Z.X.env=(false,eval e Z.X.env)::i7 [] Z.X.env:=by rfl):WE Z ρ O (.Call (.Name "sorted" p) [e] [] pos) Φ:=
 Lh Jw m Os (AQ h AB he _ (fun H vs Q ok r q=>by
  obtain⟨v,rfl,r1⟩:=r.one_inv
  obtain⟨a,xs,rfl,h1,r1⟩:=r1.tup_inv
  cases r1.ints
  exact⟨a,ns,rfl,.inl (.inl h1),hl,fun p ms hp pm pw=>q _ _ _ O (k ms pm pw) (.new ok hp) (.lst AY (ok.none_of hp) (Fg ms))⟩)) hg (by decide) (by decide) he
end
section
variable{Z:Zx}{ρ:List (Option T)}{O:AM}{e:Expr}{es:List Expr}{t:T}{ts us:List T}{Φ:Bf}{Ψ:Es}{pos p2 p3 p4:Pos}{x:Str}
end
section
variable{Z:Zx}{ρ:List (Option T)}{O:AM}{es:List Expr}{ts:List T}{Ψ:Es}{pos p:Pos}{tg iter:Expr}{body:List Stmt}
structure HWE(Z:Zx)(ρ:List (Option T))(O:AM)(e:Expr)(Φ:Bf):Prop where
 out:WE Z ρ O e Φ
theorem Vn(hp:qz (model Z.X.prog Z.X.w) Z.X.A Z.X.env Z.X.xe)(hc:Z.X.calm=true)(h:HWE Z ρ O iter fun t O'=>∃ts,t=.lst ts∧∃I:Nat→Li,I 0 ρ O'∧
  (∀i t ρ' O',ts[i]?=some t→I i ρ' O'→∃ρ2,WG Z Z.X.N.length ρ' O' tg t ρ2∧HS Z ρ2 O' body {nx:=I (i+1),rt:=Ψ.rt,bk:=Ψ.nx,ct:=I (i+1)})∧∀ρ' O',I ts.length ρ' O'→Ψ.nx ρ' O')
  (hs:∀x,lU iter Z.X.env x=pure x):WS Z ρ O (.For tg iter body [] pos) Ψ:=
 Bc hp hc (Oo (Dn h.out (by
  rintro t O' ⟨ts,e,I,i0,st,fin⟩
  refine⟨ts,e,I,i0,fun i t ρ' O' e x=>?_,fin⟩
  obtain⟨ρ2,a,b⟩:=st i t ρ' O' e x
  exact⟨ρ2,a,b.out⟩))) hs
theorem dF{P:Program}{w:World}{K:b9}{mg:Str→Option Value}{base:Heap}{x qual:Str}{st:Stmt}{f:Addr}{fd:jv}{N ps:List Str}{k:Nat}{sp:Sp}(F:Fun K x qual st f fd)(S:FnScope N ps (AA st))(len:∀vs H Q E,sp vs H Q E→vs.length=ps.length)
  (h:∀(cdv:Value) (A:js) (outer:List Env) (s:c9) (H:Hp) (vs:List V) (Q:VK) (E:XK),Room k (A.deeper (m9 qual (AA st) s.heap.objs.size f cdv))→sp vs H Q E→
   ∃ts O Φ Ξ,Reps K O H vs ts∧OwnOk K O H∧(XFly (zB P w K mg base N qual (AA st) f cdv A outer s H E O Ξ).X (zB P w K mg base N qual (AA st) f cdv A outer s H E O Ξ).W→HS (zB P w K mg base N qual (AA st) f cdv A outer s H E O Ξ) (Fe N ts) O (BQ st) {nx:=fun _ O'=>Φ .non O',rt:=Φ})∧Acc K O H Φ Q∧∀cls O' H',Ξ cls O'→Frm K O H O' H'→E cls none H'):FnOk P w K mg base (CXe P w) (k+1) f fd ps sp:=by
 refine F.okX S len (fun cdv A outer s H vs Q E hr h1=>?_)
 obtain⟨ts,O,Φ,Ξ,r,ok,q,acc,ex⟩:=h cdv A outer s H vs Q E hr h1
 refine⟨_,(q (XFly.mono Ao.f ?_)).out,⟨Ln r,.refl ok⟩,?_⟩
 ·rintro σ cls H' ⟨_,O',x,f⟩
  exact ex cls O' H' x f
 ·exact⟨fun ρ' O' σ' H' p a _=>acc _ _ _ O' p a.fr .non,fun v H' t O' p f r=>acc v H' t O' p f r,fun _ _ _ _ z=>z.elim,fun _ _ _ _ z=>z.elim⟩
end
noncomputable def Xg:AM:=fun _=>none
theorem Sk{K:b9}{H:Hp}:OwnOk K Xg H:=fun a ts e=>by cases e
theorem Xh{K:b9}{H H':Hp}{O':AM}{a:Addr}{xs:List V}(k:Kp Xg H O' H')(h:CM K H a xs):CM K H' a xs:=by
 rcases h with h|h
 ·refine .inl ?_
  rcases h with h| ⟨o,h⟩
  ·exact .inl (k a _ h rfl).1
  ·exact .inr ⟨o,(k a _ h rfl).1⟩
 ·exact .inr h
section
variable{Z:Zx}{ρ:List (Option T)}{O:AM}{e lo hi:Expr}{p p2 pos:Pos}{Φ:Bf}
theorem Zg{a:Addr}{ns:List Int}{i j:Int}(ho:Z.Oe=Xg)(hS:CM Z.K Z.He a (ns.map V.int))(h:ET Z ρ O e (.raw (.ref a)))(h1:ET Z ρ O lo (.int i))(h2:ET Z ρ O hi (.int j))
  (k:∀ms:List Int,ms.length≤ns.length→Φ (.lst (ms.map T.int)) O):WE Z ρ O (.Subscript e (.Slice (some lo) (some hi) none p2) pos) Φ:=by
 refine PE.weak (Ec OT (BU (ρ:=ρ)) (Eb (BU (ρ:=ρ))) (Eb (BU (ρ:=ρ)))) fun σ H0 Q q=>?_
 refine⟨O,_,h (fun t O'=>t=.raw (.ref a)∧O'=O) ⟨rfl,rfl⟩,q.1,?_⟩
 rintro v H1 _ _ ⟨rfl,rfl⟩ f1 r1
 refine⟨_,_,h1 (fun t O'=>t=.int i∧O'=_) ⟨rfl,rfl⟩,q.1.step f1,?_⟩
 rintro v2 H2 _ _ ⟨rfl,rfl⟩ f2 r2
 refine⟨i,r2.int_inv,_,_,h2 (fun t O'=>t=.int j∧O'=_) ⟨rfl,rfl⟩,q.1.step (f1.trans f2),?_⟩
 rintro v3 H3 _ _ ⟨rfl,rfl⟩ f3 r3
 refine⟨j,r3.int_inv,a,ns.map V.int,r1.raw_inv,Xh (ho▸(q.1.step (f1.trans (f2.trans f3))).fr.kp) hS,fun l hl=>?_⟩
 have ff:=f1.trans (f2.trans f3)
 have e:FO (ns.map V.int) (some i) (some j)=((ns.drop (HT.BO (ns.map V.int).length 0 (some i))).take (HT.BO (ns.map V.int).length (ns.map V.int).length (some j)-HT.BO (ns.map V.int).length 0 (some i))).map V.int:=by
  unfold FO
  rw[←List.map_drop,←List.map_take]
 rw[e]
 refine q.2 _ _ _ _ (k _ ?_) (ff.trans (.new ff.ok hl)) (.lst AY (ff.ok.none_of hl) ((Fg _).kp (BZ ff.ok hl) ff.ok))
 rw[j8,mN]
 omega
theorem dG{K:b9}{g:Bool→Bool}{ns ms:List Int}:RP K (iT K g) (.lst (ns.map T.int)) (.lst (ms.map T.int)) O (.bl (g (decide (ns=ms)))):=fun Φ p H v w Q ok r1 r2 q=>by
 obtain⟨a,xs,rfl,h1,_,r1⟩:=r1.lst_inv
 obtain⟨b,ys,rfl,h2,_,r2⟩:=r2.lst_inv
 cases r1.ints
 cases r2.ints
 exact⟨a,b,ns,ms,rfl,rfl,.inl (.inl h1),.inl (.inl h2),q _ H _ O p (.refl ok) (.bl _)⟩
end
theorem GQ:∀{ps qs:List (Int×Int)},ps.Pairwise CQ→qs.Pairwise CQ→(∀z,z∈ps↔z∈qs)→ps=qs:=by
 intro ps qs h1 h2 h3
 have nd:∀{l:List (Int×Int)},l.Pairwise CQ→l.Nodup:=fun h=>h.imp fun{a b} h z=>by
  subst z
  unfold CQ at h
  omega
 have pm:ps.Perm qs:=by
  refine List.perm_iff_count.mpr fun a=>?_
  have c1:=(nd h1).count (a:=a)
  have c2:=(nd h2).count (a:=a)
  rw[c1,c2]
  by_cases h:a∈ps
  ·rw[if_pos h,if_pos ((h3 a).mp h)]
  ·rw[if_neg h,if_neg fun z=>h ((h3 a).mpr z)]
 exact nC.eq_of_pairwise (fun a b _ _ x y=>by unfold CQ at x y;omega) h1 h2 pm
mutual
noncomputable def Be:T→Bool
 | .non=>true
 | .bl _=>true
 | .int _=>true
 | .str x=>j5.strOk x
 | .tup ts=>rdBs ts
 | .lst ts=>rdBs ts
 | .frz _=>false
 | .dct=>false
 | .raw _=>false
noncomputable def rdBs:List T→Bool
 | []=>true
 |t::ts=>Be t&&rdBs ts
end
mutual
theorem DC:∀(t:T),Be t=true→(dT t).canLay0=true
 | .non,_=>rfl
 | .bl _,_=>rfl
 | .int _,_=>rfl
 | .str x,h=>by unfold Be at h;exact h
 | .tup ts,h=>rds_lay ts (by unfold Be at h;exact h)
 | .lst ts,h=>rds_lay ts (by unfold Be at h;exact h)
 | .frz _,h=>by unfold Be at h;cases h
 | .dct,h=>by unfold Be at h;cases h
 | .raw _,h=>by unfold Be at h;cases h
theorem rds_lay:∀(ts:List T),rdBs ts=true→j5.canLayAll0 (dTs ts)=true
 | [],_=>rfl
 |t::ts,h=>by
  unfold rdBs at h
  rw[km] at h
  show(j5.canLay0 (dT t)&&j5.canLayAll0 (dTs ts))=true
  rw[DC t h.1,rds_lay ts h.2];rfl
end
section
variable{K:b9}{O:AM}{H:Hp}{P:Program}{w:World}{h:Heap}
mutual
theorem Rep.rd (hok:HOk P w H h):∀{v:V} {t:T} {u:Value},Rep K O H v t→Be t=true→RelV v u→∃as,Reads h u (dT t) as
 |_,_,_,.non,_,r=>by cases r;exact⟨_,.none⟩
 |_,_,_,.bl b,_,r=>by cases r;exact⟨_,.bool b⟩
 |_,_,_,.int i,_,r=>by obtain⟨t,rfl⟩:=r;exact⟨_,.int i t⟩
 |_,_,_,.str x,_,r=>by obtain⟨t,rfl⟩:=r;exact⟨_,.str x t⟩
 |_,_,_,.tup (ts:=ts) e q,g,r=>by
  cases r
  obtain⟨_,its,rv,⟨o,e1,e2,n,e3⟩⟩:=(show ObjOk P w H h _ (.tup _) from hok _ _ e)
  obtain⟨as,ra⟩:=Reps.rd hok q (by unfold Be at g;exact g) rv
  exact⟨_,.tuple (vs:=its.toArray) e1 e2 e3 (by simpa using ra)⟩
 |_,_,_,.lst (ts:=ts) e _ q,g,r=>by
  cases r
  obtain⟨_,its,n,rv,e1⟩:=(show ObjOk P w H h _ (.lst _) from hok _ _ e)
  obtain⟨as,ra⟩:=Reps.rd hok q (by unfold Be at g;exact g) rv
  exact⟨_,.list (vs:=its.toArray) e1 rfl rfl (by simpa using ra)⟩
 |_,_,_,.frz _ _,g,_=>by unfold Be at g;cases g
 |_,_,_,.dct _,g,_=>by unfold Be at g;cases g
 |_,_,_,.raw v,g,_=>by unfold Be at g;cases g
theorem Reps.rd (hok:HOk P w H h):∀{vs:List V} {ts:List T} {us:List Value},Reps K O H vs ts→rdBs ts=true→Vals vs us→∃as,ReadsAll h us (dTs ts) as
 |_,_,_,.nil,_,r=>by cases r;exact⟨_,.nil⟩
 |_,_,_,.cons a b,g,.cons r1 r2=>by
  unfold rdBs at g
  rw[km] at g
  obtain⟨as,x⟩:=Rep.rd hok a g.1 r1
  obtain⟨bs,y⟩:=Reps.rd hok b g.2 r2
  exact⟨_,.cons x y⟩
end
end
section
variable{X:Cx}
noncomputable def rD(K:b9)(g:j5→j5→Bool):R2:=fun x y H Q=>∃O t u,Rep K O H x t∧Rep K O H y u∧Be t=true∧Be u=true∧(dT t).depth≤100∧Q (.bl (g (dT t) (dT u))) H
theorem EM(hu:X.A.units+101<cLine):Cb X (kR .Eq) (rD X.K fun a b=>kr a b):=by
 intro pins s σ H x y v u Q I rx ry h
 obtain⟨O,t,t',r1,r2,g1,g2,hd,q⟩:=h
 obtain⟨as,ra⟩:=Rep.rd I.hok r1 g1 rx
 obtain⟨bs,rb⟩:=Rep.rd I.hok r2 g2 ry
 exact SeqAt.compareEq_reads ra rb (DC t g1) (DC t' g2) (by omega) ⟨.bl _,H,I,rfl,q⟩
theorem DD(hu:X.A.units+101<cLine):Cb X (kR .NotEq) (rD X.K fun a b=>!kr a b):=by
 intro pins s σ H x y v u Q I rx ry h
 obtain⟨O,t,t',r1,r2,g1,g2,hd,q⟩:=h
 obtain⟨as,ra⟩:=Rep.rd I.hok r1 g1 rx
 obtain⟨bs,rb⟩:=Rep.rd I.hok r2 g2 ry
 exact SeqAt.compareNe_reads ra rb (DC t g1) (DC t' g2) (by omega) ⟨.bl _,H,I,rfl,q⟩
noncomputable def fh(K:b9)(g:Bool→Bool):R2:=fun x y H Q=>∃O t us,Rep K O H x t∧(Rep K O H y (.tup us)∨Rep K O H y (.lst us))∧Be t=true∧rdBs us=true∧(dT t).depth≤100∧Q (.bl (g ((dTs us).any fun y=>kr y (dT t)))) H
theorem Sl(hu:X.A.units+102<cLine):Cb X (kR .In) (fh X.K id):=by
 intro pins s σ H x y v u Q I rx ry h
 obtain⟨O,t,us,r1,r2,g1,g2,hd,q⟩:=h
 obtain⟨as,ra⟩:=Rep.rd I.hok r1 g1 rx
 rcases r2 with r2|r2
 ·obtain⟨bs,rb⟩:=Rep.rd I.hok r2 (by unfold Be;exact g2) ry
  exact SeqAt.in_tuple_reads rb ra (rds_lay us g2) (DC t g1) (by omega) ⟨.bl _,H,I,rfl,q⟩
 ·obtain⟨bs,rb⟩:=Rep.rd I.hok r2 (by unfold Be;exact g2) ry
  exact SeqAt.in_list_reads rb ra (rds_lay us g2) (DC t g1) (by omega) ⟨.bl _,H,I,rfl,q⟩
theorem Jx(hu:X.A.units+102<cLine):Cb X (kR .NotIn) (fh X.K (!·)):=by
 intro pins s σ H x y v u Q I rx ry h
 obtain⟨O,t,us,r1,r2,g1,g2,hd,q⟩:=h
 obtain⟨as,ra⟩:=Rep.rd I.hok r1 g1 rx
 rcases r2 with r2|r2
 ·obtain⟨bs,rb⟩:=Rep.rd I.hok r2 (by unfold Be;exact g2) ry
  exact SeqAt.notIn_tuple_reads rb ra (rds_lay us g2) (DC t g1) (by omega) ⟨.bl _,H,I,rfl,q⟩
 ·obtain⟨bs,rb⟩:=Rep.rd I.hok r2 (by unfold Be;exact g2) ry
  exact SeqAt.notIn_list_reads rb ra (rds_lay us g2) (DC t g1) (by omega) ⟨.bl _,H,I,rfl,q⟩
end
section
variable{K:b9}{O:AM}{t u:T}{us:List T}
theorem EN{g:j5→j5→Bool}(h1:Be t=true)(h2:Be u=true)(hd:(dT t).depth≤100):RP K (rD K g) t u O (.bl (g (dT t) (dT u))):=fun Φ p H v w Q ok r1 r2 q=>
 ⟨O,t,u,r1,r2,h1,h2,hd,q _ H _ O p (.refl ok) (.bl _)⟩
theorem Jy{g:Bool→Bool}(h1:Be t=true)(h2:rdBs us=true)(hd:(dT t).depth≤100):RP K (fh K g) t (.tup us) O (.bl (g ((dTs us).any fun y=>kr y (dT t)))):=fun Φ p H v w Q ok r1 r2 q=>
 ⟨O,t,us,r1,.inl r2,h1,h2,hd,q _ H _ O p (.refl ok) (.bl _)⟩
theorem Nb{g:Bool→Bool}(h1:Be t=true)(h2:rdBs us=true)(hd:(dT t).depth≤100):RP K (fh K g) t (.lst us) O (.bl (g ((dTs us).any fun y=>kr y (dT t)))):=fun Φ p H v w Q ok r1 r2 q=>
 ⟨O,t,us,r1,.inr r2,h1,h2,hd,q _ H _ O p (.refl ok) (.bl _)⟩
end
theorem Eu(p:Int×Int):Be (AF p)=true:=by simp[AF,Be,rdBs]
theorem Ci:∀{ps:List (Int×Int)},rdBs (ps.map AF)=true
 | []=>rfl
 |p::ps=>by
  show(Be (AF p)&&rdBs (ps.map AF))=true
  rw[Eu,Ci];rfl
theorem EO(p:Int×Int):(dT (AF p)).depth≤100:=by simp[AF,dT,dTs,j5.depth,ko]
theorem Hl(p q:Int×Int):kr (dT (AF p)) (dT (AF q))=decide (p=q):=by
 show((p.1==q.1)&&((p.2==q.2)&&true))=decide (p=q)
 rw[lC]
 simp only[Bool.and_true,km,beq_iff_eq,decide_eq_true_eq]
 exact⟨fun h=>kW h.1 h.2,fun h=>by rw[h];exact⟨rfl,rfl⟩⟩
theorem Fh{q:Int×Int}:∀{ps:List (Int×Int)},((dTs (ps.map AF)).any fun y=>kr y (dT (AF q)))=decide (q∈ps)
 | []=>by simp[dTs]
 |p::ps=>by
  show(kr (dT (AF p)) (dT (AF q))|| (dTs (ps.map AF)).any fun y=>kr y (dT (AF q)))=_
  rw[Hl,Fh,lC,oY,decide_eq_true_eq,decide_eq_true_eq,decide_eq_true_eq,i6]
  exact⟨fun h=>h.elim (fun e=> .inl e.symm) .inr,fun h=>h.elim (fun e=> .inl e.symm) .inr⟩
theorem Fj:∀{ps qs:List (Int×Int)},mz (dTs (ps.map AF)) (dTs (qs.map AF))=decide (ps=qs)
 | [],[]=>rfl
 | [],_::_=>rfl
 |_::_,[]=>rfl
 |p::ps,q::qs=>by
  show(kr (dT (AF p)) (dT (AF q))&&mz (dTs (ps.map AF)) (dTs (qs.map AF)))=_
  rw[Hl,Fj,lC,km,decide_eq_true_eq,decide_eq_true_eq,decide_eq_true_eq]
  exact⟨fun h=>by rw[h.1,h.2],fun h=>by injection h with a b;exact⟨a,b⟩⟩
noncomputable abbrev AI(n:Int)(ps:List (Int×Int)):T:=.tup [.int n,.tup (ps.map AF)]
theorem Dd{n:Int}{ps:List (Int×Int)}:Be (AI n ps)=true:=by
 show rdBs [.int n,.tup (ps.map AF)]=true
 show(true&&(rdBs (ps.map AF)&&true))=true
 rw[Ci];rfl
theorem GR{n m:Int}{ps qs:List (Int×Int)}:kr (dT (AI n ps)) (dT (AI m qs))=(decide (n=m)&&decide (ps=qs)):=by
 show((n==m)&&(mz (dTs (ps.map AF)) (dTs (qs.map AF))&&true))=_
 rw[Fj,Bool.and_true]
 rfl
end L2.TL
namespace L2
open PySem PySem.Spec PySem.Calls PyProof.Rows
section
variable{X:Cx}
noncomputable def Up(ns:List Int):Nat:=(firstMet (fun i=>ns.getD i 0) ns.length).length
theorem QZ(hc:X.calm=true):BJ X (.type "set") (fun xs H Q=>∃(a:Addr) (ns:List Int),xs=[.ref a]∧CM X.K H a (ns.map V.int)∧ns.length<1000∧∀(p:Addr) (S:Int→Bool),H p=none→Q (.ref p) (upd H p (.set S (Up ns)))):=by
 intro pins s σ H xs us Q I r h
 obtain⟨a,ns,rfl,hS,hl,q⟩:=h
 obtain⟨u,rfl,ru⟩:=Vals.one r
 cases ru
 obtain⟨its,rv,p,_⟩:=I.list hS
 have hlen:its.length=ns.length:=by have:=rv.length;simpa using this.symm
 refine PySem.call_set_list (ns:=ns) (I.ok.hd hc) p.isList (by simpa using Bj rv) (by simp only[ji,scanBound];omega) fun h' tk hs hk=>?_
 have hf:H s.heap.objs.size=none:=I.hok.fresh (jb _)
 have hs':h'.SetOf (intKind X.prog X.w) s.heap.objs.size (fun k'=> (firstMet (fun i=>ns.getD i 0) its.toArray.size).any (· ==k')) (Up ns):=by
  have e:its.toArray.size=ns.length:=by rw[ji];exact hlen
  rw[e] at hs ⊢
  exact hs
 exact⟨.ref s.heap.objs.size,upd H s.heap.objs.size (.set _ (Up ns)),I.laid (t':=tk) (fun b u e=>hk b u (je e) e) (jb _) hs',rfl,q _ _ hf⟩
theorem Lp:BJ X (.builtin "len") (fun xs H Q=>∃(a:Addr) (S:Int→Bool) (n:Nat),xs=[.ref a]∧H a=some (.set S n)∧Q (.int n) H):=by
 intro pins s σ H xs us Q I r h
 obtain⟨a,S,n,rfl,hS,q⟩:=h
 obtain⟨u,rfl,ru⟩:=Vals.one r
 cases ru
 obtain⟨o,es,ep,t,h1,h2,h3,h4,h5,h6,h7,h8⟩:=(show ObjOk X.prog X.w H s.heap a (.set S n) from I.hok a _ hS)
 refine PySem.call_len_set h1 h2 h3 h7 (by unfold scanBound at h6;omega) ?_
 rw[h8]
 exact⟨.int n,H,I.tok _,⟨_,rfl⟩,q⟩
noncomputable def Xj(K:b9):R2:=fun x y H Q=>∃(a:Addr) (i:Int) (v:V),x=.ref a∧y=.int i∧CM K H a [v]∧(i=0∨i=1)∧∀p,H p=none→Q (.ref p) (upd H p (.lst (kX i.toNat v)))
theorem Vo:Cb X (nF .Mult) (Xj X.K):=by
 intro pins s σ H x y v u Q I rx ry h
 obtain⟨a,i,e,rfl,rfl,ha,hi,q⟩:=h
 cases rx
 obtain⟨tk,rfl⟩:=ry
 obtain⟨its,rv,p,_⟩:=I.list ha
 obtain⟨⟨cls,d,data,sl⟩,k,ho,hc,hdd,hd⟩:=id p
 simp only at hc hd
 subst hc hd
 obtain⟨u1,rfl,ru⟩:=Vals.one rv
 have hf:=I.hok.fresh (jb s.heap.objs.size)
 refine wpAny_binaryOp_repeat_ref (T:="list") (U:="int") (by decide) ⟨_,ho,rfl⟩ (fun s'=>typeIs_int s' i tk) noFill_list_mul F.fills_int_mul F.slot_int_rmul repeat_list F.slot_int_index.lookup
  (rz F.slot_int_rmul (typeIs_int s i tk) F.entry_int_rmul (F.args_int_rmul_2 _ _) (lm_int_rmul_list_any i tk a [u1].toArray k d sl)
   ⟨ho,rfl,⟨_,ho,rfl⟩,rz F.slot_list_mul ⟨_,ho,rfl⟩ F.entry_list_mul (F.args_list_mul_2 _ _)
    (lm_list_mul_any a [u1].toArray k d sl i tk (by simp[Builtin.List.listFitsIndex];omega) (by simp;omega) (by simp[nN,sizeLine];omega)) ⟨ho,?_⟩⟩)
 rcases hi with rfl|rfl
 ·exact⟨.ref _,_,I.laid (t':=s.toks) (o:=.lst []) (fun b ob q=>e8 _ q) (jb _) ⟨kN _,[],0,.nil,jq _ rfl⟩,rfl,q _ hf⟩
 ·exact⟨.ref _,_,I.laid (t':=s.toks) (o:=.lst [e]) (fun b ob q=>e8 _ q) (jb _) ⟨by show 1≤sizeLine;rw[lI];decide,[u1],0,.cons ru .nil,jq _ rfl⟩,rfl,q _ hf⟩
variable{e:Expr}{te:TE}{p2 p3 p4 pos:Pos}
theorem Vp{prog:Program}{w:World}{A:js}{E:Value→c9→Prop}{s:c9}{l:Addr}{u1 u2:Value}{Q:List Value→c9→Prop}(hh:A.handled=none)(hl:s.heap.IsList l #[u1,u2])
  (hQ:∀h',qi s.heap.objs.size s.heap h'→Q [u1,u2] {s with heap:=h'}):wpAny (model prog w) A (unpackItems (.ref l) 2 none) Q E s:=by
 have hlt:l≠s.heap.objs.size:=by obtain⟨o,ho,_⟩:=hl;exact jY (je ho)
 have stay:∀{h1 h2:Heap},qi s.heap.objs.size h1 h2→h1.IsList l #[u1,u2]→h2.IsList l #[u1,u2]:=fun e ⟨o,ho,r⟩=> ⟨o,e l o hlt ho,r⟩
 unfold unpackItems
 refine b6 ?_
 unfold notIterableAtAll
 refine b6 (rK hl.typeIs PySem.slot_list_iter.lookup ?_)
 refine e6 ?_
 simp only[jt,if_false]
 refine b6 (kh (nE hl ?_))
 have hl1:(s.heap.push {cls:=.type "list_iterator",data:=.fields #[.ref l,.int 0 0]}).IsList l #[u1,u2]:=by
  obtain⟨o,ho,r⟩:=hl
  exact⟨o,e8 _ ho,r⟩
 refine b6 (kh ?_)
 show wpAny _ _ (draw (.ref s.heap.objs.size) 2) _ _ _
 show wpAny _ _ (oz (.ref s.heap.objs.size)>>=_) _ _ _
 refine b6 (nX (i:=0) ⟨_,jq _ rfl,rfl,rfl⟩ hl1 (x:=u1) rfl fun h1 i1 k1=>?_)
 refine b6 (kh ?_)
 have hl2:=stay k1.extBut hl1
 show wpAny _ _ (oz (.ref s.heap.objs.size)>>=_) _ _ _
 refine b6 (nX (i:=1) i1 hl2 (x:=u2) rfl fun h2 i2 k2=>?_)
 refine b6 (kh ?_)
 have hl3:=stay k2.extBut hl2
 refine e6 (e6 (e6 ?_))
 rw[if_neg (by simp)]
 refine b6 (kh (pS hh i2 hl3 rfl fun h3 k3=>?_))
 simp only[Option.isSome_none,jt,if_false]
 refine e6 (hQ h3 fun b o hb e=>k3 b o hb (k2.extBut b o hb (k1.extBut b o hb (e8 _ e))))
noncomputable def dH(K:b9)(t:Uy):TG:=fun v σ H Q=>∃a x y,v=.ref a∧CM K H a [x,y]∧t [x,y] σ H Q
theorem Vq{es:List Expr}{k:Nat}{t:Uy}(hc:X.calm=true)(h:bS X es t)
  (hn:(kz es X.env).length=2:=by rfl) (hst:(kz es X.env).findIdx? (·.1)=none:=by rfl):PG X (.Tuple es k pos) (dH X.K t):=by
 intro pins s σ H v u Q I r hw
 obtain⟨a,x,y,e1,hq,hw⟩:=hw
 subst e1
 cases r
 obtain⟨its,rv,ht,hz⟩:=I.list hq
 obtain⟨u1,u2,rfl,g1,g2⟩:=Ia rv
 rw[assign_Tuple]
 refine b6 (oi ?_)
 unfold unpack
 rw[hn,hst]
 refine b6 (kh (Vp (I.ok.hd hc) ht.isList fun h' hx=>?_))
 have I1:Inv X pins σ H {s with heap:=h'}:=I.kept (t':=s.toks) fun b o e=>hx b o (jY (je e)) e
 exact h pins _ σ H [x,y] _ Q I1 rv hw
end
end L2
namespace L2.TL
open PySem PySem.Spec PySem.Calls PyProof.Rows
section
variable{Z:Zx}{ρ:List (Option T)}{O:AM}{e a b:Expr}{es:List Expr}{Ψ:Es}{Φ:Bf}{pos p p1 pos1 p2 p3 p4:Pos}{t ta tb:T}{ts us:List T}{x:Str}
theorem EB.wt{k:Bool}{Φ:Jn}(h:EB Z ρ O e k)(p:Φ k O):WT Z ρ O e Φ:=h Φ p
theorem WW.wt{Φ:Jn}(h:WW Z ρ O e Φ):WT Z ρ O e Φ:=h.pt
theorem Qa{ns:List Int}(m:Z.X.mg "len" =none)(m2:Z.X.mg "set" =none)(hc:Z.X.calm=true)(h:ET Z ρ O e (.lst (ns.map T.int)))(hl:ns.length<1000)(hg:Gl Z.X "len":=by rfl)(hg2:Gl Z.X "set":=by rfl)(he:i7 [e] Z.X.env=(false,eval e Z.X.env)::i7 [] Z.X.env:=by rfl)
  (he2:i7 [Expr.Call (.Name "set" p1) [e] [] pos1] Z.X.env=(false,eval (.Call (.Name "set" p1) [e] [] pos1) Z.X.env)::i7 [] Z.X.env:=by rfl):ET Z ρ O (.Call (.Name "len" p) [.Call (.Name "set" p1) [e] [] pos1] [] pos) (.int (Up ns)):=fun Φ q=>by
 refine PE.weak (EZ Lp hg m Vk (GG (FN (QZ hc) hg2 m2 dD (Ld (ρ:=ρ)) (by decide) (by decide) he) JU he2) (by decide) (by decide) he2) fun σ H Q k=>?_
 refine⟨O,_,AQ h AB he (fun ts O'=>ts=[.lst (ns.map T.int)]∧O'=O) ⟨rfl,rfl⟩,k.1,?_⟩
 rintro vs H1 _ _ ⟨rfl,rfl⟩ f r
 obtain⟨v,rfl,r1⟩:=r.one_inv
 obtain⟨a,xs,rfl,h1,_,r1⟩:=r1.lst_inv
 cases r1.ints
 refine⟨a,ns,rfl,.inl (.inl h1),hl,fun p S hp=> ⟨p,S,Up ns,rfl,AY,?_⟩⟩
 exact k.2 _ _ _ _ q (f.trans (.new f.ok hp)) (.int _)
theorem Vr{K:b9}{i:Int}(hi:i=0∨i=1):RP K (Xj K) (.lst [t]) (.int i) O (.lst (kX i.toNat t)):=fun Φ p H v w Q ok r1 r2 q=>by
 obtain⟨a,xs,rfl,h1,_,r1⟩:=r1.lst_inv
 obtain⟨v,rfl,g⟩:=r1.one_inv
 refine⟨a,i,v,rfl,r2.int_inv,.inl (.inl h1),hi,fun l hl=>q _ _ _ O p (.new ok hl) (.lst AY (ok.none_of hl) ?_)⟩
 rcases hi with rfl|rfl
 ·exact .nil
 ·exact .one (g.kp (BZ ok hl) ok)
theorem Vs(i j:Nat){n:Nat}{y:Str}{k:Nat}(hc:Z.X.calm=true)(hN:Z.X.N.Nodup)(hni:i<n)(hnj:j<n)(hi:Z.X.N[i]?=some x:=by rfl)(hj:Z.X.N[j]?=some y:=by rfl)(hx:Mi Z.X.env.scope x:=by first|exact pJ rfl|exact oN rfl)(hy:Mi Z.X.env.scope y:=by first|exact pJ rfl|exact oN rfl)
  (hf:Z.X.fn x=true∨Z.X.env.scope.names.lookup x=some .local:=by first|exact .inl rfl|exact .inr rfl) (hf2:Z.X.fn y=true∨Z.X.env.scope.names.lookup y=some .local:=by first|exact .inl rfl|exact .inr rfl)
  (hs:(kz [.Name x p1,.Name y p2] Z.X.env).map (·.2)=assign (.Name x p1) Z.X.env::(kz [.Name y p2] Z.X.env).map (·.2):=by rfl) (hs2:(kz [.Name y p2] Z.X.env).map (·.2)=assign (.Name y p2) Z.X.env::(kz [] Z.X.env).map (·.2):=by rfl)
  (hl:(kz [.Name x p1,.Name y p2] Z.X.env).length=2:=by rfl) (hst:(kz [.Name x p1,.Name y p2] Z.X.env).findIdx? (·.1)=none:=by rfl):
  WG Z n ρ O (.Tuple [.Name x p1,.Name y p2] k pos) (.lst [ta,tb]) ((ρ.set i (some ta)).set j (some tb)):=
 PG.weak (Vq hc (Bn (Bw hN hi hx hf) (Bn (Bw hN hj hy hf2) JT hs2) hs) hl hst) fun v σ H Q q=>by
  obtain⟨q1,q2,q3⟩:=q
  obtain⟨a,xs,rfl,h1,_,r⟩:=q2.lst_inv
  obtain⟨v,w,rfl,r1,r2⟩:=r.two_inv
  exact⟨a,v,w,rfl,.inl (.inl h1),v,_,rfl,w,_,rfl,rfl,q3 _ ⟨(q1.rl.set r1).set r2,q1.fr⟩ ⟨by simp,fun m hm=>by rw[jx (by omega),jx (by omega)]⟩⟩
theorem JA{o:Expr}{apos cpos:Pos}(h:WE Z ρ O o fun t O1=>∃a,t=.raw (.ref a)∧(∃ts,O1 a=some ts)∧WE Z ρ O1 e fun u O2=>∃ts us,u=.lst us∧O2 a=some ts∧ts.length+us.length≤sizeLine∧Φ .non (Ap O2 a (ts++us)))
  (hbase:p7 o "extend" Z.X.env (eval o Z.X.env)=eval o Z.X.env:=by rfl)
  (hfew:((mM cpos (i7 [e] Z.X.env)).all (fun x=>!x.1)&&(sR cpos (qL [] Z.X.env)).all (fun x=>x.1.isSome)
   &&decide ([e].length+([]:List p9).length+(if([]:List p9).isEmpty then 0 else 1)<30))=true:=by rfl)
  (hline:(apos.endLine==cpos.line)=true:=by rfl) (hs:i7 [e] Z.X.env=(false,eval e Z.X.env)::i7 [] Z.X.env:=by rfl) (hplain:(mM cpos (i7 [] Z.X.env)).any (·.1)=false:=by rfl):WE Z ρ O (.Call (.Attribute o "extend" apos) [e] [] cpos) Φ:=by
 refine SX pA PySem.F.slot_list_extend PySem.F.type_list_extend QF (Dn h ?_) hbase hfew hline hs hplain
 rintro t O1 ⟨a,rfl,⟨ts,hts⟩,w⟩
 refine⟨On hts,Do (Dn w ?_) hs⟩
 rintro u O2 ⟨us,vs,rfl,h1,h2,p⟩
 refine BL fun H v ws Q ok r1 r2 q=>?_
 cases r1.raw_inv
 obtain⟨w,rfl,r3⟩:=r2.one_inv
 obtain⟨c,ys,rfl,hc,_,r3⟩:=r3.lst_inv
 obtain⟨xs,hx,r⟩:=ok a us h1
 exact⟨a,c,xs,ys,rfl,rfl,hx,hc,by rw[r.length,r3.length];exact h2,q _ _ _ _ p (.put ok h1 (r.append r3)) .non⟩
noncomputable def JB:T→Bool
 | .non=>true
 |_=>false
theorem De{j:Nat}(hr:DZ t=false)(ha:ET Z ρ O a t):EB Z ρ O (.Compare a [.Is] [.Constant .none j p1] pos) (JB t):=Af Yj (Ac _) (fun Φ p H v w Q ok r1 r2 q=>by
 refine⟨r2.non_inv,?_⟩
 have e:decide (v=V.non)=JB t:=by
  cases r1<;>first|rfl|cases hr
 rw[e]
 exact q _ H _ O p (.refl ok) (.bl _)) ha EK
end
section
variable{Z:Zx}{ρ:List (Option T)}{O O1 O2:AM}{c:Expr}{body ss:List Stmt}{Ψ:Es}{pos:Pos}
noncomputable def gy(Z:Zx)(e:Expr):TT:=fun σ H Q=>∃ρ O Φ,WT Z ρ O e Φ∧bK Z ρ O Φ σ H Q
theorem dI{e:Expr}:PT Z.X e (gy Z e):=fun pins s σ H Q I ⟨_,_,_,w,q⟩=>w pins s σ H Q I q
theorem Lq(hp:qz (model Z.X.prog Z.X.w) Z.X.A Z.X.env Z.X.xe)(I:Nat→Li)(i0:∃m,I m ρ O)
  (step:∀m ρ' O',I m ρ' O'→WT Z ρ' O' c fun b O1=>if b=true then Fu Z ρ' O1 body {nx:=fun ρ2 O2=>∃m',m'<m∧I m' ρ2 O2,rt:=Ψ.rt,bk:=Ψ.nx,ct:=fun ρ2 O2=>∃m',m'<m∧I m' ρ2 O2} else Ψ.nx ρ' O1):WS Z ρ O (.While c body [] pos) Ψ:=by
 refine PS.weak (RF hp dI Lj) fun D σ H q=>?_
 obtain⟨m0,i0⟩:=i0
 refine⟨fun m σ' H'=>∃ρ' O',I m ρ' O'∧Asr Z ρ' O' σ' H'∧Kp O H O' H',⟨m0,ρ,O,i0,q.1,.refl⟩,?_⟩
 rintro m σ1 H1 ⟨ρ1,O1,i1,a1,k1⟩
 refine⟨ρ1,O1,_,step m ρ1 O1 i1,a1,fun b H2 O2 p f=>?_⟩
 have kk:=k1.trans f.kp
 cases b with
 |true=>
  rw[if_pos rfl] at p
  show if true=true then _ else _
  rw[if_pos rfl]
  refine⟨fun σ2 H3=>∃ρ2 O3,(∃m',m'<m∧I m' ρ2 O3)∧Asr Z ρ2 O3 σ2 H3∧Kp O H O3 H3,?_,ρ1,O2,_,p,a1.step f,?_⟩
  ·rintro σ2 H3 ⟨ρ2,O3,⟨m',hm,i2⟩,a2,k2⟩
   exact⟨m',hm,ρ2,O3,i2,a2,k2⟩
  ·exact⟨fun ρ' O' σ' H' w a k=> ⟨ρ',O',w,a,kk.trans k⟩,q.2.rt,fun ρ' O' σ' H' w a k=>q.2.nx ρ' O' σ' H' w a (kk.trans k),fun ρ' O' σ' H' w a k=> ⟨ρ',O',w,a,kk.trans k⟩⟩
 |false=>
  rw[if_neg i5] at p
  show if false=true then _ else _
  rw[if_neg i5]
  exact q.2.nx ρ1 O2 σ1 H2 p (a1.step f) kk
theorem Vt(hk:∀H,OwnOk Z.K O1 H→Kp O1 H O2 H∧OwnOk Z.K O2 H)(hf:∀b us vs,Z.Oe b=some us→O1 b=some vs→∃us',O2 b=some us')(h:Fu Z ρ O2 ss Ψ):Fu Z ρ O1 ss Ψ:=PSs.weak h fun D σ H q=>by
 obtain⟨k,ok⟩:=hk H q.1.ok
 exact⟨⟨q.1.rl.kp k q.1.ok,⟨q.1.fr.kp.trans k,fun b us e=>by
  obtain⟨vs,e'⟩:=q.1.fr.own b us e
  exact hf b us vs e e',ok⟩⟩,q.2.step k⟩
end
section
variable{O:AM}{rs:List (Addr×List T)}{r:Addr×List T}{p q l:Addr}{us vs:List T}
noncomputable def Ku(O:AM)(rs:List (Addr×List T)):AM:=rs.foldl (fun O r=>Ap O r.1 r.2) O
theorem Br:Ku O (r::rs)=Ku (Ap O r.1 r.2) rs:=rfl
theorem Sm:Ku O (rs++[r])=Ap (Ku O rs) r.1 r.2:=by unfold Ku;rw[List.foldl_append];rfl
theorem Ds(h:∀r∈rs,r.1≠p):Ku O rs p=O p:=by
 induction rs generalizing O with
 |nil=>rfl
 |cons r rs ih=>
  rw[Br,ih fun s hs=>h s (jn _ hs),Ah (fun z=>h r (j9 ..) z.symm)]
theorem Sn(h:∀r∈rs,r.1≠p):Ap (Ku O rs) p vs=Ku (Ap O p vs) rs:=by
 induction rs generalizing O with
 |nil=>rfl
 |cons r rs ih=>
  rw[Br,ih fun s hs=>h s (jn _ hs),Br,DY (h r (j9 ..))]
theorem ER(hn:(rs.map mn).Nodup)(h:r∈rs):Ku O rs r.1=some r.2:=by
 induction rs generalizing O with
 |nil=>cases h
 |cons s rs ih=>
  rw[jr,kg] at hn
  rw[Br]
  rcases i6.mp h with rfl|h
  ·rw[Ds fun s hs z=>hn.1 (jl.mpr ⟨s,hs,z⟩),AH]
  ·exact ih hn.2 h
theorem Vu{i:Nat}(hn:(rs.map mn).Nodup)(h:rs[i]?=some (p,us)):Ap (Ku O rs) p vs=Ku O (rs.set i (p,vs)):=by
 induction rs generalizing O i with
 |nil=>simp at h
 |cons s rs ih=>
  rw[jr,kg] at hn
  cases i with
  |zero=>
   simp at h
   subst h
   rw[List.set_cons_zero,Br,Br,Sn fun s hs z=>hn.1 (jl.mpr ⟨s,hs,z⟩),BS]
  |succ i=>
   rw[List.set_cons_succ,Br,Br]
   exact ih hn.2 (by simpa using h)
theorem Vv{i:Nat}(h:rs[i]?=some (p,us)):(rs.set i (p,vs)).map mn=rs.map mn:=by
 rw[rG]
 apply lH
 intro m
 by_cases hm:i=m
 ·subst hm
  have hl:=(jc.mp h).1
  rw[ky (by simpa using hl),e9,h];rfl
 ·rw[jx hm]
noncomputable def IS(r:Addr×List T):T:=.raw (.ref r.1)
theorem Lr{K:b9}{H:Hp}{O:AM}:∀{rs:List (Addr×List T)} {xs:List V},Reps K O H xs (rs.map IS)→xs=rs.map fun r=>V.ref r.1
 | [],_,h=>h.nil_inv
 |r::rs,_,h=>by
  obtain⟨v,vs',rfl,h1,h2⟩:=h.cons_inv
  cases h1.raw_inv
  rw[Lr h2];rfl
theorem Ls{K:b9}{H:Hp}{O:AM}:∀{rs:List (Addr×List T)},(∀r∈rs,Rep K O H (.ref r.1) (.lst r.2))→Reps K O H (rs.map fun r=>V.ref r.1) (rs.map fun r=>T.lst r.2)
 | [],_=> .nil
 |r::rs,h=> .cons (h r (j9 ..)) (Ls fun s hs=>h s (jn _ hs))
theorem So{Z:Zx}{ρ:List (Option T)}{ss:List Stmt}{Ψ:Es}(hn:(rs.map mn).Nodup)(hl:∀r∈rs,r.1≠l)(ho:∀r∈rs,O r.1=none)(he:∀r∈rs,Z.Oe r.1=none)
  (h:Fu Z ρ (Ap O l (rs.map fun r=>T.lst r.2)) ss Ψ):Fu Z ρ (Ap (Ku O rs) l (rs.map IS)) ss Ψ:=by
 refine Vt (fun H ok=>?_) (fun b us vs e1 e2=>?_) h
 ·have k:Kp (Ap (Ku O rs) l (rs.map IS)) H (Ap O l (rs.map fun r=>T.lst r.2)) H:=fun b o hb n=> ⟨hb,by
   by_cases h1:b=l
   ·rw[h1,AH] at n;cases n
   ·rw[Ah h1] at n ⊢
    by_cases h2:∃r∈rs,r.1=b
    ·obtain⟨r,hr,rfl⟩:=h2
     exact ho r hr
    ·rw[Ds fun r hr z=>h2 ⟨r,hr,z⟩] at n
     exact n⟩
  refine⟨k,fun a ts e=>?_⟩
  by_cases h1:a=l
  ·subst h1
   rw[AH] at e
   cases e
   obtain⟨xs,hx,rx⟩:=ok a _ AH
   have:=Lr rx
   subst this
   refine⟨_,hx,Ls fun r hr=>?_⟩
   obtain⟨ys,hy,ry⟩:=ok r.1 r.2 (by rw[Ah (hl r hr)];exact ER hn hr)
   exact .lst hy (by rw[Ah (hl r hr)];exact ho r hr) (ry.kp k ok)
  ·rw[Ah h1] at e
   have hz:∀r∈rs,r.1≠a:=fun r hr z=>by rw[←z,ho r hr] at e;cases e
   obtain⟨xs,hx,rx⟩:=ok a ts (by rw[Ah h1,Ds hz];exact e)
   exact⟨xs,hx,rx.kp k ok⟩
 ·by_cases h1:b=l
  ·rw[h1];exact⟨_,AH⟩
  ·rw[Ah h1] at e2 ⊢
   by_cases h2:∃r∈rs,r.1=b
   ·obtain⟨r,hr,rfl⟩:=h2
    rw[he r hr] at e1;cases e1
   ·rw[Ds fun r hr z=>h2 ⟨r,hr,z⟩] at e2
    exact⟨_,e2⟩
end
theorem JC{Z:Zx}{ρ:List (Option T)}{O:AM}{elt tg iter:Expr}{ifs:List Expr}{csc:Scope}{nc:List Str}{cap:List (Str×Nat)}{pos:Pos}{i:Nat}{x:Str}{px spos:Pos}{Ψ:Es}(hsw:qx (.ListComp elt [⟨tg,iter,ifs,0⟩] csc pos) (some (.Name x px)) spos.line Z.X.env=pure true)(hN:Z.X.N.Nodup)(hc:Z.X.calm=true)(ok:LcOk Z.X csc nc cap)
  (h:WI Z ρ O tg iter (Vi Z ρ elt tg ifs csc nc cap fun acc O'=>∀a,O' a=none→Ψ.nx (ρ.set i (some (.raw (.ref a)))) (Ap O' a acc))) (hx:Z.X.N[i]?=some x:=by rfl) (hk:Z.X.env.scope.names.lookup x=some .local:=by rfl)
  (hs:∀x,lU iter Z.X.env x=pure x:=by intro _;rfl):WS Z ρ O (.Assign [.Name x px] (.ListComp elt [⟨tg,iter,ifs,0⟩] csc pos) spos) Ψ:=
 PS.weak (LJ hN hx hk hsw hc ok h ZS Sa ZT hs) fun D σ H q=>Sb q.1 h fun acc O' p H' p1 n f nb=>q.2.nx _ _ _ H' (p1 p n) ⟨(q.1.step f).rl.set (.raw _),(q.1.step f).fr⟩ f.kp
end L2.TL
namespace Gr
open L2.TL
variable{ps:List (Int×Int)}{n:Int}{S:List Int}{v u:Int}{d e s k:Nat}{fs gs:List (Option Nat)}{BK ds:List Int}
noncomputable def Adj(ps:List (Int×Int))(u v:Int):Prop:=(u,v)∈ps∨(v,u)∈ps
theorem Adj.symm(h:Adj ps u v):Adj ps v u:=Or.symm h
noncomputable def JD(n:Int)(ps:List (Int×Int)):Prop:=∀p∈ps,0≤p.1∧p.1<p.2∧p.2<n
theorem Adj.inb(hw:JD n ps)(h:Adj ps u v):0≤v∧v<n∧u≠v:=by
 rcases h with h|h
 ·have:=hw _ h
  simp only at this
  omega
 ·have:=hw _ h
  simp only at this
  omega
theorem Nc{L:List Int}(h:L.Nodup)(hb:∀z∈L,0≤z∧z<n):L.length≤n.toNat:=by
 have key:∀L:List Int,L.Nodup→(∀z∈L,0≤z∧z<n)→(L.map Int.toNat).Nodup:=by
  intro L
  induction L with
  |nil=>intro _ _;simp
  |cons a L ih=>
   intro h hb
   rw[kg] at h
   rw[jr,kg]
   refine⟨fun hm=>?_,ih h.2 fun z hz=>hb z (jn _ hz)⟩
   obtain⟨z,hz,e⟩:=jl.mp hm
   have h1:=hb z (jn _ hz)
   have h2:=hb a (j9 ..)
   have:z=a:=by omega
   subst this
   exact h.1 hz
 have:=StT.Cd n.toNat (L.map Int.toNat) (key L h hb) (fun x hx=>by
  obtain⟨z,hz,rfl⟩:=jl.mp hx
  have:=hb z hz
  omega)
 rw[e7] at this
 exact this
end Gr
namespace L2.TL
open PySem PySem.Spec PyProof.Rows
section
variable{X:Cx}
end
section
variable{Z:Zx}{ρ:List (Option T)}{O:AM}{a b:Expr}{t:T}{Φ:Bf}{pos:Pos}{i:Int}
end
section
variable{Z:Zx}{ρ:List (Option T)}{O:AM}{body:List Stmt}{Ψ:Es}{pos:Pos}
end
end L2.TL
namespace L2
open PySem PySem.Spec PyProof.Rows
section
variable{X:Cx}
end
end L2
namespace L2.TL
open PySem PySem.Spec PyProof.Rows
section
variable{Z:Zx}{ρ:List (Option T)}{O:AM}{a:Expr}{ts:List T}{p pos:Pos}
end
section
variable{Z:Zx}{ρ:List (Option T)}{O:AM}{elt tg iter:Expr}{csc:Scope}{nc:List Str}{cap:List (Str×Nat)}{pos:Pos}
end
open PySem.Calls
section
variable{X:Cx}
end
section
variable{Z:Zx}{ρ:List (Option T)}{O:AM}{e a b hi:Expr}{p p2 pos:Pos}{t:T}{ts:List T}{i:Int}{Φ:Bf}
end
end L2.TL
namespace L2
open PySem PySem.Spec PySem.Calls PyProof.Rows
section
variable{prog:Program}{w:World}{A:js}{E:Value→c9→Prop}{s:c9}
end
section
variable{X:Cx}
end
end L2
namespace L2.TL
open PySem PySem.Spec PyProof.Rows
section
variable{Z:Zx}{ρ:List (Option T)}{O:AM}{e o:Expr}{Φ:Bf}{p pos apos cpos:Pos}{ns:List Int}{i:Int}{j:Nat}
theorem Lu(hj:ns[j]?=some i)(hno:∀(m:Nat) (z:Int),m<j→ns[m]?=some z→z≠i)(h:ET Z ρ O o (.lst (ns.map T.int)))(h2:ET Z ρ O e (.int i))(hbase:p7 o "index" Z.X.env (eval o Z.X.env)=eval o Z.X.env:=by rfl)
  (hfew:((mM cpos (i7 [e] Z.X.env)).all (fun x=>!x.1)&&(sR cpos (qL [] Z.X.env)).all (fun x=>x.1.isSome)&&decide ([e].length+([]:List p9).length+(if([]:List p9).isEmpty then 0 else 1)<30))=true:=by rfl) (hline:(apos.endLine==cpos.line)=true:=by rfl)
  (hs:i7 [e] Z.X.env=(false,eval e Z.X.env)::i7 [] Z.X.env:=by rfl) (hplain:(mM cpos (i7 [] Z.X.env)).any (·.1)=false:=by rfl):
  ET Z ρ O (.Call (.Attribute o "index" apos) [e] [] cpos) (.int (j:Nat)):=fun Φ q=>
 SX pA PySem.F.slot_list_index PySem.F.type_list_index Rj (ET.we h ⟨Vh,EA.wa (AQ h2 AB hs) fun H v vs Q ok r1 r2 acc=>by
  obtain⟨a,xs,rfl,h1,_,r1⟩:=r1.lst_inv
  obtain⟨u,rfl,r3⟩:=r2.one_inv
  cases r3.int_inv
  cases r1.ints
  refine⟨a,_,_,j,rfl,rfl,.inl (.inl h1),rfl,Ff,⟨.int i,by rw[e9,hj];rfl,?_⟩,fun m z hm ez=>?_,acc _ _ _ O q (.refl ok) (.int _)⟩
  ·show(i==i)=true
   simp
  ·rw[e9] at ez
   cases y:ns[m]? with
   |none=>rw[y] at ez;cases ez
   |some w=>rw[y] at ez;cases ez;show(w==i)=false;simpa using hno m w hm y⟩) hbase hfew hline hs hplain
end
end L2.TL
namespace SrtG
open PySem PySem.Calls PySem.W PyProof.Rows
variable{prog:Program}{w:World}{A:js}{E:Value→c9→Prop}{s:c9}
end SrtG
namespace L2
open PySem PySem.Spec PySem.Calls PyProof.Rows SrtG
section
variable{prog:Program}{w:World}{A:js}{E:Value→c9→Prop}{s:c9}{U:Heap→Value→Prop}{rk:Heap→Value→Int}{T:Value}
end
section
variable{X:Cx}{pins:List (Addr×Obj)}{σ:St}{H:Hp}{s:c9}
end
end L2
namespace L2.TL
open PySem PySem.Spec PyProof.Rows SrtG
section
variable{K:b9}{O:AM}{H:Hp}
end
section
variable{Z:Zx}{ρ:List (Option T)}{O:AM}{e:Expr}{Φ:Bf}{p pos:Pos}{ks:List Kd}
end
end L2.TL
namespace L2
open PySem PySem.Spec PySem.Calls PyProof.Rows
section
variable{X:Cx}
end
end L2
namespace L2.TL
open PySem PySem.Spec PySem.Calls PyProof.Rows
section
variable{K:b9}{O:AM}{H H':Hp}
end
section
variable{Z:Zx}{ρ:List (Option T)}{O:AM}{e a b:Expr}{Φ:Bf}{p pos:Pos}{d:Addr}{qs:List (Str×T)}{x:Str}{t:T}
end
section
variable{Z:Zx}{ρ:List (Option T)}{O:AM}{a b tg:Expr}{i j:Int}{pos:Pos}{n:Str}{ad:Addr}{xs:List V}
end
section
variable{Z:Zx}{ρ:List (Option T)}{O:AM}{x y z:Str}{p1 p2 p3 pos:Pos}{k:Nat}{ad:Addr}{w:Str}{l m':Int}
end
end L2.TL
namespace GrR
open L2.TL
variable{R:Int→Int→Prop}{n:Int}{S:List Int}{v u:Int}{d e s k:Nat}{fs gs:List (Option Nat)}{BK ds:List Int}
inductive W(R:Int→Int→Prop)(S:List Int):Nat→Int→Prop
 |at{v:Int}:v∈S→W R S 0 v
 |go {k:Nat} {u v:Int}:W R S k u→R u v→W R S (k+1) v
noncomputable def IsD(R:Int→Int→Prop)(S:List Int)(v:Int)(d:Nat):Prop:=W R S d v∧∀j,j<d→¬W R S j v
theorem IsD.uniq(a:IsD R S v d)(b:IsD R S v e):d=e:=by
 rcases nG d e with h|h|h
 ·exact absurd a.1 (b.2 d h)
 ·exact h
 ·exact absurd b.1 (a.2 e h)
theorem W.least(h:W R S k v):∃d,d≤k∧IsD R S v d:=by
 induction k using Nat.strongRecOn with
 |_ k ih=>
  by_cases hx:∃j,j<k∧W R S j v
  ·obtain⟨j,hj,w⟩:=hx
   obtain⟨d,hd,i⟩:=ih j hj w
   exact⟨d,by omega,i⟩
  ·exact⟨k,jb _,h,fun j hj w=>hx ⟨j,hj,w⟩⟩
theorem IsD.prev(h:IsD R S v (s+1)):∃u,IsD R S u s∧R u v:=by
 obtain⟨w,m⟩:=h
 cases w with
 |go w a=>exact⟨_,⟨w,fun j hj w'=>m (j+1) (by omega) (.go w' a)⟩,a⟩
theorem IsD.down(h:IsD R S v (s+k)):∃u,IsD R S u s:=by
 induction k generalizing v with
 |zero=>exact⟨v,h⟩
 |succ k ih=>
  obtain⟨u,hu,_⟩:=IsD.prev (s:=s+k) h
  exact ih hu
noncomputable def dJ(n:Int)(R:Int→Int→Prop):Prop:=∀u v,R u v→0≤v∧v<n
theorem W.inb(hw:dJ n R)(hS:∀z∈S,0≤z∧z<n)(h:W R S k v):0≤v∧v<n:=by
 cases h with
 |«at» h=>exact hS _ h
 |go _ a=>exact hw _ _ a
theorem IsD.lt(hw:dJ n R)(hS:∀z∈S,0≤z∧z<n)(h:IsD R S v s):(s:Int)<n:=by
 have key:∃L:List Nat,L.length=s+1∧L.Nodup∧∀u∈L,∃i,i≤s∧IsD R S (u:Int) i:=by
  induction s generalizing v with
  |zero=>
   have:=h.1.inb hw hS
   refine⟨[v.toNat],rfl,by simp,fun u hu=> ⟨0,jb _,?_⟩⟩
   rw[jd.mp hu,qq this.1]
   exact h
  |succ s ih=>
   obtain⟨u,hu,_⟩:=h.prev
   obtain⟨L,l1,l2,l3⟩:=ih hu
   have hb:=h.1.inb hw hS
   refine⟨v.toNat::L,by simp[l1],kg.mpr ⟨fun hm=>?_,l2⟩,fun z hz=>?_⟩
   ·obtain⟨i,hi,q⟩:=l3 _ hm
    rw[qq hb.1] at q
    have:=q.uniq h
    omega
   ·rcases i6.mp hz with rfl|hz
    ·exact⟨s+1,jb _,by rw[qq hb.1];exact h⟩
    ·obtain⟨i,hi,q⟩:=l3 z hz
     exact⟨i,by omega,q⟩
 obtain⟨L,l1,l2,l3⟩:=key
 have:=StT.Cd n.toNat L l2 (fun x hx=>by
  obtain⟨i,_,q⟩:=l3 x hx
  have:=q.1.inb hw hS
  omega)
 omega
structure Fr(n:Int)(R:Int→Int→Prop)(S:List Int)(s:Nat)(fs:List (Option Nat)):Prop where
 len:(fs.length:Int)=n
 eq:∀v:Int,0≤v→v<n→∀d,fs[v.toNat]?=some (some d)↔(d≤s∧IsD R S v d)
structure All(n:Int)(R:Int→Int→Prop)(S:List Int)(fs:List (Option Nat)):Prop where
 len:(fs.length:Int)=n
 eq:∀v:Int,0≤v→v<n→∀d,fs[v.toNat]?=some (some d)↔IsD R S v d
theorem Fr.all_end(h:Fr n R S s fs)(e:∀v,¬IsD R S v s):All n R S fs:=⟨h.len,fun v v0 v1 d=>by
 rw[h.eq v v0 v1 d]
 refine⟨fun z=>z.2,fun z=> ⟨?_,z⟩⟩
 by_cases hd:d≤s
 ·exact hd
 ·obtain⟨k,rfl⟩:∃k,d=s+k:=⟨d-s,by omega⟩
  obtain⟨u,hu⟩:=z.down
  exact absurd hu (e u)⟩
theorem Vw(hl:(fs.length:Int)=n)(h:∀v:Int,0≤v→v<n→∀d,fs[v.toNat]?=some (some d)↔(d=0∧v∈S)):Fr n R S 0 fs:=⟨hl,fun v v0 v1 d=>by
 rw[h v v0 v1 d]
 constructor
 ·rintro⟨rfl,hv⟩
  exact⟨jb _,.at hv,fun j hj=>by omega⟩
 ·rintro⟨hd,w,_⟩
  have:d=0:=by omega
  subst this
  cases w with
  |«at» h=>exact⟨rfl,h⟩⟩
structure Mid(n:Int)(R:Int→Int→Prop)(S:List Int)(s:Nat)(fs:List (Option Nat))(BK ds:List Int):Prop where
 len:(fs.length:Int)=n
 eq:∀v:Int,0≤v→v<n→∀d,fs[v.toNat]?=some (some d)↔((d≤s∧IsD R S v d)∨(d=s+1∧v∈BK))
 sub:∀v∈BK,IsD R S v (s+1)
 dn:∀v∈ds,0≤v∧v<n∧∃d,fs[v.toNat]?=some (some d)
theorem Fr.mid(h:Fr n R S s fs):Mid n R S s fs [] []:=⟨h.len,fun v v0 v1 d=>by
 rw[h.eq v v0 v1 d]
 simp,(fun _ h=>by cases h),(fun _ h=>by cases h)⟩
theorem Mid.miss(m:Mid n R S s fs BK ds)(v0:0≤v)(v1:v<n)(h:fs[v.toNat]?=some (some d)):Mid n R S s fs BK (ds++[v]):=⟨m.len,m.eq,m.sub,fun z hz=>by
 rcases ju.mp hz with hz|hz
 ·exact m.dn z hz
 ·rw[jd.mp hz];exact⟨v0,v1,d,h⟩⟩
theorem Mid.hit(m:Mid n R S s fs BK ds)(v0:0≤v)(v1:v<n)(hn:fs[v.toNat]?=some none)(hu:IsD R S u s)(a:R u v):Mid n R S s (fs.set v.toNat (some (s+1))) (BK++[v]) (ds++[v]):=by
 have hl:=m.len
 have hlt:v.toNat<fs.length:=by omega
 have iv:IsD R S v (s+1):=by
  refine⟨.go hu.1 a,fun j hj w=>?_⟩
  obtain⟨d,hd,i⟩:=w.least
  have:=(m.eq v v0 v1 d).mpr (.inl ⟨by omega,i⟩)
  rw[hn] at this
  cases this
 have key:∀w:Int,0≤w→w<n→w≠v→(fs.set v.toNat (some (s+1)))[w.toNat]?=fs[w.toNat]?:=fun w w0 w1 h=>jx (by omega)
 refine⟨by rw[nA];exact hl,fun w w0 w1 d=>?_,fun w hw=>?_,fun w hw=>?_⟩
 ·by_cases h:w=v
  ·subst h
   rw[ky hlt]
   constructor
   ·intro z
    have:d=s+1:=by cases z;rfl
    exact .inr ⟨this,by simp⟩
   ·rintro(z|z)
    ·have:=z.2.uniq iv
     omega
    ·rw[z.1]
  ·rw[key w w0 w1 h,m.eq w w0 w1 d]
   have:w∈BK++[v]↔w∈BK:=by simp[h]
   rw[this]
 ·rcases ju.mp hw with hw|hw
  ·exact m.sub w hw
  ·rw[jd.mp hw];exact iv
 ·rcases ju.mp hw with hw|hw
  ·obtain⟨w0,w1,d,hd⟩:=m.dn w hw
   refine⟨w0,w1,?_⟩
   by_cases h:w=v
   ·subst h;exact⟨_,ky hlt⟩
   ·exact⟨d,by rw[key w w0 w1 h];exact hd⟩
  ·rw[jd.mp hw];exact⟨v0,v1,_,ky hlt⟩
theorem Mid.done(m:Mid n R S s fs BK ds)(h:∀u v,IsD R S u s→R u v→v∈ds):Fr n R S (s+1) fs∧∀v,v∈BK↔IsD R S v (s+1):=by
 have key:∀v,IsD R S v (s+1)→v∈BK:=fun v i=>by
  obtain⟨u,hu,a⟩:=i.prev
  obtain⟨v0,v1,d,hd⟩:=m.dn v (h u v hu a)
  rcases(m.eq v v0 v1 d).mp hd with z|z
  ·have:=z.2.uniq i
   omega
  ·exact z.2
 refine⟨⟨m.len,fun v v0 v1 d=>?_⟩,fun v=> ⟨m.sub v,key v⟩⟩
 rw[m.eq v v0 v1 d]
 constructor
 ·rintro(z|z)
  ·exact⟨by omega,z.2⟩
  ·rw[z.1];exact⟨jb _,m.sub v z.2⟩
 ·rintro⟨h1,h2⟩
  by_cases hd:d≤s
  ·exact .inl ⟨hd,h2⟩
  ·have:d=s+1:=by omega
   subst this
   exact .inr ⟨rfl,key v h2⟩
theorem Mid.fresh(m:Mid n R S s fs BK ds)(v0:0≤v)(v1:v<n)(hn:fs[v.toNat]?=some none):v∉BK:=fun h=>by
 have:=(m.eq v v0 v1 (s+1)).mpr (.inr ⟨rfl,h⟩)
 rw[hn] at this
 cases this
variable{R D L:Int→Int→Prop}{n:Int}{S:List Int}{u v a b:Int}{d k:Nat}{fs:List (Option Nat)}
open Classical in
noncomputable def Jz (R:Int→Int→Prop) (S:List Int) (v:Int):Option Nat:=if h:∃d,IsD R S v d then some (choose h) else none
theorem Df(h:IsD R S v d):Jz R S v=some d:=by
 unfold Jz
 have hx:∃d,IsD R S v d:=⟨d,h⟩
 rw[dif_pos hx]
 exact congrArg some ((Classical.choose_spec hx).uniq h)
theorem GS:Jz R S v=some d↔IsD R S v d:=by
 refine⟨fun e=>?_,Df⟩
 unfold Jz at e
 split at e
 ·rename_i h
  cases e
  exact Classical.choose_spec h
 ·cases e
theorem JE{S':List Int}{v':Int}{R':Int→Int→Prop}(h:∀d,IsD R S v d↔IsD R' S' v' d):Jz R S v=Jz R' S' v':=by
 cases e:Jz R S v with
 |some d=>exact(Df ((h d).mp (GS.mp e))).symm
 |none=>
  cases e':Jz R' S' v' with
  |none=>rfl
  |some d=>rw[Df ((h d).mpr (GS.mp e'))] at e;cases e
theorem All.get(al:All n R S fs)(v0:0≤v)(v1:v<n):fs[v.toNat]?=some (Jz R S v):=by
 have hl:=al.len
 have hlt:v.toNat<fs.length:=by omega
 cases e:Jz R S v with
 |some d=>exact(al.eq v v0 v1 d).mpr (GS.mp e)
 |none=>
  rw[i8 hlt]
  cases z:fs[v.toNat] with
  |none=>rfl
  |some d=>
   have:=(al.eq v v0 v1 d).mp (by rw[i8 hlt,z])
   rw[Df this] at e
   cases e
theorem W.mono(h:∀u v,L u v→D u v)(w:W L S k v):W D S k v:=by
 induction w with
 |«at» h=>exact .at h
 |go _ a ih=>exact .go ih (h _ _ a)
theorem W.cut(h:∀u v,D u v→L u v∨u=b)(w:W D S k v):W L S k v∨∃j,j<k∧W L S j b:=by
 induction w with
 |«at» h=>exact .inl (.at h)
 | @go k u v w a ih=>
  rcases ih with w'| ⟨j,hj,w'⟩
  ·rcases h _ _ a with l|rfl
   ·exact .inl (.go w' l)
   ·exact .inr ⟨k,by omega,w'⟩
  ·exact .inr ⟨j,by omega,w'⟩
theorem Vx(h1:∀u v,L u v→D u v)(h2:∀u v,D u v→L u v∨u=b):IsD D S b d↔IsD L S b d:=by
 constructor
 ·rintro⟨w,m⟩
  refine⟨?_,fun j hj w'=>m j hj (w'.mono h1)⟩
  rcases w.cut h2 with w'| ⟨j,hj,w'⟩
  ·exact w'
  ·exact absurd (w'.mono h1) (m j hj)
 ·rintro⟨w,m⟩
  refine⟨w.mono h1,fun j hj w'=>?_⟩
  rcases w'.cut h2 with w'| ⟨i,hi,w'⟩
  ·exact m j hj w'
  ·exact m i (by omega) w'
theorem W.consR{p q:Int}(a:R p q)(h:W R [q] k v):W R [p] (k+1) v:=by
 induction h with
 |«at» h=>rw[jd.mp h];exact .go (.at (by simp)) a
 |go _ b ih=>exact .go ih b
theorem W.rev(sy:∀u v,R u v→R v u)(h:W R [a] k v):W R [v] k a:=by
 induction h with
 |«at» h=>rw[jd.mp h];exact .at (by simp)
 |go _ b ih=>exact .consR (sy _ _ b) ih
theorem Vy(sy:∀u v,R u v→R v u):IsD R [a] b d↔IsD R [b] a d:=
 ⟨fun h=> ⟨h.1.rev sy,fun j hj w=>h.2 j hj (w.rev sy)⟩,fun h=> ⟨h.1.rev sy,fun j hj w=>h.2 j hj (w.rev sy)⟩⟩
variable{R:Int→Int→Prop}{a b p q:Int}{L M:List Int}{k d s:Nat}
noncomputable def Ch(R:Int→Int→Prop):List Int→Prop
 |a::b::L=>R a b∧Ch R (b::L)
 |_=>True
theorem Ch.tail(h:Ch R (a::L)):Ch R L:=by
 cases L with
 |nil=>trivial
 |cons b L=>exact h.2
theorem Hm:Ch R (L++a::M)↔Ch R (L++[a])∧Ch R (a::M):=by
 induction L with
 |nil=>exact⟨fun h=> ⟨trivial,h⟩,fun h=>h.2⟩
 |cons x L ih=>
  cases L with
  |nil=>exact⟨fun h=> ⟨⟨h.1,trivial⟩,h.2⟩,fun h=> ⟨h.1.1,h.2⟩⟩
  |cons y L=>
   constructor
   ·intro h
    have:=ih.mp h.2
    exact⟨⟨h.1,this.1⟩,this.2⟩
   ·intro h
    exact⟨h.1.1,ih.mpr ⟨h.1.2,h.2⟩⟩
theorem GT:Ch R (L++[a]++[b])↔Ch R (L++[a])∧R a b:=by
 rw[k4]
 exact Hm.trans ⟨fun h=> ⟨h.1,h.2.1⟩,fun h=> ⟨h.1,h.2,trivial⟩⟩
theorem Sq(sy:∀u v,R u v→R v u):∀{L:List Int},Ch R L→Ch R L.reverse
 | [],_=>trivial
 | [a],_=>trivial
 |a::b::L,h=>by
  have:=Sq sy h.2
  rw[pM,pM] at*
  exact GT.mpr ⟨this,sy _ _ h.1⟩
structure Ring(R:Int→Int→Prop)(L:List Int):Prop where
 len:3≤L.length
 nd:L.Nodup
 ch:Ch R L
 cl:∀a z,L.head?=some a→L.getLast?=some z→R z a
theorem Lv(sy:∀u v,R u v→R v u):∀{p q:List Int} {a z:Int},Ch R (a::p)→Ch R (a::q)→(a::p).Nodup→(a::q).Nodup→(a::p).getLast?=some z→(a::q).getLast?=some z→p≠q→∃L,Ring R L∧L.length≤p.length+q.length
 | [],[],a,z,_,_,_,_,_,_,ne=>absurd rfl ne
 | [],c::q,a,z,_,_,_,nq,lp,lq,_=>by
  have e:z=a:=by simpa using lp.symm
  subst e
  rw[mw] at lq
  exact absurd (lJ lq) (kg.mp nq).1
 |b::p,[],a,z,_,_,np,_,lp,lq,_=>by
  have e:z=a:=by simpa using lq.symm
  subst e
  rw[mw] at lp
  exact absurd (lJ lp) (kg.mp np).1
 |b::p,c::q,a,z,hp,hq,np,nq,lp,lq,ne=>by
  rw[mw] at lp lq
  by_cases e:b=c
  ·subst e
   obtain⟨L,r,l⟩:=Lv sy hp.2 hq.2 (kg.mp np).2 (kg.mp nq).2 lp lq (fun z=>ne (by rw[z]))
   exact⟨L,r,by simp only[jm];omega⟩
  ·--the first of the second way that lies on the first
   have key:∀Q:List Int,(∃m∈Q,m∈b::p)→∃x m y,Q=x++m::y∧m∈b::p∧∀t∈x,t∉b::p:=by
    intro Q
    induction Q with
    |nil=>rintro⟨m,hm,_⟩;cases hm
    |cons t Q ih=>
     intro h
     by_cases ht:t∈b::p
     ·exact⟨[],t,Q,rfl,ht,fun _ h=>by cases h⟩
     ·obtain⟨m,hm,hm2⟩:=h
      rcases i6.mp hm with rfl|hm
      ·exact absurd hm2 ht
      ·obtain⟨x,m,y,e,h1,h2⟩:=ih ⟨m,hm,hm2⟩
       refine⟨t::x,m,y,by rw[e];rfl,h1,fun u hu=>?_⟩
       rcases i6.mp hu with rfl|hu
       ·exact ht
       ·exact h2 u hu
   obtain⟨x,m,y,eq,hm,hx⟩:=key (c::q) ⟨z,lJ lq,lJ lp⟩
   obtain⟨u,v,ep⟩:=List.append_of_mem hm
   have ha1:=(kg.mp np).1
   have ha2:=(kg.mp nq).1
   have n1:=(kg.mp np).2
   have n2:=(kg.mp nq).2
   rw[eq] at ha2 n2 hq
   have hum:∀t,t∈u++[m]→t∈b::p:=fun t ht=>by
    rw[ep];simp only[ju,i6,jk,or_false] at ht ⊢;rcases ht with h|h
    ·exact .inl h
    ·exact .inr (.inl h)
   have l1:(b::p).length=u.length+(v.length+1):=by rw[ep];simp
   have l2:(c::q).length=x.length+(y.length+1):=by rw[eq];simp
   simp only[jm] at l1 l2
   refine⟨a::(u++[m]++x.reverse),⟨?_,?_,?_,?_⟩,?_⟩
   ·simp only[jm,jf,List.length_reverse,lB]
    cases u with
    |cons _ _=>simp only[jm];omega
    |nil=>
     cases x with
     |cons _ _=>simp only[jm];omega
     |nil=>
      have e1:b=m:=by simpa using(tT.inj ep).1
      have e2:c=m:=by simpa using(tT.inj eq).1
      exact absurd (e1.trans e2.symm) e
   ·rw[kg]
    refine⟨fun h=>?_,?_⟩
    ·rcases ju.mp h with h|h
     ·exact ha1 (hum _ h)
     ·exact ha2 (mq _ (List.mem_reverse.mp h))
    ·rw[kS]
     rw[ep] at n1
     refine⟨?_,List.pairwise_reverse.mpr ((kS.mp n2).1.imp Ne.symm),fun t ht w hw e=>hx w (List.mem_reverse.mp hw) (e▸hum t ht)⟩
     have:=kS.mp (show(u++m::v).Nodup from n1)
     rw[kS]
     exact⟨this.1,by simp,fun t ht w hw=>this.2.2 t ht w (by rw[jd.mp hw];simp)⟩
   ·have h1:Ch R ((a::u)++[m]):=(Hm (M:=v)).mp (by rw[oK,←ep];exact hp)|>.1
    have h2:Ch R (m::x.reverse):=by
     have:Ch R (x++[m]):=((Hm (L:=a::x) (M:=y)).mp hq).1.tail
     have:=Sq sy this
     rwa[qo] at this
    have:=(Hm (L:=a::u) (a:=m) (M:=x.reverse)).mpr ⟨h1,h2⟩
    rwa[show a::(u++[m]++x.reverse)=(a::u)++m::x.reverse by simp]
   ·intro a' z' h1 h2
    have:a'=a:=by simpa using h1.symm
    subst this
    cases x with
    |nil=>
     have e2:c=m:=by simpa using(tT.inj eq).1
     have:z'=m:=by
      rw[List.reverse_nil,mj,←oK,List.getLast?_append] at h2
      simpa using h2.symm
     rw[this]
     exact sy _ _ hq.1
    |cons t x=>
     have:z'=t:=by
      rw[pM,←k4,←oK,List.getLast?_append] at h2
      simpa using h2.symm
     rw[this]
     exact sy _ _ hq.1
   ·simp only[jm,jf,List.length_reverse,lB]
    omega
theorem Vz(h:IsD R [p] q d):∃L,L.length=d+1∧L.head?=some p∧L.getLast?=some q∧L.Nodup∧Ch R L∧∀x∈L,∃i,i≤d∧IsD R [p] x i:=by
 induction d generalizing q with
 |zero=>
  have:q=p:=by
   cases h.1 with
   |«at» h=>exact jd.mp h
  subst this
  exact⟨[q],rfl,rfl,rfl,by simp,trivial,fun x hx=>by rw[jd.mp hx];exact⟨0,jb _,h⟩⟩
 |succ d ih=>
  obtain⟨u,hu,r⟩:=h.prev
  obtain⟨L,l1,l2,l3,l4,l5,l6⟩:=ih hu
  obtain⟨M,rfl⟩:∃M,L=M++[u]:=l7.mp l3
  refine⟨M++[u]++[q],by simp only[jf,jm,lB] at l1 ⊢;omega,?_,by simp,?_,GT.mpr ⟨l5,r⟩,fun x hx=>?_⟩
  ·rw[pP,l2];rfl
  ·rw[kS]
   refine⟨l4,by simp,fun x hx y hy e=>?_⟩
   rw[jd.mp hy] at e
   subst e
   obtain⟨i,hi,hd⟩:=l6 x hx
   have:=hd.uniq h
   omega
  ·rcases ju.mp hx with hx|hx
   ·obtain⟨i,hi,hd⟩:=l6 x hx
    exact⟨i,by omega,hd⟩
   ·rw[jd.mp hx];exact⟨d+1,jb _,h⟩
theorem dM:∀{L:List Int} {p q:Int},Ch R (p::L)→(p::L).getLast?=some q→W R [p] L.length q
 | [],p,q,_,h=>by
  have:q=p:=by simpa using h.symm
  rw[this];exact .at (by simp)
 |b::L,p,q,hc,h=>by
  rw[mw] at h
  exact .consR hc.1 (dM hc.2 h)
theorem KA{i:Nat}(h:Ch R L):Ch R (L.take i):=by
 by_cases hi:i<L.length
 ·have e:L=L.take i++L[i]::L.drop (i+1):=by rw[pQ,kU]
  rw[e] at h
  have h1:=(Hm.mp h).1
  generalize L.take i=A at*
  clear e h
  induction A with
  |nil=>trivial
  |cons x A ih=>
   cases A with
   |nil=>trivial
   |cons y A=>exact⟨h1.1,ih h1.2⟩
 ·rw[oa (by omega)];exact h
theorem Ov{i:Nat}(h:Ch R L):Ch R (L.drop i):=by
 induction i generalizing L with
 |zero=>exact h
 |succ i ih=>
  cases L with
  |nil=>trivial
  |cons a L=>exact ih h.tail
variable{R:Int→Int→Prop}{nb:Int→List Int}{c:Nat→Int→Bool}{a b p q v:Int}{L M r:List Int}{rs:List (List Int)}{k d s:Nat}{n:Int}
noncomputable def lst(r:List Int):Int:=r.getLastD 0
noncomputable def Zh(nb:Int→List Int)(c:Int→Bool)(r:List Int):List (List Int):=((nb (lst r)).filter fun v=>c v&&!decide (v∈r)).map fun v=>r++[v]
noncomputable def IT(nb:Int→List Int)(c:Int→Bool)(rs:List (List Int)):List (List Int):=rs.flatMap (Zh nb c)
noncomputable def Kv(nb:Int→List Int)(c:Nat→Int→Bool)(p:Int):Nat→List (List Int)
 |0=> [[p]]
 |k+1=>IT nb (c (k+1)) (Kv nb c p k)
structure Way(R:Int→Int→Prop)(c:Nat→Int→Bool)(p:Int)(k:Nat)(r:List Int):Prop where
 len:r.length=k+1
 hd:r.head?=some p
 nd:r.Nodup
 ch:Ch R r
 ok:∀i v,1≤i→r[i]?=some v→c i v=true
theorem Zi(h:r.getLast?=some a):lst r=a:=by
 unfold lst
 rw[List.getLastD_eq_getLast?,h];rfl
theorem Dg(h:r≠[]):r.getLast?=some (lst r):=by
 cases e:r.getLast? with
 |none=>exact absurd (List.getLast?_eq_none_iff.mp e) h
 |some a=>rw[Zi e]
theorem Ew(hR:∀u v,v∈nb u↔R u v):r∈Kv nb c p k↔Way R c p k r:=by
 induction k generalizing r with
 |zero=>
  constructor
  ·intro h
   rw[jd.mp h]
   exact⟨rfl,rfl,by simp,trivial,fun i v hi h=>by
    cases i with
    |zero=>omega
    |succ i=>cases h⟩
  ·rintro⟨h1,h2,_⟩
   match r,h1,h2 with
   | [x],_,h2=>
    have:x=p:=by simpa using h2
    rw[this];exact jd.mpr rfl
 |succ k ih=>
  constructor
  ·intro h
   obtain⟨r',hr',h⟩:=nU.mp h
   obtain⟨v,hv,rfl⟩:=jl.mp h
   obtain⟨hv1,hv2⟩:=jo.mp hv
   rw[km] at hv2
   have hv3:v∉r':=by simpa using hv2.2
   obtain⟨w1,w2,w3,w4,w5⟩:=ih.mp hr'
   have hne:r'≠[]:=fun z=>by rw[z] at w1;cases w1
   obtain⟨M,e⟩:=l7.mp (Dg hne)
   refine⟨by rw[jf,w1];rfl,by rw[pP,w2];rfl,?_,?_,fun i u hi h=>?_⟩
   ·rw[kS]
    exact⟨w3,by simp,fun x hx y hy e=>hv3 (by rw[←jd.mp hy,←e];exact hx)⟩
   ·rw[e]
    exact GT.mpr ⟨e▸w4,(hR _ _).mp hv1⟩
   ·by_cases hl:i<r'.length
    ·rw[jz hl] at h
     exact w5 i u hi h
    ·rw[jw (by omega)] at h
     have:i-r'.length=0:=by
      cases z:i-r'.length with
      |zero=>rfl
      |succ z'=>rw[z] at h;simp at h
     rw[this] at h
     have hu:v=u:=by simpa using h
     have hi2:i=k+1:=by omega
     rw[←hu,hi2];exact hv2.1
  ·rintro⟨w1,w2,w3,w4,w5⟩
   have hne:r≠[]:=fun z=>by rw[z] at w1;cases w1
   obtain⟨M,e⟩:=l7.mp (Dg hne)
   generalize lst r=v at e
   subst e
   have hlM:M.length=k+1:=by simpa using w1
   have hneM:M≠[]:=fun z=>by rw[z] at hlM;cases hlM
   obtain⟨N,eN⟩:=l7.mp (Dg hneM)
   rw[kS] at w3
   have hadj:R (lst M) v:=by
    have:Ch R (N++[lst M]++[v]):=by rw[←eN];exact w4
    exact(GT.mp this).2
   refine nU.mpr ⟨M,ih.mpr ⟨hlM,?_,w3.1,?_,fun i u hi h=>?_⟩,jl.mpr ⟨v,jo.mpr ⟨(hR _ _).mpr hadj,?_⟩,rfl⟩⟩
   ·rw[pP] at w2
    cases M with
    |nil=>exact absurd rfl hneM
    |cons x M=>exact w2
   ·have:=KA (i:=M.length) w4
    rwa[List.take_left] at this
   ·refine w5 i u hi ?_
    rw[jz (jc.mp h).1];exact h
   ·rw[km]
    refine⟨w5 (k+1) v (by omega) ?_,by simpa using fun h=>w3.2.2 v h v (by simp) rfl⟩
    rw[jw (by omega),hlM];simp
noncomputable def rk(r:List Int):Int:=r.foldl (fun a v=>a*32+v) 0
theorem GU:rk (r++[v])=rk r*32+v:=by unfold rk;rw[List.foldl_append];rfl
theorem Nd{c:Int→Bool}(hs:∀u,(nb u).Pairwise (· < ·))(hb:∀u v,v∈nb u→0≤v∧v<32)(h:rs.Pairwise fun x y=>rk x<rk y):(IT nb c rs).Pairwise fun x y=>rk x<rk y:=by
 unfold IT
 rw[List.pairwise_flatMap]
 refine⟨fun r _=>?_,pR (fun{x y} hxy=>?_) h⟩
 ·unfold Zh
  rw[mE]
  refine pR (fun{u v} huv=>?_) ((hs (lst r)).filter _)
  rw[GU,GU];omega
 ·intro x' hx' y' hy'
  obtain⟨u,hu,rfl⟩:=jl.mp hx'
  obtain⟨v,hv,rfl⟩:=jl.mp hy'
  have:=hb _ _ (jo.mp hu).1
  have:=hb _ _ (jo.mp hv).1
  rw[GU,GU];omega
theorem Nf(hs:∀u,(nb u).Pairwise (· < ·))(hb:∀u v,v∈nb u→0≤v∧v<32):(Kv nb c p k).Pairwise fun x y=>rk x<rk y:=by
 induction k with
 |zero=>exact mS ..
 |succ k ih=>exact Nd hs hb ih
theorem Lw{α β:Type}{f:α→List β}{m:Nat}:∀{xs:List α},(∀x∈xs,(f x).length≤m)→(xs.flatMap f).length≤xs.length*m
 | [],_=>by simp
 |x::xs,h=>by
  have h1:=h x (by simp)
  have h2:=Lw (f:=f) (m:=m) (xs:=xs) fun y hy=>h y (jn _ hy)
  rw[qO,jf,jm,Nat.add_mul,Nat.one_mul]
  omega
variable{R R':Int→Int→Prop}{nb:Int→List Int}{a b p q v:Int}{L M r:List Int}{k d s:Nat}{n:Int}
noncomputable def Xk(R:Int→Int→Prop)(a b u v:Int):Prop:=R u v∧¬(u=a∧v=b)∧¬(u=b∧v=a)
theorem KB:∀{L:List Int},Ch R L→(∀u∈L,∀v∈L,R u v→R' u v)→Ch R' L
 | [],_,_=>trivial
 | [_],_,_=>trivial
 |a::b::L,h,m=> ⟨m a (by simp) b (by simp) h.1,KB h.2 fun u hu v hv=>m u (jn _ hu) v (jn _ hv)⟩
theorem Zj(h:Ring R r):∃a b,R a b∧W (Xk R a b) [b] (r.length-1) a:=by
 match r,h with
 | [],h=>exact absurd h.len (by decide)
 | [_],h=>exact absurd h.len (by show¬3≤1;decide)
 | [_,_],h=>exact absurd h.len (by show¬3≤2;decide)
 |x::y::t::L,h=>
  have hne:(t::L)≠[]:=by simp
  have hz:(x::y::t::L).getLast?=some (lst (t::L)):=by
   rw[mw,mw];exact Dg hne
  have hmz:lst (t::L)∈t::L:=lJ (Dg hne)
  generalize lst (t::L)=z at hz hmz
  have nd:=h.nd
  rw[kg,kg] at nd
  refine⟨z,x,h.cl x z rfl hz,?_⟩
  refine dM (L:=y::t::L) ⟨⟨h.ch.1,fun e=>?_,fun e=>?_⟩,KB h.ch.2 fun u hu v hv r=> ⟨r,fun e=>?_,fun e=>?_⟩⟩ hz
  ·exact nd.1 (e.2▸j9 ..)
  ·exact nd.2.1 (e.2▸hmz)
  ·exact nd.1 (e.2▸hv)
  ·exact nd.1 (e.1▸hu)
theorem WB(sy:∀u v,R u v→R v u)(ir:∀u,¬R u u)(h:R a b)(hd:IsD (Xk R a b) [a] b d):∃r,Ring R r∧r.length=d+1:=by
 obtain⟨L,l1,l2,l3,l4,l5,_⟩:=Vz hd
 refine⟨L,⟨?_,l4,KB l5 fun u _ v _ c=>c.1,fun x z h1 h2=>?_⟩,l1⟩
 ·match d,hd with
  |0,hd=>
   cases hd.1 with
   |«at» hm=>rw[jd.mp hm] at h;exact absurd h (ir _)
  |1,hd=>
   cases hd.1 with
   |go w c=>
    cases w with
    |«at» hm=>rw[jd.mp hm] at c;exact absurd ⟨rfl,rfl⟩ c.2.1
  |d+2,_=>omega
 ·rw[l2] at h1
  rw[l3] at h2
  cases h1
  cases h2
  exact sy _ _ h
noncomputable def KC(R:Int→Int→Prop)(s:Nat)(p:Int)(i:Nat)(v:Int):Bool:=decide (Jz R [p] v=some (min i (s-i)))
noncomputable def Lx(R:Int→Int→Prop)(nb:Int→List Int)(s:Nat)(p:Int):List (List Int):=Kv nb (KC R s p) p (s-1)
noncomputable def dN(R:Int→Int→Prop)(nb:Int→List Int)(s m:Nat):List (List Int):=(j6 m).flatMap fun(i:Nat)=>Lx R nb s (i:Int)
theorem WC(hb:∀u v,R u v→0≤v∧v<n)(h:Ring R r):∀z∈r,0≤z∧z<n:=by
 have key:∀{L:List Int} {x:Int},0≤x∧x<n→Ch R (x::L)→∀z∈x::L,0≤z∧z<n:=by
  intro L
  induction L with
  |nil=>intro x hx _ z hz;rw[jd.mp hz];exact hx
  |cons y L ih=>
   intro x hx hc z hz
   rcases i6.mp hz with rfl|hz
   ·exact hx
   ·exact ih (hb _ _ hc.1) hc.2 z hz
 cases r with
 |nil=>intro z hz;cases hz
 |cons x L=>exact key (hb _ _ (h.cl x _ rfl (Dg (by simp)))) h.ch
variable{R:Int→Int→Prop}{nb:Int→List Int}{c:Nat→Int→Bool}{p:Int}{r q:List Int}{k s:Nat}{n:Int}
theorem Sr(sy:∀u v,R u v→R v u)(least:∀M,Ring R M→s≤M.length)(hr:Ch R r)(hq:Ch R q)(nr:r.Nodup)(nq:q.Nodup){i d:Nat}(hd:2*d<s)(lr:i+d<r.length)(lq:i+d<q.length)(e1:r[i]?=q[i]?)(e2:r[i+d]?=q[i+d]?):∀m,i≤m→m≤i+d→r[m]?=q[m]?:=by
 have hri:i<r.length:=by omega
 have hqi:i<q.length:=by omega
 have key:∀(x:List Int) (hx:i<x.length),i+d<x.length→(x.drop i).take (d+1)=x[i]::(x.drop (i+1)).take d∧((x.drop i).take (d+1)).getLast?=x[i+d]?:=fun x hx hl=>by
  constructor
  ·rw[←pQ hx,List.take_succ_cons]
  ·rw[List.getLast?_eq_getElem?,j8,mN,nj,if_pos (by omega),lx]
   congr 1
   omega
 obtain⟨a1,b1⟩:=key r hri lr
 obtain⟨a2,b2⟩:=key q hqi lq
 have hh:r[i]=q[i]:=by
  rw[i8 hri,i8 hqi] at e1
  exact ki.inj e1
 have same:(r.drop (i+1)).take d=(q.drop (i+1)).take d:=by
  by_cases e:(r.drop (i+1)).take d=(q.drop (i+1)).take d
  ·exact e
  ·exfalso
   obtain⟨z,hz⟩:∃z,r[i+d]?=some z:=⟨_,i8 lr⟩
   obtain⟨L,h1,h2⟩:=Lv (a:=r[i]) (z:=z) sy (a1▸KA (Ov hr)) (by rw[hh];exact a2▸KA (Ov hq)) (a1▸(nr.sublist ((nH ..).trans (qP ..)))) (by rw[hh];exact a2▸(nq.sublist ((nH ..).trans (qP ..)))) (by rw[←a1,b1,hz]) (by rw[hh,←a2,b2,←e2,hz]) e
   have:=least L h1
   rw[j8,j8] at h2
   omega
 have all:(r.drop i).take (d+1)=(q.drop i).take (d+1):=by rw[a1,a2,same,hh]
 intro m h1 h2
 have:=congrArg (fun x:List Int=>x[m-i]?) all
 simp only[nj,lx] at this
 rw[if_pos (by omega),if_pos (by omega),show i+(m-i)=m by omega] at this
 exact this
theorem Ss(hR:∀u v,v∈nb u↔R u v)(hb:∀u v,R u v→0≤v∧v<n)(hp:0≤p∧p<n)(h:r∈Kv nb c p k):∀z∈r,0≤z∧z<n:=by
 obtain⟨w1,w2,_,w4,_⟩:=(Ew hR).mp h
 have key:∀{L:List Int} {x:Int},0≤x∧x<n→Ch R (x::L)→∀z∈x::L,0≤z∧z<n:=by
  intro L
  induction L with
  |nil=>intro x hx _ z hz;rw[jd.mp hz];exact hx
  |cons y L ih=>
   intro x hx hc z hz
   rcases i6.mp hz with rfl|hz
   ·exact hx
   ·exact ih (hb _ _ hc.1) hc.2 z hz
 cases r with
 |nil=>intro z hz;cases hz
 |cons x L=>
  have:x=p:=by simpa using w2
  subst this
  exact key hp w4
theorem Su{a b d a' b' d':Int}(h1:0≤a∧a<20)(h2:0≤b∧b<20)(h3:0≤d∧d<20)(h4:0≤a'∧a'<20)(h5:0≤b'∧b'<20)(h6:0≤d'∧d'<20)(e:a*400+b*20+d=a'*400+b'*20+d'):a=a'∧b=b'∧d=d':=by omega
theorem WD(sy:∀u v,R u v→R v u)(hR:∀u v,v∈nb u↔R u v)(hs:∀u,(nb u).Pairwise (· < ·))(hb:∀u v,R u v→0≤v∧v<n)(hn:n≤20)(hp:0≤p∧p<n)(least:∀M,Ring R M→s≤M.length)(hk:k<s):(Kv nb c p k).length≤8000:=by
 obtain⟨a,b,h1,h2,h3,h4⟩:∃a b:Nat,2*a<s∧2*b<s∧a+b≤k∧k≤a+b+1:=⟨min k ((s-1)/2),min (k-min k ((s-1)/2)) ((s-1)/2),by omega,by omega,by omega,by omega⟩
 have bd:∀r∈Kv nb c p k,∀i,i≤k→0≤r.getD i 0∧r.getD i 0<20:=fun r hr i hi=>by
  have hl:=((Ew hR).mp hr).len
  have:=Ss hR hb hp hr (r.getD i 0) (by rw[kb,i8 (show i<r.length by omega)];exact kT _)
  omega
 have inj:∀r∈Kv nb c p k,∀q∈Kv nb c p k,r.getD a 0*400+r.getD (a+b) 0*20+r.getD k 0=q.getD a 0*400+q.getD (a+b) 0*20+q.getD k 0→r=q:=fun r hr q hq e=>by
  obtain⟨r1,r2,r3,r4,_⟩:=(Ew hR).mp hr
  obtain⟨q1,q2,q3,q4,_⟩:=(Ew hR).mp hq
  obtain⟨e1,e2,e3⟩:=Su (bd r hr a (by omega)) (bd r hr (a+b) (by omega)) (bd r hr k (by omega)) (bd q hq a (by omega)) (bd q hq (a+b) (by omega)) (bd q hq k (by omega)) e
  have at_:∀i,i≤k→r.getD i 0=q.getD i 0→r[i]?=q[i]?:=fun i hi z=>by
   rw[kb,kb,i8 (show i<r.length by omega),i8 (show i<q.length by omega)] at z
   rw[i8 (show i<r.length by omega),i8 (show i<q.length by omega)]
   exact congrArg some z
  have e0:r[0]?=q[0]?:=by rw[←pO,←pO,r2,q2]
  have g1:=Sr sy least r4 q4 r3 q3 (i:=0) (d:=a) h1 (by omega) (by omega) e0 (by rw[n6];exact at_ a (by omega) e1)
  have g2:=Sr sy least r4 q4 r3 q3 (i:=a) (d:=b) h2 (by omega) (by omega) (at_ a (by omega) e1) (at_ (a+b) (by omega) e2)
  apply lH
  intro i
  by_cases c1:i≤a
  ·exact g1 i (kN _) (by omega)
  ·by_cases c2:i≤a+b
   ·exact g2 i (by omega) c2
   ·by_cases c3:i≤k
    ·have:i=k:=by omega
     subst this
     exact at_ i (jb _) e3
    ·rw[lA (by omega),lA (by omega)]
 have hb':∀u v,v∈nb u→0≤v∧v<32:=fun u v h=>by have:=hb u v ((hR u v).mp h);omega
 have:=Gr.Nc (n:=8000) (L:=(Kv nb c p k).map fun r=>r.getD a 0*400+r.getD (a+b) 0*20+r.getD k 0) ?_ ?_
 ·rw[e7] at this
  exact this
 ·rw[lX,mE]
  refine pR ?_ (kj.and_mem.mp (Nf (c:=c) (p:=p) (k:=k) hs hb'))
  rintro x y ⟨hx,hy,h⟩ e
  have:=inj x hx y hy e
  subst this
  omega
 ·intro z hz
  obtain⟨r,hr,rfl⟩:=jl.mp hz
  have b1:=bd r hr a (by omega)
  have b2:=bd r hr (a+b) (by omega)
  have b3:=bd r hr k (by omega)
  omega
end GrR
namespace L2.TL
open PySem PySem.Spec PySem.Calls PyProof.Rows PySem.Builtin PySem.Builtin.Str
section
variable{X:Cx}
end
section
variable{Z:Zx}{ρ:List (Option T)}{O:AM}{a b o e:Expr}{t:T}{Φ:Bf}{pos p apos cpos:Pos}{i j:Str}{xs:List Str}
end
section
variable{X:Cx}
end
section
variable{Z:Zx}{ρ:List (Option T)}{O:AM}{a b o e:Expr}{t:T}{Φ:Bf}{pos p apos cpos:Pos}{i j:Str}{xs:List Str}
end
section
variable{Z:Zx}{ρ:List (Option T)}{O:AM}{e elt tg iter:Expr}{ifs:List Expr}{csc:Scope}{nc:List Str}{cap:List (Str×Nat)}{Φ:Bf}{pos:Pos}
end
theorem Cj{i:Int}:∀{ns:List Int},((dTs (ns.map T.int)).any fun y=>kr y (dT (.int i)))=decide (i∈ns)
 | []=>rfl
 |n::ns=>by
  show((n==i)|| (dTs (ns.map T.int)).any fun y=>kr y (dT (.int i)))=_
  rw[Cj,lC]
  simp only[oY,decide_eq_true_eq,i6,beq_iff_eq]
  constructor
  ·rintro(h|h)
   ·exact .inl h.symm
   ·exact .inr h
  ·rintro(h|h)
   ·exact .inl h.symm
   ·exact .inr h
end L2.TL
namespace L2
open PySem PySem.Spec PySem.Calls PyProof.Rows
section
variable{prog:Program}{w:World}{A:js}{R:tB→c9→Prop}{I:Addr}{fp wr:List Addr}{n:Nat}{P:Nat→Value→Prop}{St:Nat→Heap→Prop}
theorem Ex:(toString "min" ++toString ".loop" :String)= "min.loop":=by decide
theorem Qb{kw:List (Str×Value)}(W:Walks prog w A.in1 I fp wr n P St)(bt:Nat→Nat→Bool)(hcmp:CmpOf prog w A.in1 .Lt P bt)(S:Addr)(hSf:S∉fp):
  ∀(k j:Nat) (s:c9) (vb:Value) (c:Nat),n- (j+1)=k→j+1≤n→St (j+1) s.heap→P (rA bt j) vb→
  s.heap.get? S=some {cls:=.type "list",dict:=none,data:=.seq #[vb,vb] c,slots:=#[]}→
  (∀v h' tk,P (rA bt (n-1)) v→(∀b o,b∉wr→b≠S→s.heap.get? b=some o→h'.get? b=some o)→R (.ok (.ret v)) {s with heap:=h',toks:=tk})→
  oG (model prog w) A (.builtin "min.loop" ⟨[.ref I,.none,.ref S],kw⟩) R s:=by
 have hSw:S∉wr:=fun h=>hSf (W.sub _ h)
 intro k
 induction k with
 |zero=>
  intro j s vb c hk hj hst hPb hS hR
  have hin:j+1=n:=by omega
  refine mU rj ?_
  rw[mR m8 _]
  show wpAny _ A.in1 (sj (.ref S)>>=_) _ _ s
  refine b6 (lN hS rfl ?_)
  show wpAny _ A.in1 (tryCatch (oz (.ref I)) _>>=_) _ _ s
  refine b6 (pF (W.done s _ _ (hin▸hst) fun h' tk hk'=>?_))
  have hS':=hk' S _ hSw hS
  show wpAny _ A.in1 (updateSeq S (fun _=> #[])>>=_) _ _ _
  refine b6 (rJ hS' rfl (b6 (pj (e6 ?_))))
  exact hR vb _ tk (by rw[←hin];exact hPb) fun b o hbw hbS e=> (lY _ _ (Ne.symm hbS)).trans (hk' b o hbw e)
 |succ k ih=>
  intro j s vb c hk hj hst hPb hS hR
  have hlt:j+1<n:=by omega
  refine mU rj ?_
  rw[mR m8 _]
  show wpAny _ A.in1 (sj (.ref S)>>=_) _ _ s
  refine b6 (lN hS rfl ?_)
  show wpAny _ A.in1 (tryCatch (oz (.ref I)) _>>=_) _ _ s
  refine b6 (pF (W.item (j+1) s _ _ hlt hst fun v h' tk hP hst' hk'=>?_))
  have hS':=hk' S _ hSw hS
  show wpAny _ A.in1 (tryCatch (holding [v,v] (tF .Lt v vb>>=_)) _>>=_) _ _ _
  refine b6 (pF (kh (b6 (hcmp (j+1) (rA bt j) v vb _ _ _ hP hPb ?_))))
  refine b6 (kh (mB (b6 (pj (e6 ?_)))))
  cases hb:bt (j+1) (rA bt j) with
  |true=>
   simp only[if_true]
   refine b6 (rJ hS' rfl (b6 (pj ?_)))
   rw[Ex]
   refine e6 ⟨om m8 _,ih (j+1) _ v _ (by omega) hlt (W.frame _ _ _ hst' fun b hbf o e=>?_) (by simp only[rA,hb,if_true];exact hP) (nu _ hS' rfl) fun v' h'' tk'' hP' hk''=>?_⟩
   ·exact(lY _ _ (fun h:S=b=>hSf (by rw[h];exact hbf))).trans e
   ·exact hR v' h'' tk'' hP' fun b o hbw hbS e=>hk'' b o hbw hbS ((lY _ _ (Ne.symm hbS)).trans (hk' b o hbw e))
  |false=>
   simp only[jt,if_false]
   refine b6 (pj ?_)
   rw[Ex]
   refine e6 ⟨om m8 _,ih (j+1) _ vb c (by omega) hlt hst' (by simp only[rA,hb,jt,if_false];exact hPb) hS' fun v' h'' tk'' hP' hk''=>?_⟩
   exact hR v' h'' tk'' hP' fun b o hbw hbS e=>hk'' b o hbw hbS (hk' b o hbw e)
theorem Ng{nm:Str}{d:Value}(W:Walks prog w A.in1 I fp wr n P St)(bt:Nat→Nat→Bool)(hcmp:CmpOf prog w A.in1 .Lt P bt)(S:Addr)(hSf:S∉fp){s:c9}{c:Nat}(hst:St 0 s.heap)
  (hS:s.heap.get? S=some {cls:=.type "list",dict:=none,data:=.seq #[] c,slots:=#[]})
  (h0:n=0→∀h' tk,(∀b o,b∉wr→b≠S→s.heap.get? b=some o→h'.get? b=some o)→R (.ok (.ret d)) {s with heap:=h',toks:=tk})
  (hR:0<n→∀v h' tk,P (rA bt (n-1)) v→(∀b o,b∉wr→b≠S→s.heap.get? b=some o→h'.get? b=some o)→R (.ok (.ret v)) {s with heap:=h',toks:=tk}):
  oG (model prog w) A (.builtin "min.loop" ⟨[.ref I,.none,.ref S],[(nm,d)]⟩) R s:=by
 have hSw:S∉wr:=fun h=>hSf (W.sub _ h)
 refine mU rj ?_
 rw[mR m8 _]
 show wpAny _ A.in1 (sj (.ref S)>>=_) _ _ s
 refine b6 (lN hS rfl ?_)
 show wpAny _ A.in1 (tryCatch (oz (.ref I)) _>>=_) _ _ s
 by_cases hn:0<n
 ·refine b6 (pF (W.item 0 s _ _ hn hst fun v h' tk hP hst' hk'=>?_))
  have hS':=hk' S _ hSw hS
  show wpAny _ A.in1 (updateSeq S (fun _=> #[v,v])>>=_) _ _ _
  refine b6 (rJ hS' rfl ?_)
  rw[Ex]
  refine e6 ⟨om m8 _,Qb W bt hcmp S hSf _ 0 _ v _ rfl hn (W.frame _ _ _ hst' fun b hbf o e=>?_) hP (nu _ hS' rfl) fun v' h'' tk'' hP' hk''=>?_⟩
  ·exact(lY _ _ (fun h:S=b=>hSf (by rw[h];exact hbf))).trans e
  ·exact hR hn v' h'' tk'' hP' fun b o hbw hbS e=>hk'' b o hbw hbS ((lY _ _ (Ne.symm hbS)).trans (hk' b o hbw e))
 ·have e0:n=0:=by omega
  refine b6 (pF (W.done s _ _ (by rw[e0];exact hst) fun h' tk hk'=>?_))
  show wpAny _ A.in1 (rule _>>=fun _=>ret d) _ _ _
  exact b6 (mT (e6 (h0 e0 h' tk fun b o hbw _ e=>hk' b o hbw e)))
end
section
variable{prog:Program}{w:World}{A:js}{E:Value→c9→Prop}{s:c9}
theorem Qc{x d:Value}{Q:Value→c9→Prop}
  (h:wpAny (model prog w) A.in1 (sJ x) (fun it s₂=>∃I fp wr n P St bt,it=.ref I∧Walks prog w A.in1 I fp wr n P St∧St 0 s₂.heap∧(∀b∈fp,b<s₂.heap.objs.size)∧CmpOf prog w A.in1 .Lt P bt∧
   (n=0→∀h' tk,(∀b o,b∉wr→s₂.heap.get? b=some o→h'.get? b=some o)→Q d {s₂ with heap:=h',toks:=tk})∧
   (0<n→∀v h' tk,P (rA bt (n-1)) v→(∀b o,b∉wr→s₂.heap.get? b=some o→h'.get? b=some o)→Q v {s₂ with heap:=h',toks:=tk})) E s):
  wpAny (model prog w) A (call (.builtin "min") [x] [("default",d)]) Q E s:=by
 refine rq (oA F.plain_min F.entry_min ?_)
 refine qd (show rf "min" ⟨[x],[("default",d)]⟩=pure () by kernel_rfl) ?_
 show wpAny _ A.in1 (Builtin.Builtins.bindParams "min" ["key","default"] 0 ⟨[],[("default",d)]⟩>>=_) _ _ s
 refine b6 (qd (show Builtin.Builtins.bindParams "min" ["key","default"] 0 ⟨[],[("default",d)]⟩=pure [none,some d] from rfl) ?_)
 refine b6 (e6 ?_)
 refine b6 (nY h (fun it s₂ h₂=>?_) fun _ _ e=>e)
 obtain⟨I,fp,wr,n,P,St,bt,rfl,W,hst,hfp,hcmp,q0,q1⟩:=h₂
 refine b6 (lh ?_)
 have hSf:s₂.heap.objs.size∉fp:=fun hm=>k8 _ (hfp _ hm)
 rw[Ex]
 refine e6 ⟨om m8 _,Ng W bt hcmp s₂.heap.objs.size hSf (W.frame _ _ _ hst fun b _ o e=>e8 _ e) (jq _ rfl) (fun e0 h' tk hk=>?_) fun hn v h' tk hP hk=>?_⟩
 ·exact q0 e0 h' tk fun b o hbw e=>hk b o hbw (jY (je e)) (e8 _ e)
 ·exact q1 hn v h' tk hP fun b o hbw e=>hk b o hbw (jY (je e)) (e8 _ e)
end
section
variable{M:Model}{A:js}{E:Value→c9→Prop}{s:c9}
theorem KE{pos:Pos}{id:String}{k:Str}{x y:Sem Value}{Q:Value→c9→Prop}
  (h:wpAny M A x (fun v s₁=>wpAny M A y (fun d s₂=>wpAny M A (call (.builtin id) [v] [(k,d)]) Q E s₂) E s₁) E s):
  wpAny M A (callWith pos (.builtin id) [] [(false,x)] [(some k,y)]) Q E s:=by
 unfold callWith
 refine b6 (kh (evalArgs_kw rfl (Calls.spliced_cons (nY h (fun v s₁ h₁=>?_) fun _ _ e=>e))))
 refine Calls.spliced_nil (wpAny_evalAll_cons (nY h₁ (fun d s₂ h₂=>wpAny_evalAll_nil ?_) fun _ _ e=>e))
 refine b6 (oi ?_)
 refine b6 (e6 ?_)
 exact b6 (nY h₂ (fun r s₃ hr=>b6 (kh (wpAny_point (e6 hr)))) fun _ _ e=>e)
end
section
variable{X:Cx}
noncomputable def Fk(ns:List Int):Option Int→Prop
 |none=>ns=[]
 |some m=>HW ns m
noncomputable def gz:Option Int→V
 |none=> .non
 |some m=> .int m
theorem WH{e:Expr}{te:TE}{p pos kp np:Pos}{j:Nat}(hc:X.calm=true)(hg:Gl X "min")(hm:X.mg "min" =none)(he:PE X e te)(hn:TL.Av e=true):
  PE X (.Call (.Name "min" p) [e] [⟨some "default",.Constant .none j np,kp⟩] pos) (fun σ H Q=>te σ H fun v H1=>∃(a:Addr) (ns:List Int),v=.ref a∧Xa X.K H1 a (ns.map V.int)∧∀m,Fk ns m→Q (gz m) H1):=by
 intro pins s σ H Q I h
 refine o6 (DQ I hg hm TL.ZW ?_ (by decide) (by decide))
 rw[TL.Ax hn]
 refine KE (Az (he pins s σ H _ I h) fun u s1 ⟨v,H1,I1,r1,q1⟩=>?_)
 obtain⟨a,ns,rfl,hq,q⟩:=q1
 cases r1
 refine b6 ?_
 show wpAny _ _ (eval (.Constant .none j np) X.env) _ _ _
 refine e6 (b6 (oi (e6 ?_)))
 obtain⟨its,rv,lt,wk⟩:=I1.walk hq
 have hl:its.length=ns.length:=by have:=rv.length;rw[e7] at this;exact this.symm
 refine Qc (wk X.A.in1 _ _ (I1.ok.hd hc) fun o St W st=> ⟨_,_,_,_,_,_,_,rfl,W,st,fun b hb=>?_,CmpOf.ints_lt (fun i=>ns.getD i 0) (fun i v hv=>CI rv i v hv),fun e0 h' tk hk=>?_,fun hn v h' tk hP hk=>?_⟩)
 ·show b< (s1.heap.push o).objs.size
  rw[k7]
  simp only[i6,jk,or_false] at hb
  rcases hb with rfl|rfl
  ·exact m5 _
  ·exact md lt
 ·exact⟨.non,H1,I1.kept (t':=tk) (EJ hk),rfl,q none (List.eq_nil_of_length_eq_zero (by omega))⟩
 ·obtain⟨t,rfl⟩:=CI rv _ v hP
  obtain⟨b1,b2⟩:=argBest_lt (fun i=>ns.getD i 0) (its.length-1)
  exact⟨.int _,H1,I1.kept (t':=tk) (EJ hk),⟨t,rfl⟩,q (some _) ⟨HX (by omega),fun n hn=>by
   obtain⟨j,hj,rfl⟩:=oO hn
   have:=b2 j (by omega)
   simpa[m6,hj] using this⟩⟩
end
end L2
namespace L2.TL
open PySem PySem.Spec PySem.Calls PyProof.Rows
section
variable{Z:Zx}{ρ:List (Option T)}{O:AM}{e:Expr}{p pos kp np:Pos}{ns:List Int}{j:Nat}
noncomputable def Sv:Option Int→T
 |none=> .non
 |some m=> .int m
theorem Ly{a b:Option Int}(ha:Fk ns a)(hb:Fk ns b):a=b:=by
 cases a with
 |none=>
  cases b with
  |none=>rfl
  |some m=>rw[show ns=[] from ha] at hb;exact absurd hb.1 (by simp)
 |some m=>
  cases b with
  |none=>rw[show ns=[] from hb] at ha;exact absurd ha.1 (by simp)
  |some k=>rw[rP (ha.2 k hb.1) (hb.2 m ha.1)]
theorem WJ{m:Option Int}(hm:Fk ns m)(mm:Z.X.mg "min" =none)(hc:Z.X.calm=true)(h:ET Z ρ O e (.lst (ns.map T.int)))(hg:Gl Z.X "min":=by rfl)(hn:Av e=true:=by rfl):
  ET Z ρ O (.Call (.Name "min" p) [e] [⟨some "default",.Constant .none j np,kp⟩] pos) (Sv m):=fun Φ q=>
 PE.weak (WH hc hg mm (h (fun t O'=>t=.lst (ns.map T.int)∧O'=O) ⟨rfl,rfl⟩) hn) fun σ H Q k=> ⟨k.1,by
  rintro v H' _ _ ⟨rfl,rfl⟩ f r
  obtain⟨a,xs,rfl,h1,o1,r1⟩:=r.lst_inv
  cases Reps.ints r1
  refine⟨a,ns,rfl,.inl (.inl (.inl h1)),fun m' hm'=>?_⟩
  cases Ly hm' hm
  refine k.2 _ H' _ _ q f ?_
  cases m with
  |none=>exact .non
  |some m=>exact .int m⟩
end
end L2.TL
namespace L2
open PySem PySem.Spec PySem.Calls PyProof.Rows
section
variable{prog:Program}{w:World}{A:js}{R:tB→c9→Prop}{I:Addr}{fp wr:List Addr}{n:Nat}{P:Nat→Value→Prop}{St:Nat→Heap→Prop}
end
section
variable{prog:Program}{w:World}{A:js}{E:Value→c9→Prop}{s:c9}
end
section
variable{X:Cx}
end
end L2
namespace L2.TL
open PySem PySem.Spec PySem.Calls PyProof.Rows
section
variable{Z:Zx}{ρ:List (Option T)}{O:AM}{e:Expr}{p pos kp np:Pos}{ns:List Int}{j:Nat}
end
end L2.TL
namespace L2
open PySem PySem.Spec PyProof.Rows
open Sem (wp)
section
variable{prog:Program}{w:World}{A:js}{E:Value→c9→Prop}{s:c9}
end
section
variable{prog:Program}{w:World}{A:js}{E:Value→c9→Prop}{s:c9}
end
section
variable{prog:Program}{w:World}{A:js}{E:Value→c9→Prop}{s:c9}
end
section
variable{M:Model}{A:js}{E:Value→c9→Prop}{s:c9}
end
section
variable{X:Cx}
end
section
variable{X:Cx}{tg:Expr}
end
end L2
namespace L2.TL
open PySem PySem.Spec PyProof.Rows
section
variable{Z:Zx}{ρ:List (Option T)}{O:AM}{a tg:Expr}{ts:List T}{p pos:Pos}
end
open PySem.Builtin PySem.Builtin.Str
section
variable{Z:Zx}{ρ:List (Option T)}{O:AM}{a b e:Expr}{p pos:Pos}{x y:Str}{i:Int}{K:b9}
end
structure Fi(K:b9)(x:Str)(st:Stmt)(f:Addr)(fd:jv):Prop where
 F:Fun K x x st f fd
 a:oH K lQ x=some (some (.ref f))
noncomputable def Fx(K:b9)(x:Str)(st:Stmt):Prop:=∃f fd,Fi K x st f fd
noncomputable def Zn(K:b9)(x:Str):Prop:=oH K lQ x=some none
structure Mg(P:Program)(w:World)(K:b9)(mg:Str→Option Value)(base:Heap):Prop where
 mm:∀{x:Str} {v:Value},oH K lQ x=some (some v)→mg x=some v
section
variable{P:Program}{w:World}{K:b9}{mg:Str→Option Value}{base:Heap}{x:Str}{st:Stmt}{f:Addr}{fd:jv}{ps:List Str}{k:Nat}
theorem fi{oc:Value}{od:Option Addr}{kV doc pm:Value}{an:Option Addr}{cdv ct:Value}{osl:Array (Option Value)}(a:oH K lQ x=some (some (.ref f)))(l:K.lookup f=some ⟨oc,od,.func (oI x x (Ee st) (BQ st) (AA st) .none kV doc pm an cdv ct),osl⟩)(q:rZ K cdv x=true)(h:nh K (.ref f)=true):
  Fx K x st:=⟨f,_,⟨⟨⟨oc,od,kV,doc,pm,an,cdv,ct,osl,rfl,l,q⟩,h⟩,a⟩⟩
noncomputable abbrev Bi(x:Str)(st:Stmt)(ps:List Str)(us:List Value):Prop:=∀(kV doc pm:Value) (an:Option Addr) (cdv ct:Value),bindArgs (oI x x (Ee st) (BQ st) (AA st) .none kV doc pm an cdv ct) ⟨us,[]⟩=pure (ps.zip us)
theorem Fi.b1(h:Fi K x st f fd)(hl:ps.length=1)(q:∀a,Bi x st ps [a]):Binds K fd ps []:=h.F.binds fun _ _ _ _ _ _ us e=>match us,e.trans hl with| [a],_=>q a ..
theorem Fi.b2(h:Fi K x st f fd)(hl:ps.length=2)(q:∀a b,Bi x st ps [a,b]):Binds K fd ps []:=h.F.binds fun _ _ _ _ _ _ us e=>match us,e.trans hl with| [a,b],_=>q a b ..
theorem Fi.b3(h:Fi K x st f fd)(hl:ps.length=3)(q:∀a b c,Bi x st ps [a,b,c]):Binds K fd ps []:=h.F.binds fun _ _ _ _ _ _ us e=>match us,e.trans hl with| [a,b,c],_=>q a b c ..
theorem Fi.b4(h:Fi K x st f fd)(hl:ps.length=4)(q:∀a b c d,Bi x st ps [a,b,c,d]):Binds K fd ps []:=h.F.binds fun _ _ _ _ _ _ us e=>match us,e.trans hl with| [a,b,c,d],_=>q a b c d ..
theorem Fi.b5(h:Fi K x st f fd)(hl:ps.length=5)(q:∀a b c d e,Bi x st ps [a,b,c,d,e]):Binds K fd ps []:=h.F.binds fun _ _ _ _ _ _ us e=>match us,e.trans hl with| [a,b,c,d,g],_=>q a b c d g ..
theorem Fi.t{s:Bp}(h:Fi K x st f fd)(M:Mg P w K mg base)(ok:FnOk P w K mg base (CXe P w) k f fd ps (CC K s))(b:Binds K fd ps []):FnT P w K mg base x k ps s:=⟨f,fd,ok,M.mm h.a,h.F.kp,b⟩
end
end L2.TL
namespace L2
open PySem PySem.Spec PySem.Calls PyProof.Rows Builtin.ObjectAttr
section
variable{prog:Program}{w:World}{A:js}{E:Value→c9→Prop}{s:c9}{K:b9}{x dx C f:Addr}{name:Str}{v:Value}
end
section
variable{prog:Program}{w:World}{A:js}{E:Value→c9→Prop}{s:c9}{K:b9}{x dx C f:Addr}{name:Str}{v:Value}
end
section
variable{prog:Program}{w:World}{A:js}{E:Value→c9→Prop}{s:c9}{K:b9}{C f:Addr}
end
section
variable{X:Cx}{pins:List (Addr×Obj)}{σ:St}{H:Hp}{s:c9}
end
section
variable{X:Cx}{o value:Expr}{n:Str}{pos pos':Pos}{ta tv:TE}
end
end L2
namespace L2.TL
open PySem PySem.Spec PySem.Calls PyProof.Rows
section
variable{Z:Zx}{ρ:List (Option T)}{O:AM}{e a b:Expr}{es:List Expr}{Ψ:Es}{Φ:Bf}{pos p:Pos}{t:T}{ts:List T}{x:Str}
end
end L2.TL
namespace L2
open PySem PySem.Spec PySem.Calls PyProof.Rows
end L2
namespace L2.TL
open PySem PySem.Spec PySem.Calls PyProof.Rows
section
variable{Z:Zx}{ρ:List (Option T)}{O O':AM}{e a b:Expr}{es:List Expr}{Ψ:Es}{Φ:Bf}{pos p:Pos}{t:T}{ts:List T}{x y C D:Addr}{H':Hp}{o:HO}{cls:Value}{fs:Str}
end
section
variable{P:Program}{w:World}{K:b9}{mg:Str→Option Value}{base:Heap}
end
section
variable{P:Program}{w:World}{K:b9}{mg:Str→Option Value}{base:Heap}{C R f:Addr}{q x:Str}{st:Stmt}{fd:jv}
end
section
variable{K:b9}{O O':AM}{H:Hp}
end
section
variable{Z:Zx}{ρ:List (Option T)}{O:AM}{e a b:Expr}{es:List Expr}{Ψ:Es}{Φ:Bf}{pos p:Pos}{t:T}{ts ts' us:List T}{x:Str}{l:Addr}
end
end L2.TL
namespace L2
open PySem PySem.Spec PyProof.Rows
section
variable{X:Cx}{W:St→XK}
end
end L2
namespace L2.TL
open PySem PySem.Spec PyProof.Rows
section
variable{Z:Zx}{ρ:List (Option T)}{O:AM}{Φ:Bf}{p pos:Pos}{x:Str}{t:T}
end
theorem Lz:∀{ns:List Int},rdBs (ns.map T.int)=true
 | []=>rfl
 |n::ns=>by
  rw[jr,rdBs,Lz]
  rfl
section
variable{Z:Zx}{ρ:List (Option T)}{O:AM}{Ψ:Es}{a b o e:Expr}{apos cpos pos:Pos}{bs:List Bool}{i:Int}{ns:List Int}
theorem Zk(i j:Nat){x y:Str}{a b:Expr}{px py pt pos:Pos}{kt k2 pt2}(hc:Z.X.calm=true)(hN:Z.X.N.Nodup)(h:WA Z ρ O [a,b] fun ts O'=>∃t u,ts=[t,u]∧Ψ.nx ((ρ.set i (some t)).set j (some u)) O')
  (hi:Z.X.N[i]?=some x:=by rfl) (hj:Z.X.N[j]?=some y:=by rfl) (hij:i≠j:=by decide) (hx:Z.X.env.scope.names.lookup x=some .local:=by rfl) (hy:Z.X.env.scope.names.lookup y=some .local:=by rfl)
  (hw:pZ [.Tuple [.Name x px,.Name y py] kt pt] (.Tuple [a,b] k2 pt2) Z.X.env=pure (some [x,y]):=by rfl)
  (hs:pY [.Tuple [.Name x px,.Name y py] kt pt] (.Tuple [a,b] k2 pt2) pos.line Z.X.env=pure false:=by rfl):
  WS Z ρ O (.Assign [.Tuple [.Name x px,.Name y py] kt pt] (.Tuple [a,b] k2 pt2) pos) Ψ:=
 PS.weak (YV hc hN hi hj hij hx hy h hw hs) fun D σ H q=> ⟨q.1,fun vs H' ts O' ⟨t,u,e,p⟩ f r=>by
  subst e
  obtain⟨v,w,rfl,r1,r2⟩:=r.two_inv
  exact⟨v,w,rfl,q.2.nx _ O' _ H' p ⟨((q.1.step f).rl.set r1).set r2,(q.1.step f).fr⟩ f.kp⟩⟩
end
end L2.TL
namespace L2
open PySem PySem.Spec PyProof.Rows
section
variable{X:Cx}{pos:Pos}
end
end L2
namespace L2.TL
open PySem PySem.Spec PyProof.Rows
section
variable{Z:Zx}{ρ:List (Option T)}{O:AM}{x y z:Str}{p1 p2 p3 pos:Pos}{k:Nat}{ta tb tc:T}{fe e:Expr}{es:List Expr}{Φ:Bf}
end
end L2.TL
namespace K58
open PySem L2 L2.TL PySem.Spec PyProof.Rows
noncomputable def top(i:Nat):Stmt:=j4.main.body.getD i (.Pass ⟨0,0,0,0⟩)
noncomputable abbrev Nh:Stmt:=top 7
noncomputable abbrev Ey:Stmt:=top 15
noncomputable abbrev Ni:Stmt:=top 16
noncomputable abbrev Sw:Stmt:=top 17
noncomputable abbrev Ow:Stmt:=top 18
noncomputable abbrev Nj:Stmt:=top 30
noncomputable abbrev Ez:Stmt:=top 31
noncomputable abbrev Zl:Stmt:=top 32
noncomputable abbrev Sx:Stmt:=top 33
noncomputable abbrev Hn:Stmt:=top 34
noncomputable abbrev Ho:Stmt:=top 52
noncomputable abbrev KG:Stmt:=top 53
noncomputable abbrev DM:Stmt:=top 54
noncomputable abbrev Nk:Stmt:=top 39
noncomputable abbrev GV:Stmt:=top 40
noncomputable abbrev Zm:Stmt:=top 41
noncomputable abbrev Ox:Stmt:=top 42
noncomputable abbrev KH:Stmt:=top 43
noncomputable abbrev Nl:Stmt:=top 44
noncomputable abbrev Sy:Stmt:=top 45
noncomputable abbrev Nm:Stmt:=top 46
noncomputable abbrev GW:Stmt:=top 55
noncomputable abbrev Fw:Stmt:=top 56
noncomputable abbrev WK:Stmt:=top 57
noncomputable abbrev Qd:Stmt:=top 58
noncomputable abbrev Nn:Stmt:=top 38
noncomputable abbrev JF:Stmt:=top 37
noncomputable abbrev WL:Stmt:=top 35
noncomputable abbrev KI:Stmt:=top 24
noncomputable abbrev KJ:Stmt:=top 27
noncomputable abbrev WM:Stmt:=top 26
noncomputable abbrev WN:Stmt:=top 23
noncomputable abbrev GX:Stmt:=top 36
noncomputable abbrev KL:Stmt:=top 9
noncomputable abbrev Zo:Stmt:=top 25
structure Txt(mg:Str→Option Value):Prop where
 nInt:mg "int" =none
 nBool:mg "bool" =none
 nTuple:mg "tuple" =none
 nList:mg "list" =none
 nSet:mg "set" =none
 nRange:mg "range" =none
 nIsi:mg "isinstance" =none
 nMax:mg "max" =none
 nMin:mg "min" =none
 nLen:mg "len" =none
 nAll:mg "all" =none
 nSorted:mg "sorted" =none
 nRepr:mg "repr" =none
 nVE:mg "ValueError" =none
 nEnum:mg "enumerate" =none
 nZip:mg "zip" =none
 nSum:mg "sum" =none
 nAny:mg "any" =none
 iMP:∃t:Tok,mg "MOST_PLACES" =some (.int 16 t)
 iMC:∃t:Tok,mg "MOST_TO_CROSS" =some (.int 8 t)
noncomputable def fj(t:T)(a b:Int):Bool:=match t with
 | .int i=>decide (a≤i)&&decide (i≤b)
 |_=>false
noncomputable def AU(n:Int)(p:Int×Int):Prop:=0≤p.1∧p.1<p.2∧p.2<n
theorem EW.cast{Z:Zx}{ρ:List (Option T)}{O:AM}{e:Expr}{k l:Bool}(h:EW Z ρ O e k)(z:k=l):EW Z ρ O e l:=z▸h
theorem EB.cast{Z:Zx}{ρ:List (Option T)}{O:AM}{e:Expr}{k l:Bool}(h:EB Z ρ O e k)(z:k=l):EB Z ρ O e l:=z▸h
theorem ET.cast{Z:Zx}{ρ:List (Option T)}{O:AM}{e:Expr}{k l:T}(h:ET Z ρ O e k)(z:k=l):ET Z ρ O e l:=z▸h
section
variable{P:Program}{w:World}{K:b9}{mg:Str→Option Value}{base:Heap}
noncomputable def GY:Bp:=EX fun ts r=>∃t a b,ts=[t,.int a,.int b]∧DZ t=false∧r=.bl (fj t a b)
theorem WO:FnScope ["thing","least","most"] ["thing","least","most"] (AA Nh):=⟨rfl,rfl,rfl,by decide+kernel,rfl,by decide+kernel,by decide+kernel⟩
theorem Sz{f:Addr}{fd:jv}(F:Fun K "is_whole" "is_whole" Nh f fd)(T:Txt mg):FnOk P w K mg base (CXe P w) 1 f fd ["thing","least","most"] (CC K GY):=by
 refine AS F WO ?_ ?_
 ·rintro ts O Φ Ξ ⟨r,⟨t,a,b,rfl,_⟩,_⟩
  rfl
 ·rintro cdv A outer s H E O Ξ hr xf _ Φ ⟨_,⟨t,a,b,rfl,ht,rfl⟩,q⟩
  refine AE (Ad (EW.eb (Bh (BH (Hf T.nIsi T.nInt dB Vj (ev 0) ht)) fun _=>Bm (Hf T.nIsi T.nBool dC Se (ev 0) ht))) (fun h=>AG (AK (Iw _ ?_))) (fun h=>AZ ?_))
  ·have:fj t a b=false:=by
    cases t<;>first|rfl|cases h
   rw[this] at q;exact q
  ·cases t with
   |int i=>exact AG (AK (Vg (ev 1) (ev 0) (ev 2) (by with_unfolding_all rfl) _ q))
   |bl i=>cases h
   |raw i=>cases ht
   |_=>cases h
end
noncomputable abbrev TB:Stmt:=top 48
noncomputable abbrev TC:Stmt:=top 49
noncomputable abbrev Zp:Stmt:=top 50
noncomputable abbrev TF:Stmt:=top 51
noncomputable def KM(xs:List T):Prop:=∃a b c:Int,xs=[.int a,.int b,.int c]∧0≤a∧0≤c∧c<2147483648
section
variable{P:Program}{w:World}{K:b9}{mg:Str→Option Value}{base:Heap}
noncomputable def Hq(K:b9):Sp:=fun vs H Q _=>∃(a:Addr) (ns:List Int),vs=[.ref a,.int 0]∧CM K H a (ns.map V.int)∧∀i,Q (.int i) H
theorem Zq:FnScope ["_law_script","_law_k"] ["_law_script","_law_k"] (AA TB):=⟨rfl,rfl,rfl,by decide+kernel,rfl,by decide+kernel,by decide+kernel⟩
theorem WQ{f:Addr}{fd:jv}(F:Fun K "_law_cell_at" "_law_cell_at" TB f fd)(T:Txt mg):FnOk P w K mg base (CXe P w) 1 f fd ["_law_script","_law_k"] (Hq K):=by
 refine F.okX Zq (fun vs H Q E h=>?_) (fun cdv A outer s H vs Q E hr h=>?_)
 ·obtain⟨a,ns,rfl,_⟩:=h
  rfl
 ·obtain⟨a,ns,rfl,hS,k⟩:=h
  refine⟨_,Kx (XO (OO RJ (pv 1) (EZ Cq (by rfl) T.nLen Vk (GG (pv 0) JU)) (Ac _)) (JS (Mk (XT Ed (pv 0) (pv 1) (fun _ _=>rfl)))) OK) (JS (Mk RB)),?_⟩
  refine⟨_,rfl,_,rfl,a,_,rfl,.inl hS,_,_,rfl,rfl,_,rfl,?_⟩
  refine Yu (fun h1=>?_) (fun h1=>?_)
  ·have h1:(0:Int)< ((ns.map V.int).length:Int):=by simpa using h1
   cases ns with
   |nil=>simp at h1
   |cons n ns=>exact⟨_,rfl,_,rfl,a,_,0,.int n,rfl,rfl,hS,BP (j:=0) rfl,k n⟩
  ·exact k 0
noncomputable def TH:Bp:=fun ts O Φ _=>∃n:Int,ts=[.int n]∧∀m:Int,0≤m→m<2147483629→Φ (.int m) O
theorem TJ:FnScope ["_law_seed"] ["_law_seed"] (AA TC):=⟨rfl,rfl,rfl,by decide+kernel,rfl,by decide+kernel,by decide+kernel⟩
theorem WR{f:Addr}{fd:jv}(F:Fun K "_law_next" "_law_next" TC f fd):FnOk P w K mg base (CXe P w) 1 f fd ["_law_seed"] (CC K TH):=by
 refine AS F TJ ?_ ?_
 ·rintro ts O Φ Ξ ⟨n,rfl,_⟩
  rfl
 ·rintro cdv A outer s H E O Ξ hr xf _ Φ ⟨n,rfl,q⟩
  have b1:=nD (n+7919) (show(2147483647:Int)≠0 by decide)
  have b2:=mO (n+7919) (show(0:Int)<2147483647 by decide)
  refine AE (AN 0 (ET.we (FX (BB (ev 0) AC) AC (by decide)) ?_) TJ.nd)
  exact AG (AK (ET.we (FX (BB (BB (EL (ev 0) (ev 0) (.inl ⟨by omega,by omega⟩)) (EL AC (ev 0) (.inl ⟨by decide,by decide⟩))) AC) AC (by decide)) (q _ (nD _ (by decide)) (mO _ (by decide)))))
noncomputable def Xl:Bp:=fun ts O Φ _=>∃c:Int,ts=[.int c]∧∀(p:Addr) (xs:List T),O p=none→KM xs→Φ (.raw (.ref p)) (Ap O p xs)
theorem Xm:FnScope ["_law_cell","_law_left"] ["_law_cell"] (AA Zp):=⟨rfl,rfl,rfl,by decide+kernel,rfl,by decide+kernel,by decide+kernel⟩
theorem Zr{f:Addr}{fd:jv}(F:Fun K "_law_pen_of" "_law_pen_of" Zp f fd)(T:Txt mg):FnOk P w K mg base (CXe P w) 1 f fd ["_law_cell"] (CC K Xl):=by
 refine AS F Xm ?_ ?_
 ·rintro ts O Φ Ξ ⟨n,rfl,_⟩
  rfl
 ·rintro cdv A outer s H E O Ξ hr xf _ Φ ⟨n,rfl,q⟩
  refine AE (AN 1 (ET.we (Dq T.nMax rfl (ev 0) (Cz AC (ev 0))) ?_) Xm.nd)
  refine AG (AK (Cy (EA.wa (AQ (ev 1) (AQ (Vl T.nInt (cb (ev 1) (ZM AC AC ⟨by decide,by decide,by decide⟩))) (AQ (FX (ev 1) AC (by decide)) AB))) ⟨by show 3≤sizeLine;decide,fun a ha=>q a _ ha ?_⟩)))
  have b1:=nD (max n (0-n)) (show(1000003:Int)≠0 by decide)
  have b2:=mO (max n (0-n)) (show(0:Int)<1000003 by decide)
  exact⟨_,_,_,rfl,by omega,b1,by omega⟩
noncomputable def DE:Bp:=fun ts O Φ _=>∃(p:Addr) (xs:List T) (m:Int),ts=[.raw (.ref p),.int m]∧O p=some xs∧KM xs∧0<m∧m≤1000000000∧∀(r:Int) (xs':List T),0≤r→r<m→KM xs'→Φ (.int r) (Ap O p xs')
theorem TK:FnScope ["_law_pen","_law_many","_law_found"] ["_law_pen","_law_many"] (AA TF):=⟨rfl,rfl,rfl,by decide+kernel,rfl,by decide+kernel,by decide+kernel⟩
theorem WU{f:Addr}{fd:jv}(F:Fun K "_law_draw" "_law_draw" TF f fd)(G:FnT P w K mg base "_law_next" 1 ["_law_seed"] TH):FnOk P w K mg base (CXe P w) 2 f fd ["_law_pen","_law_many"] (CC K DE):=by
 refine AS F TK ?_ ?_
 ·rintro ts O Φ Ξ ⟨p,xs,m,rfl,_⟩
  rfl
 ·rintro cdv A outer s H E O Ξ hr xf _ Φ ⟨p,_,m,rfl,hp,⟨a,b,c,rfl,a0,c0,c1⟩,m0,m1,q⟩
  refine AE (Ad (FY (DW hp (ev 0) AC) AC) (fun h=>?_) (fun h=>AZ ?_))
  ·refine AE (AN 2 (ET.we (FX (DW hp (ev 0) AC) (ev 1) m0) ?_) TK.nd)
   refine AE (Hc (ET.we (En (DW hp (ev 0) AC) (ev 1) ⟨m0,by omega⟩) (ET.we (ev 0) ⟨p,rfl,ET.we AC ⟨_,0,0,rfl,hp,rfl,?_⟩⟩)))
   exact AG (AK (ET.we (ev 2) (q _ _ (nD _ (by omega)) (mO _ m0) ⟨a/m,b,c,rfl,Int.ediv_nonneg a0 (by omega),c0,c1⟩)))
  ·refine AE (Hc (Al G hr xf (Do (Em FL (Al G hr xf (EA.wa (AQ (DW hp (ev 0) AC) AB) ⟨c,rfl,fun u u0 u1=>?_⟩))))))
   refine ET.we AC (Ha _ (BL ⟨u+7,rfl,fun r r0 r1=>ET.we (ev 0) ⟨p,rfl,ET.we AC ⟨_,2,2,rfl,hp,rfl,?_⟩⟩⟩))
   exact AG (AK (ET.we (FX (En (DW AH (ev 0) AC) AC ⟨by decide,by decide⟩) (ev 1) m0) (q _ _ (nD _ (by omega)) (mO _ m0) ⟨a,b,r,rfl,a0,r0,by omega⟩)))
end
theorem AX:(1000:Nat)<sizeLine:=by decide
noncomputable def PO(O0:AM)(p:Addr)(O:AM):Prop:=∃xs,O=Ap O0 p xs∧KM xs
theorem PO.at{O0 O:AM}{p:Addr}(h:PO O0 p O):∃xs,O p=some xs∧KM xs:=by
 obtain⟨xs,rfl,px⟩:=h
 exact⟨xs,AH,px⟩
theorem PO.step{O0 O:AM}{p:Addr}{xs:List T}(h:PO O0 p O)(px:KM xs):PO O0 p (Ap O p xs):=by
 obtain⟨ys,rfl,_⟩:=h
 exact⟨xs,BS,px⟩
theorem PO.start{O:AM}{p:Addr}{xs:List T}(h:O p=some xs)(px:KM xs):PO O p O:=⟨xs,(Sj h).symm,px⟩
section
variable{P:Program}{w:World}{K:b9}{mg:Str→Option Value}{base:Heap}
section
variable{Z:Zx}{ρ:List (Option T)}{O O0 O1:AM}{a b:Expr}{Φ:Bf}{pos q:Pos}{p c:Addr}{m:Int}{acc:List T}
theorem Bz(G:FnT Z.X.prog Z.X.w Z.X.K Z.X.mg Z.X.base "_law_draw" 2 ["_law_pen","_law_many"] DE)(hr:Room 2 Z.X.A)(xf:XFly Z.X Z.W)(po:PO O0 p O)(ha:ET Z ρ O a (.raw (.ref p)))(hb:ET Z ρ O b (.int m))(m0:0<m)(m1:m≤1000000000)(k:∀r O',0≤r→r<m→PO O0 p O'→Φ (.int r) O')(hg:Gl Z.X "_law_draw":=by rfl)
  (he:i7 [a,b] Z.X.env=(false,eval a Z.X.env)::i7 [b] Z.X.env:=by rfl) (he2:i7 [b] Z.X.env=(false,eval b Z.X.env)::i7 [] Z.X.env:=by rfl) (hpl:(mM pos (i7 [b] Z.X.env)).any (·.1)=false:=by rfl):WE Z ρ O (.Call (.Name "_law_draw" q) [a,b] [] pos) Φ:=by
 obtain⟨xs,hp,px⟩:=po.at
 exact Al G hr xf (EA.wa (AQ ha (AQ hb AB he2) he) ⟨p,xs,m,rfl,hp,px,m0,m1,fun r xs' r0 r1 px'=>k r _ r0 r1 (po.step px')⟩) hg (by decide) he hpl
theorem MA(G:FnT Z.X.prog Z.X.w Z.X.K Z.X.mg Z.X.base "_law_draw" 2 ["_law_pen","_law_many"] DE)(hr:Room 2 Z.X.A)(xf:XFly Z.X Z.W)(po:PO O0 p O)(hc:O c=none)(ha:ET Z ρ (Ap O c acc) a (.raw (.ref p)))(hb:ET Z ρ (Ap O c acc) b (.int m))(m0:0<m)(m1:m≤1000000000)(k:∀r O',0≤r→r<m→PO O0 p O'→O' c=none→Φ (.int r) (Ap O' c acc))(hg:Gl Z.X "_law_draw":=by rfl)
  (he:i7 [a,b] Z.X.env=(false,eval a Z.X.env)::i7 [b] Z.X.env:=by rfl) (he2:i7 [b] Z.X.env=(false,eval b Z.X.env)::i7 [] Z.X.env:=by rfl) (hpl:(mM pos (i7 [b] Z.X.env)).any (·.1)=false:=by rfl):WE Z ρ (Ap O c acc) (.Call (.Name "_law_draw" q) [a,b] [] pos) Φ:=by
 obtain⟨xs,hp,px⟩:=po.at
 have hpc:p≠c:=Zd hp hc
 refine Al G hr xf (EA.wa (AQ ha (AQ hb AB he2) he) ⟨p,xs,m,rfl,by rw[Ah hpc];exact hp,px,m0,m1,fun r xs' r0 r1 px'=>?_⟩) hg (by decide) he hpl
 rw[DY hpc]
 exact k r _ r0 r1 (po.step px') (by rw[Ah (Ne.symm hpc)];exact hc)
end
theorem PO.trans{O0 O1 O2:AM}{p:Addr}(a:PO O0 p O1)(b:PO O1 p O2):PO O0 p O2:=by
 obtain⟨xs,rfl,_⟩:=a
 obtain⟨ys,rfl,h⟩:=b
 exact⟨ys,BS,h⟩
end
noncomputable def mm(p:Int×Int):Int×Int:=(min p.1 p.2,max p.1 p.2)
section
variable{P:Program}{w:World}{K:b9}{mg:Str→Option Value}{base:Heap}{CP CL:Addr}
theorem Zs:(Ak ["a","b"] []).Nodup:=by decide+kernel
theorem Zt:(Ak ["tie"] [(("out" :Str),3)]).Nodup:=by decide+kernel
noncomputable def Dh:Bp:=fun ts O Φ _=>∃ps:List (Int×Int),ts=[.lst (ps.map AF)]∧ps.length≤300∧(∀p∈ps,(0≤p.1∧p.1<65536)∧0≤p.2∧p.2<65536)∧
 ∀qs:List (Int×Int),qs.Pairwise CQ→(∀q,q∈qs↔q∈ps.map mm)→qs.length≤ps.length→Φ (.tup (qs.map AF)) O
theorem TM:FnScope ["pairs"] ["pairs"] (AA Ey):=⟨rfl,rfl,rfl,by decide+kernel,rfl,by decide+kernel,by decide+kernel⟩
theorem Np{f:Addr}{fd:jv}(F:Fun K "ties_of" "ties_of" Ey f fd)(Tx:Txt mg):FnOk P w K mg base (CXe P w) 1 f fd ["pairs"] (CC K Dh):=by
 refine AS F TM ?_ ?_
 ·rintro ts O Φ Ξ ⟨ps,rfl,_⟩
  rfl
 ·rintro cdv A outer s H E O Ξ hr xf _ Φ ⟨ps,rfl,hl,hp,q⟩
  have hu:(A.deeper (m9 "ties_of" (AA Ey) s.heap.objs.size f cdv)).units+8<cLine:=by have:=hr.un;omega
  have hz:ps.length≤sizeLine:=kG hl (by decide)
  refine AG (AK (Hg Tx.nTuple (Et (ps:=ps.map mm) Tx.nSorted Tx.nSet rfl hu ?_ (by simpa using hl) ?_ fun qs h1 h2 h3=> ⟨_,rfl,q qs h1 h2 (by simpa using h3)⟩)))
  ·rw[kv]
   refine BM ["a","b"] [] ps AF _ rfl (BV (AA Ey) ["pairs"] (by decide+kernel)) (Am (ev 0)) hz fun x hx=> ⟨[some (.int x.1),some (.int x.2)],fun X' Oe He is O'=>?_⟩
   obtain⟨cl,s',H',fp,rfl⟩:=is
   exact⟨Bb 0 1 rfl Zs (by decide) (by decide),Ba (AD (GP Tx.nMin rfl (ev 0) (ev 1)) (AD (Dq Tx.nMax rfl (ev 0) (ev 1)) AB))⟩
  ·intro z hz
   obtain⟨p,h1,rfl⟩:=jl.mp hz
   have:=hp p h1
   show 0≤max _ _∧max _ _<65536
   omega
noncomputable def Oy:Bp:=EX fun ts r=>∃n u t,ts=[.tup [.int n,u],t]∧DZ t=false∧r=.bl (fj t 0 (n-1))
theorem WV:FnScope ["web","thing"] ["web","thing"] (AA Ni):=⟨rfl,rfl,rfl,by decide+kernel,rfl,by decide+kernel,by decide+kernel⟩
theorem TN{f:Addr}{fd:jv}(F:Fun K "is_place" "is_place" Ni f fd)(G:FnT P w K mg base "is_whole" 1 ["thing","least","most"] GY):FnOk P w K mg base (CXe P w) 2 f fd ["web","thing"] (CC K Oy):=by
 refine AS F WV ?_ ?_
 ·rintro ts O Φ Ξ ⟨r,⟨n,u,t,rfl,_⟩,_⟩
  rfl
 ·rintro cdv A outer s H E O Ξ hr xf _ Φ ⟨_,⟨n,u,t,rfl,ht,rfl⟩,q⟩
  exact AG (AK (ET.we (AJ G hr xf (AD (ev 1) (AD AC (AD (Cz (AR (ev 0) AC) AC) AB))) ⟨t,0,n-1,rfl,ht,rfl⟩) q))
theorem Zu:FnScope ["web","thing"] ["web","thing"] (AA Sw):=⟨rfl,rfl,rfl,by decide+kernel,rfl,by decide+kernel,by decide+kernel⟩
noncomputable def ES(ps:List (Int×Int))(a b:Int):Bool:=decide (mm (a,b)∈ps)
noncomputable def KN:Bp:=EX fun ts r=>∃n ps a b,ts=[AI n ps,.int a,.int b]∧r=.bl (ES ps a b)
theorem Zv:FnScope ["web","a","b"] ["web","a","b"] (AA Ow):=⟨rfl,rfl,rfl,by decide+kernel,rfl,by decide+kernel,by decide+kernel⟩
theorem WX{f:Addr}{fd:jv}(F:Fun K "are_tied" "are_tied" Ow f fd)(Tx:Txt mg):FnOk P w K mg base (CXe P w) 1 f fd ["web","a","b"] (CC K KN):=by
 refine AS F Zv ?_ ?_
 ·rintro ts O Φ Ξ ⟨r,⟨n,ps,a,b,rfl,_⟩,_⟩
  rfl
 ·rintro cdv A outer s H E O Ξ hr xf _ Φ ⟨_,⟨n,ps,a,b,rfl,rfl⟩,q⟩
  have hu:(A.deeper (m9 "are_tied" (AA Ow) s.heap.objs.size f cdv)).units+102<cLine:=by have:=hr.un;omega
  refine AG (AK (ET.we (ET.cast (FW (Sl hu) rfl (Jy (Eu (mm (a,b))) Ci (EO _)) (An (GP Tx.nMin rfl (ev 1) (ev 2)) (Dq Tx.nMax rfl (ev 1) (ev 2))) (AR (ev 0) AC)) ?_) q))
  show T.bl ((dTs (ps.map AF)).any fun y=>kr y (dT (AF (mm (a,b)))))=T.bl (ES ps a b)
  rw[Fh]
  rfl
theorem Oz:FnScope ["web","things","thing"] ["web","things"] (AA Nj):=⟨rfl,rfl,rfl,by decide+kernel,rfl,by decide+kernel,by decide+kernel⟩
noncomputable def WY(ps cs ds:List (Int×Int)):List (Int×Int):=(ps.filter (fun p=>!decide (p∈cs.map mm))++ds).map mm
noncomputable def TQ(p:Int×Int):Prop:=(0≤p.1∧p.1<65536)∧0≤p.2∧p.2<65536
noncomputable def Hr:Bp:=fun ts O Φ _=>∃n ps cs ds,ts=[AI n ps,.lst (cs.map AF),.lst (ds.map AF)]∧ps.length≤200∧cs.length≤50∧ds.length≤50∧(∀p∈ps,TQ p)∧(∀p∈cs,TQ p)∧(∀p∈ds,TQ p)∧
 ∀rs:List (Int×Int),rs.Pairwise CQ→(∀q,q∈rs↔q∈WY ps cs ds)→rs.length≤250→Φ (AI n rs) O
theorem MB:FnScope ["web","cut","tied","out"] ["web","cut","tied"] (AA Ez):=⟨rfl,rfl,rfl,by decide+kernel,rfl,by decide+kernel,by decide+kernel⟩
theorem Qe{f:Addr}{fd:jv}(F:Fun K "retied" "retied" Ez f fd)(G:FnT P w K mg base "ties_of" 1 ["pairs"] Dh):FnOk P w K mg base (CXe P w) 2 f fd ["web","cut","tied"] (CC K Hr):=by
 refine AS F MB ?_ ?_
 ·rintro ts O Φ Ξ ⟨n,ps,cs,ds,rfl,_⟩
  rfl
 ·rintro cdv A outer s H E O Ξ hr xf _ Φ ⟨n,ps,cs,ds,rfl,l1,l2,l3,b1,b2,b3,q⟩
  have sb:=AX
  have hu:(A.deeper (m9 "retied" (AA Ez) s.heap.objs.size f cdv)).units+102<cLine:=by have:=hr.un;omega
  refine AE (AN 3 (Al G hr xf (EA.wa (AD (ev 1) AB) ⟨cs,rfl,by omega,b2,fun qs s1 s2 s3=>?_⟩)) MB.nd)
  have lf:(ps.filter (fun p=>!decide (p∈qs))).length≤ps.length:=lz ..
  refine AG (AK (HZ (Hk (ET.we (AR (ev 0) AC) (Hk (Al G hr xf (EA.wa (ts:=[.lst ((ps.filter (fun p=>!decide (p∈qs))++ds).map AF)]) (AD ?_ AB) ⟨ps.filter (fun p=>!decide (p∈qs))++ds,rfl,by simp;omega,?_,fun rs r1 r2 r3=>BL ⟨by show 2≤sizeLine;decide,q rs r1 (fun z=>?_) ?_⟩⟩)))))))
  ·rw[jX]
   refine DB (Dc ["tie"] [("out",3)] ps AF AF (fun p=>!decide (p∈qs)) rfl (BV (AA Ez) ["web","cut","tied","out"] (by decide+kernel)) (DA (AR (ev 0) AC)) (by omega) fun x hx=> ⟨[some (AF x),some (.tup (qs.map AF))],fun X' Oe He is O'=>?_⟩) (ev 2) (by simp;omega)
   obtain⟨cl,s',H',fp,rfl⟩:=is
   refine⟨AV 0 Zt (by decide),EB.cast (Af (Jx hu) rfl (Jy (Eu x) Ci (EO _)) (ev 0) (ev 1)) ?_,fun _=>ev 0⟩
   rw[Fh]
  ·intro p hp
   rcases ju.mp hp with hp|hp
   ·exact b1 p (jo.mp hp).1
   ·exact b3 p hp
  ·rw[r2 z]
   have e:ps.filter (fun p=>!decide (p∈qs))=ps.filter (fun p=>!decide (p∈cs.map mm)):=by
    refine List.filter_congr fun p _=>?_
    have:(p∈qs)=(p∈cs.map mm):=propext (s2 p)
    simp only[this]
   unfold WY
   rw[e]
  ·simp at r3
   omega
noncomputable def Uq(ps:List (Int×Int))(a b c e:Int):Bool:=!(!decide ((Up [a,b,c,e]:Int)=4)|| (!ES ps a b||!ES ps c e))&&(!ES ps a c&&!ES ps b e)
noncomputable def TR:Bp:=EX fun ts r=>∃n ps a b c e,ts=[AI n ps,.int a,.int b,.int c,.int e]∧r=.bl (Uq ps a b c e)
theorem dO:FnScope ["web","a","b","c","e"] ["web","a","b","c","e"] (AA Zl):=⟨rfl,rfl,rfl,by decide+kernel,rfl,by decide+kernel,by decide+kernel⟩
theorem Zw{f:Addr}{fd:jv}(F:Fun K "can_cross" "can_cross" Zl f fd)(Tx:Txt mg)(G:FnT P w K mg base "are_tied" 1 ["web","a","b"] KN):FnOk P w K mg base (CXe P w) 2 f fd ["web","a","b","c","e"] (CC K TR):=by
 refine AS F dO ?_ ?_
 ·rintro ts O Φ Ξ ⟨r,⟨n,ps,a,b,c,e,rfl,_⟩,_⟩
  rfl
 ·rintro cdv A outer s H E O Ξ hr xf _ Φ ⟨_,⟨n,ps,a,b,c,e,rfl,rfl⟩,q⟩
  refine AE (Ad (EW.eb (Bh (DV (Qa (ns:=[a,b,c,e]) Tx.nLen Tx.nSet rfl (Au (AD (ev 1) (AD (ev 2) (AD (ev 3) (AD (ev 4) AB)))) (by show 4≤sizeLine;decide)) (by simp)) AC) fun _=>Bh (BH (Bg (AJ G hr xf (AD (ev 0) (AD (ev 1) (AD (ev 2) AB))) ⟨n,ps,a,b,rfl,rfl⟩))) fun _=>Bm (BH (Bg (AJ G hr xf (AD (ev 0) (AD (ev 3) (AD (ev 4) AB))) ⟨n,ps,c,e,rfl,rfl⟩))))) (fun h=>AG (AK (Iw _ ?_))) (fun h=>AZ (AG (AK (ET.we (Jq (NU (AJ G hr xf (AD (ev 0) (AD (ev 1) (AD (ev 3) AB))) ⟨n,ps,a,c,rfl,rfl⟩)) fun _=>Jp (NU (AJ G hr xf (AD (ev 0) (AD (ev 2) (AD (ev 4) AB))) ⟨n,ps,b,e,rfl,rfl⟩))) ?_)))))
  ·have:Uq ps a b c e=false:=by unfold Uq;rw[h];rfl
   rw[this] at q
   exact q
  ·have:Uq ps a b c e=(!ES ps a c&&!ES ps b e):=by unfold Uq;rw[h];rfl
   rw[this] at q
   exact q
noncomputable def Nq:Bp:=fun ts O Φ _=>∃n ps a b c e,ts=[AI n ps,.int a,.int b,.int c,.int e]∧ps.length≤200∧(∀p∈ps,TQ p)∧(∀z∈[a,b,c,e],0≤z∧z<65536)∧
 ∀rs:List (Int×Int),rs.Pairwise CQ→(∀q,q∈rs↔q∈WY ps [(a,b),(c,e)] [(a,c),(b,e)])→rs.length≤250→Φ (AI n rs) O
theorem Zy:FnScope ["web","a","b","c","e"] ["web","a","b","c","e"] (AA Sx):=⟨rfl,rfl,rfl,by decide+kernel,rfl,by decide+kernel,by decide+kernel⟩
theorem WZ{f:Addr}{fd:jv}(F:Fun K "exchanged" "exchanged" Sx f fd)(G:FnT P w K mg base "retied" 2 ["web","cut","tied"] Hr):FnOk P w K mg base (CXe P w) 3 f fd ["web","a","b","c","e"] (CC K Nq):=by
 refine AS F Zy ?_ ?_
 ·rintro ts O Φ Ξ ⟨n,ps,a,b,c,e,rfl,_⟩
  rfl
 ·rintro cdv A outer s H E O Ξ hr xf _ Φ ⟨n,ps,a,b,c,e,rfl,hl,hb,hz,q⟩
  have za:=hz a (by simp)
  have zb:=hz b (by simp)
  have zc:=hz c (by simp)
  have ze:=hz e (by simp)
  refine AG (AK (Al G hr xf (EA.wa (ts:=[AI n ps,.lst ([(a,b),(c,e)].map AF),.lst ([(a,c),(b,e)].map AF)]) (AD (ev 0) (AD (Au (AD (An (ev 1) (ev 2)) (AD (An (ev 3) (ev 4)) AB)) (by show 2≤sizeLine;decide)) (AD (Au (AD (An (ev 1) (ev 3)) (AD (An (ev 2) (ev 4)) AB)) (by show 2≤sizeLine;decide)) AB))) ⟨n,ps,_,_,rfl,hl,by simp,by simp,hb,?_,?_,q⟩)))
  ·intro p hp
   simp at hp
   rcases hp with rfl|rfl
   ·exact⟨za,zb⟩
   ·exact⟨zc,ze⟩
  ·intro p hp
   simp at hp
   rcases hp with rfl|rfl
   ·exact⟨za,zc⟩
   ·exact⟨zb,ze⟩
end
noncomputable abbrev KO:Stmt:=top 19
noncomputable abbrev TU:Stmt:=top 20
noncomputable abbrev JG:Stmt:=top 21
noncomputable abbrev PB:Stmt:=top 22
section
variable{P:Program}{w:World}{K:b9}{mg:Str→Option Value}{base:Heap}
end
open Gr
section
variable{P:Program}{w:World}{K:b9}{mg:Str→Option Value}{base:Heap}{CP:Addr}
noncomputable def Ae(qs:List (Int×Int))(i:Nat):List Int:=qs.filterMap fun p=>if p.1=(i:Int) then some p.2 else if p.2=(i:Int) then some p.1 else none
theorem MC{qs:List (Int×Int)}{p:Int×Int}{i:Nat}:Ae (qs++[p]) i=Ae qs i++(if p.1=(i:Int) then[p.2] else if p.2=(i:Int) then[p.1] else[]):=by
 unfold Ae
 rw[List.filterMap_append]
 congr 1
 by_cases h:p.1=(i:Int)
 ·simp[h]
 ·by_cases h2:p.2=(i:Int)
  ·simp[h,h2]
  ·simp[h,h2]
theorem DF{qs:List (Int×Int)}{i:Nat}:(Ae qs i).length≤qs.length:=List.length_filterMap_le ..
noncomputable def Hs(n:Int)(ps:List (Int×Int)):T:=.lst ((j6 n.toNat).map fun i=> .lst ((Ae ps i).map T.int))
structure Nst(n:Int)(O:AM)(l:Addr)(qs:List (Int×Int))(rs:List (Addr×List T)):Prop where
 len:(rs.length:Int)=n
 nd:(rs.map mn).Nodup
 ne:∀r∈rs,r.1≠l
 fr:∀r∈rs,O r.1=none
 val:∀(i:Nat) r,rs[i]?=some r→r.2=(Ae qs i).map T.int
theorem FA{rs:List (Addr×List T)}{i:Nat}{r:Addr×List T}{vs:List T}(h:rs[i]?=some r):(rs.set i (r.1,vs)).map mn=rs.map mn:=Vv (us:=r.2) h
theorem dP{O:AM}{rs:List (Addr×List T)}{l:Addr}{i:Nat}{r:Addr×List T}{us:List T}(e:rs[i]?=some r)(hn:(rs.map mn).Nodup)(hl:∀r∈rs,r.1≠l):
  Ap (Ap (Ku O rs) l (rs.map IS)) r.1 us=Ap (Ku O (rs.set i (r.1,us))) l ((rs.set i (r.1,us)).map IS):=by
 rw[DY (hl r (i9 e)),Vu (us:=r.2) hn e]
 congr 1
 have:=FA (vs:=us) e
 have e1:∀rs:List (Addr×List T),rs.map IS=(rs.map mn).map fun a=>T.raw (.ref a):=fun rs=>by rw[kv];rfl
 rw[e1,e1,this]
theorem Nst.set2{n:Int}{O:AM}{l:Addr}{qs:List (Int×Int)}{rs:List (Addr×List T)}(h:Nst n O l qs rs){a b:Nat}(hab:a≠b){ra rb:Addr×List T}(ea:rs[a]?=some ra)(eb:rs[b]?=some rb):
  Nst n O l (qs++[((a:Int),(b:Int))]) ((rs.set a (ra.1,ra.2++[T.int b])).set b (rb.1,rb.2++[T.int a])):=by
 have eb':(rs.set a (ra.1,ra.2++[T.int b]))[b]?=some rb:=by rw[jx hab];exact eb
 have m1:=FA (vs:=ra.2++[T.int b]) ea
 have m2:=FA (vs:=rb.2++[T.int a]) eb'
 have hm:∀r∈((rs.set a (ra.1,ra.2++[T.int b])).set b (rb.1,rb.2++[T.int a])),∃r'∈rs,r'.1=r.1:=fun r hr=>by
  have:r.1∈(((rs.set a (ra.1,ra.2++[T.int b])).set b (rb.1,rb.2++[T.int a])).map mn):=qp hr
  rw[m2,m1] at this
  obtain⟨r',h1,h2⟩:=jl.mp this
  exact⟨r',h1,h2⟩
 refine⟨by rw[nA,nA];exact h.len,by rw[m2,m1];exact h.nd,fun r hr=>?_,fun r hr=>?_,fun i r e=>?_⟩
 ·obtain⟨r',h1,h2⟩:=hm r hr
  rw[←h2];exact h.ne r' h1
 ·obtain⟨r',h1,h2⟩:=hm r hr
  rw[←h2];exact h.fr r' h1
 ·have la:=(jc.mp ea).1
  have lb:=(jc.mp eb).1
  rw[MC,jX]
  by_cases h1:i=b
  ·subst h1
   rw[ky (by rw[nA];exact lb)] at e
   cases e
   have:¬((a:Int)=(i:Int)):=by omega
   show rb.2++[T.int a]=_
   rw[h.val i rb eb]
   simp[this]
  ·rw[jx (fun z=>h1 z.symm)] at e
   by_cases h2:i=a
   ·subst h2
    rw[ky la] at e
    cases e
    show ra.2++[T.int b]=_
    rw[h.val i ra ea]
    simp
   ·rw[jx (fun z=>h2 z.symm)] at e
    have n1:¬((a:Int)=(i:Int)):=by omega
    have n2:¬((b:Int)=(i:Int)):=by omega
    rw[h.val i r e]
    simp[n1,n2]
theorem Nst.tree{n:Int}{O:AM}{l:Addr}{ps:List (Int×Int)}{rs:List (Addr×List T)}(h:Nst n O l ps rs):T.lst (rs.map fun r=>T.lst r.2)=Hs n ps:=by
 have hl:=h.len
 unfold Hs
 congr 1
 apply lH
 intro i
 rw[e9,e9]
 by_cases hi:i<rs.length
 ·rw[i8 hi,nR (by omega)]
  show some (T.lst rs[i].2)=_
  rw[h.val i rs[i] (i8 hi)]
  rfl
 ·rw[lA (by omega),lA (by rw[lG];omega)]
  rfl
noncomputable def FB:Bp:=EX fun ts r=>∃n ps,ts=[AI n ps]∧0≤n∧n≤200∧JD n ps∧ps.length≤200∧r=Hs n ps
theorem KP:FnScope ["web","nears","a","b"] ["web"] (AA KO):=⟨rfl,rfl,rfl,by decide+kernel,rfl,by decide+kernel,by decide+kernel⟩
theorem dQ:(Ak ["place"] []).Nodup:=by decide+kernel
theorem TV{f:Addr}{fd:jv}(F:Fun K "nears_of" "nears_of" KO f fd)(Tx:Txt mg):FnOk P w K mg base (CXe P w) 1 f fd ["web"] (CC K FB):=by
 refine AS F KP ?_ ?_
 ·rintro ts O Φ Ξ ⟨r,⟨n,ps,rfl,_⟩,_⟩
  rfl
 ·rintro cdv A outer s H E O Ξ hr xf _ Φ ⟨_,⟨n,ps,rfl,n0,n1,hw,hl,rfl⟩,q⟩
  have sb:=AX
  refine AE (JC (i:=1) (nc:=["place"]) (cap:=[]) (by rfl) KP.nd rfl (BV (AA KO) ["web","nears","a","b"] (by decide+kernel)) (EI.wi (BF Tx.nRange (AR (ev 0) AC) ⟨by omega,by omega⟩) ?_))
  refine⟨fun i acc O'=>i≤200∧∃as:List Addr,acc=(as.map fun a=> (a,([]:List T))).map IS∧as.length=i∧as.Nodup∧(∀a∈as,O a=none)∧O'=Ku O (as.map fun a=> (a,[])),⟨by omega,[],rfl,rfl,by simp,(fun _ h=>by cases h),rfl⟩,?_,?_⟩
  ·rintro i t acc O' c e ⟨_,as,rfl,hal,hnd,hfr,rfl⟩ hc
   obtain⟨hi,rfl⟩:=DX e
   refine⟨[some (.int (0+(i:Int)))],fun X' Oe He is=> ⟨?_,GN (JX fun X' Oe He is=>?_)⟩⟩
   ·obtain⟨cl,s',H',fp,rfl⟩:=is
    exact AV 0 dQ (by decide)
   ·obtain⟨cl,s',H',fp,rfl⟩:=is
    refine Cy (BL ⟨kN _,fun p hp=>?_⟩)
    have hpc:p≠c:=fun z=>by rw[z,AH] at hp;cases hp
    rw[Ah hpc] at hp
    have hpa:p∉as:=fun z=>by
     rw[ER (rs:=as.map fun a=> (a,[])) (r:=(p,[])) (by rw[kv];simpa[Function.comp_def] using hnd) (qp z)] at hp
     cases hp
    have hpO:O p=none:=by
     rw[Ds fun r hr=>by
      obtain⟨a,ha,rfl⟩:=jl.mp hr
      exact fun z=>hpa (z▸ha)] at hp
     exact hp
    refine⟨Ap (Ku O (as.map fun a=> (a,[]))) p [],DY hpc,by rw[Ah hpc.symm];exact hc,by rw[e7,e7];omega,by omega,as++[p],by rw[jX,jX];rfl,by simp;omega,?_,fun a ha=>?_,?_⟩
    ·rw[kS]
     refine⟨hnd,by simp,fun a ha b hb z=>?_⟩
     rw[jd.mp hb] at z
     exact hpa (z▸ha)
    ·rcases ju.mp ha with ha|ha
     ·exact hfr a ha
     ·rw[jd.mp ha];exact hpO
    ·rw[jX];exact(Sm (r:=(p,[]))).symm
  ·rintro acc O' ⟨_,as,rfl,hal,hnd,hfr,rfl⟩ l hlO
   rw[BX] at hal
   have hkeys:((as.map fun a=> (a,([]:List T))).map mn)=as:=by rw[kv];simp[Function.comp_def]
   have nst0:Nst n O l [] (as.map fun a=> (a,([]:List T))):=by
    refine⟨by rw[e7];omega,by rw[hkeys];exact hnd,fun r hr z=>?_,fun r hr=>?_,fun i r e=>?_⟩
    ·rw[←z,ER (by rw[hkeys];exact hnd) hr] at hlO
     cases hlO
    ·obtain⟨a,ha,rfl⟩:=jl.mp hr
     exact hfr a ha
    ·have:=i9 e
     obtain⟨a,ha,rfl⟩:=jl.mp this
     rfl
   have hlO':O l=none:=by
    rw[Ds nst0.ne] at hlO
    exact hlO
   refine AE (Bc Ao.own rfl (EI.wi (DA (AR (ev 0) AC)) ⟨fun j ρ' O'=>∃rs v2 v3,ρ'=[some (AI n ps),some (.raw (.ref l)),v2,v3]∧O'=Ap (Ku O rs) l (rs.map IS)∧Nst n O l (ps.take j) rs,⟨_,none,none,rfl,rfl,by rw[pL];exact nst0⟩,?_,?_⟩))
   ·rintro j t _ _ e ⟨rs,v2,v3,rfl,rfl,nst⟩
    rw[e9] at e
    cases ec:ps[j]? with
    |none=>rw[ec] at e;cases e
    |some z=>
     rw[ec] at e
     cases e
     have hb:=hw z (i9 ec)
     have hlen:=nst.len
     have htl:(ps.take j).length≤200:=by rw[j8];omega
     obtain⟨a,ea⟩:=j7 hb.1
     obtain⟨b,eb⟩:=j7 (show 0≤z.2 by omega)
     have ha:a<rs.length:=by omega
     have hb':b<rs.length:=by omega
     have hab:a≠b:=by omega
     have ga:=i8 ha
     have gb:(rs.set a (rs[a].1,rs[a].2++[T.int b]))[b]?=some rs[b]:=by rw[jx hab];exact i8 hb'
     have m1:=FA (vs:=rs[a].2++[T.int b]) ga
     have nd1:((rs.set a (rs[a].1,rs[a].2++[T.int b])).map mn).Nodup:=by rw[m1];exact nst.nd
     have ne1:∀r∈rs.set a (rs[a].1,rs[a].2++[T.int b]),r.1≠l:=fun r hr=>by
      have:r.1∈(rs.set a (rs[a].1,rs[a].2++[T.int b])).map mn:=qp hr
      rw[m1] at this
      obtain⟨r',h1,h2⟩:=jl.mp this
      rw[←h2];exact nst.ne r' h1
     have la:rs[a].2.length≤200:=by rw[nst.val a rs[a] ga,e7];exact kG DF htl
     have lb:rs[b].2.length≤200:=by rw[nst.val b rs[b] (i8 hb'),e7];exact kG DF htl
     have ez:z=((a:Int),(b:Int)):=by rw[←ea,←eb]
     subst ez
     refine⟨[some (AI n ps),some (.raw (.ref l)),some (.int a),some (.int b)],Bb 2 3 rfl KP.nd (by show 2<4;decide) (by show 3<4;decide),?_⟩
     refine AE (BC (Cg (ET.we (DW (ts:=rs.map IS) AH (ev 1) (ev 2) (BP (by rw[e9,ga];rfl))) ⟨rs[a].1,rfl,⟨rs[a].2,?_⟩,ET.we (ev 3) ⟨rs[a].2,?_,by omega,?_⟩⟩)))
     ·rw[Ah (nst.ne _ (kT ha))];exact ER nst.nd (kT ha)
     ·rw[Ah (nst.ne _ (kT ha))];exact ER nst.nd (kT ha)
     ·rw[dP ga nst.nd nst.ne]
      refine AG (BC (Cg (ET.we (DW (ts:=(rs.set a (rs[a].1,rs[a].2++[T.int b])).map IS) AH (ev 1) (ev 3) (BP (by rw[e9,gb];rfl))) ⟨rs[b].1,rfl,⟨rs[b].2,?_⟩,ET.we (ev 2) ⟨rs[b].2,?_,by omega,?_⟩⟩)))
      ·rw[Ah (ne1 _ (i9 gb))];exact ER nd1 (i9 gb)
      ·rw[Ah (ne1 _ (i9 gb))];exact ER nd1 (i9 gb)
      ·rw[dP gb nd1 ne1]
       refine⟨_,_,_,rfl,rfl,?_⟩
       have:ps.take (j+1)=ps.take j++[((a:Int),(b:Int))]:=by
        rw[kO,ec];rfl
       rw[this]
       exact nst.set2 hab ga (i8 hb')
   ·rintro _ _ ⟨rs,v2,v3,rfl,rfl,nst⟩
    rw[e7,kI] at nst
    refine So nst.nd nst.ne nst.fr nst.fr ?_
    refine Bq (p:=l) (n:=1) (ts:=rs.map fun r=>T.lst r.2) AH hlO' rfl ?_
    rw[BG hlO']
    refine AG (AK (ET.we (ev 1) ?_))
    show Φ (T.lst (rs.map fun r=>T.lst r.2)) O
    rw[nst.tree]
    exact q
end
section
variable{P:Program}{w:World}{K:b9}{mg:Str→Option Value}{base:Heap}{CP:Addr}
theorem Fl{n:Int}{ps:List (Int×Int)}(hw:JD n ps){i:Nat}{v:Int}:v∈Ae ps i↔Adj ps (i:Int) v:=by
 unfold Ae Adj
 rw[ml]
 constructor
 ·rintro⟨p,hp,e⟩
  by_cases h:p.1=(i:Int)
  ·rw[if_pos h] at e
   cases e
   exact .inl (by rw[←h];exact hp)
  ·rw[if_neg h] at e
   by_cases h2:p.2=(i:Int)
   ·rw[if_pos h2] at e
    cases e
    exact .inr (by rw[←h2];exact hp)
   ·rw[if_neg h2] at e;cases e
 ·rintro(h|h)
  ·exact⟨_,h,by simp⟩
  ·have:=hw _ h
   simp only at this
   exact⟨_,h,by rw[if_neg (by omega)];simp⟩
theorem TX{n:Int}{ps:List (Int×Int)}{i:Nat}(h:(i:Int)<n):atI ((j6 n.toNat).map fun i=>T.lst ((Ae ps i).map T.int)) (i:Int)=some (.lst ((Ae ps i).map T.int)):=
 BP (by rw[e9,nR (by omega)];rfl)
theorem KQ{m:Nat}{i:Nat}(h:i<m):QE m (i:Int)=some i:=by
 unfold QE
 rw[if_pos (by omega),if_pos (by omega)]
 rfl
structure WebN(n:Int)(ps:List (Int×Int)):Prop where
 n0:0≤n
 n1:n≤200
 hw:JD n ps
 hl:ps.length≤200
theorem Zz:FnScope ["web","place"] ["web","place"] (AA TU):=⟨rfl,rfl,rfl,by decide+kernel,rfl,by decide+kernel,by decide+kernel⟩
noncomputable def BD:Option Nat→T
 |none=> .non
 |some d=> .int d
theorem MD{x:Option Nat}:DZ (BD x)=false:=by cases x<;>rfl
theorem ME{x:Option Nat}:JB (BD x)=x.isNone:=by cases x<;>rfl
noncomputable def TY:List Str:=["nears","starts","fars","start","border","steps","beyond","place","near"]
theorem Ca:FnScope TY ["nears","starts"] (AA JG):=⟨rfl,rfl,rfl,by decide+kernel,rfl,by decide+kernel,by decide+kernel⟩
theorem dR:(Ak ["near"] []).Nodup:=by decide+kernel
noncomputable def iU(i:Nat):Stmt:=(BQ JG).getD i (.Pass ⟨0,0,0,0⟩)
noncomputable def MF:Stmt→List Stmt
 | .While _ b _ _=>b
 | .For _ _ b _ _=>b
 |_=> []
noncomputable def dS(i:Nat):Stmt:=(MF (iU 4)).getD i (.Pass ⟨0,0,0,0⟩)
variable{f:Addr}{cdv:Value}{A:js}{outer:List Env}{s:c9}{H:Hp}{E:XK}{O:AM}{Ξ:Value→AM→Prop}{n:Int}{ps:List (Int×Int)}{S bs:List Int}{l lb:Addr}
noncomputable abbrev zF(P:Program)(w:World)(K:b9)(mg:Str→Option Value)(base:Heap)(f:Addr)(cdv:Value)(A:js)(outer:List Env)(s:c9)(H:Hp)(E:XK)(O:AM)(Ξ:Value→AM→Prop):Zx:=zB P w K mg base TY "fars_from" (AA JG) f cdv A outer s H E O Ξ
noncomputable abbrev GE(O:AM)(l lb:Addr)(fs:List (Option Nat))(BK:List Int):AM:=Ap (Ap O l (fs.map BD)) lb (BK.map T.int)
end
section
variable{P:Program}{w:World}{K:b9}{mg:Str→Option Value}{base:Heap}{CP:Addr}{f:Addr}{cdv:Value}{A:js}{outer:List Env}{s:c9}{H:Hp}{E:XK}{O:AM}{Ξ:Value→AM→Prop}{n:Int}{ps:List (Int×Int)}{S bs:List Int}{l lb:Addr}
end
open GrR
noncomputable abbrev Bu(rows:List (List Int)):T:=.lst (rows.map fun r=> .lst (r.map T.int))
noncomputable def Rw(rows:List (List Int))(u v:Int):Prop:=0≤u∧v∈rows.getD u.toNat []
structure RowsN(n:Int)(rows:List (List Int)):Prop where
 len:(rows.length:Int)=n
 n1:n≤200
 hw:dJ n (Rw rows)
theorem MG{rows:List (List Int)}{i:Nat}{v:Int}:v∈rows.getD i []↔Rw rows (i:Int) v:=by
 unfold Rw
 rw[kH]
 exact⟨fun h=> ⟨by omega,h⟩,fun h=>h.2⟩
theorem KR{rows:List (List Int)}{i:Nat}(h:i<rows.length):atI (rows.map fun r=>T.lst (r.map T.int)) (i:Int)=some (.lst ((rows.getD i []).map T.int)):=
 BP (by rw[e9,i8 h];simp[m6,h])
theorem TZ{R:Int→Int→Prop}{S:List Int}{v:Int}:IsD R S v 0↔v∈S:=by
 constructor
 ·rintro⟨w,_⟩
  cases w with
  |«at» h=>exact h
 ·intro h
  exact⟨.at h,fun j hj=>by omega⟩
section
variable{P:Program}{w:World}{K:b9}{mg:Str→Option Value}{base:Heap}{f:Addr}{cdv:Value}{A:js}{outer:List Env}{s:c9}{H:Hp}{E:XK}{O:AM}{Ξ:Value→AM→Prop}{n:Int}{rows:List (List Int)}{S bs:List Int}{l lb:Addr}
noncomputable def KS:Bp:=fun ts O Φ _=>∃n rows S,ts=[Bu rows,.lst (S.map T.int)]∧RowsN n rows∧(∀z∈S,0≤z∧z<n)∧∀fs,All n (Rw rows) S fs→Φ (.lst (fs.map BD)) O
noncomputable abbrev GF(n:Int)(rows:List (List Int))(S:List Int)(l:Addr)(v3:Option T)(bs:List Int)(k:Nat)(v6 v7 v8:Option T):List (Option T):=[some (Bu rows),some (.lst (S.map T.int)),some (.raw (.ref l)),v3,some (.lst (bs.map T.int)),some (.int (k:Int)),v6,v7,v8]
theorem Qf{v3 v7:Option T}{k:Nat}{fs:List (Option Nat)}{BK ds:List Int}{u:Int}{v:Nat}{Φ:Bf}{N Bk Ct:Li}(hll:lb≠l)(n1:n≤200)(hv:(v:Int)<n)(m:Mid n (Rw rows) S k fs BK ds)(nd:BK.Nodup)(hw:dJ n (Rw rows))(hS:∀z∈S,0≤z∧z<n)(hu:IsD (Rw rows) S u k)(a:Rw rows u v)
  (q:∀fs BK,Mid n (Rw rows) S k fs BK (ds++[(v:Int)])→BK.Nodup→N (GF n rows S l v3 bs (k+1) (some (.raw (.ref lb))) v7 (some (.int v))) (GE O l lb fs BK)):
  Fu (zF P w K mg base f cdv A outer s H E O Ξ) (GF n rows S l v3 bs (k+1) (some (.raw (.ref lb))) v7 (some (.int v))) (GE O l lb fs BK) (MF ((MF (dS 2)).getD 0 (.Pass ⟨0,0,0,0⟩))) {nx:=N,rt:=Φ,bk:=Bk,ct:=Ct}:=by
 have sb:=AX
 have hl:=m.len
 have hlt:v<fs.length:=by omega
 have gl:GE O l lb fs BK l=some (fs.map BD):=by
  show Ap (Ap O l _) lb _ l=_
  rw[Ah hll.symm,AH]
 have gv:atI (fs.map BD) (v:Int)=some (BD fs[v]):=BP (by rw[e9,i8 hlt];rfl)
 refine AG (Ad (De MD (DW gl (ev 2) (ev 8) gv)) (fun h=>?_) (fun h=>AZ ?_))
 ·rw[ME] at h
  have hn:fs[(v:Int).toNat]?=some none:=by
   rw[kH,i8 hlt]
   cases z:fs[v] with
   |none=>rfl
   |some d=>rw[z] at h;cases h
  have hb:BK.length≤n.toNat:=Gr.Nc nd fun z hz=> (m.sub z hz).1.inb hw hS
  refine AE (Hc (ET.we (ev 5) (ET.we (ev 2) ⟨l,rfl,ET.we (ev 8) ⟨_,_,v,rfl,gl,by rw[e7];exact KQ hlt,?_⟩⟩)))
  have eo:Ap (GE O l lb fs BK) l ((fs.map BD).set v (.int ((k+1:Nat):Int)))=GE O l lb (fs.set v (some (k+1))) BK:=by
   show Ap (Ap (Ap O l _) lb _) l _=_
   rw[DY hll.symm,BS]
   show _=Ap (Ap O l ((fs.set v (some (k+1))).map BD)) lb _
   rw[rG]
   rfl
  rw[eo]
  refine AG (BC (Cg (ET.we (ev 6) ⟨lb,rfl,⟨_,AH⟩,ET.we (ev 8) ⟨BK.map T.int,AH,by rw[e7];omega,?_⟩⟩)))
  have m2:=m.hit (v:=(v:Int)) (by omega) hv hn hu a
  rw[kH] at m2
  have:=q _ _ m2 (by
   rw[kS]
   refine⟨nd,by simp,fun x hx y hy z=>?_⟩
   rw[jd.mp hy] at z
   exact m.fresh (by omega) hv hn (z▸hx))
  have e2:Ap (GE O l lb (fs.set v (some (k+1))) BK) lb (BK.map T.int++[T.int v])=GE O l lb (fs.set v (some (k+1))) (BK++[(v:Int)]):=by
   show Ap (Ap (Ap O l _) lb _) lb _=Ap (Ap O l _) lb _
   rw[BS,jX]
   rfl
  rw[e2]
  exact this
 ·rw[ME] at h
  cases z:fs[v] with
  |none=>rw[z] at h;cases h
  |some d=>exact q fs BK (m.miss (by omega) hv (d:=d) (by rw[kH,i8 hlt,z])) nd
theorem Nr{v3 v8:Option T}{k:Nat}{fs:List (Option Nat)}{BK ds:List Int}{u:Nat}{Φ:Bf}{N Bk Ct:Li}(hll:lb≠l)(hrl:(rows.length:Int)=n)(n1:n≤200)(hu0:(u:Int)<n)(m:Mid n (Rw rows) S k fs BK ds)(nd:BK.Nodup)(hw:dJ n (Rw rows))(hS:∀z∈S,0≤z∧z<n)(hu:IsD (Rw rows) S u k)
  (q:∀v8 fs BK ds',Mid n (Rw rows) S k fs BK ds'→BK.Nodup→(∀v∈ds,v∈ds')→(∀v,Rw rows u v→v∈ds')→N (GF n rows S l v3 bs (k+1) (some (.raw (.ref lb))) (some (.int u)) v8) (GE O l lb fs BK)):
  Fu (zF P w K mg base f cdv A outer s H E O Ξ) (GF n rows S l v3 bs (k+1) (some (.raw (.ref lb))) (some (.int u)) v8) (GE O l lb fs BK) (MF (dS 2)) {nx:=N,rt:=Φ,bk:=Bk,ct:=Ct}:=by
 refine AG (Bc Ao.own rfl (EI.wi (Am (CJ (ev 0) (ev 7) (KR (by omega)))) ⟨fun j ρ' O'=>∃v8 fs BK ds',ρ'=GF n rows S l v3 bs (k+1) (some (.raw (.ref lb))) (some (.int u)) v8∧O'=GE O l lb fs BK∧Mid n (Rw rows) S k fs BK ds'∧BK.Nodup∧(∀v∈ds,v∈ds')∧∀v∈(rows.getD u []).take j,v∈ds',⟨v8,fs,BK,ds,rfl,rfl,m,nd,fun _ h=>h,fun v h=>by simp at h⟩,?_,?_⟩))
 ·rintro j t _ _ e ⟨v8,fs,BK,ds',rfl,rfl,m,nd,h1,h2⟩
  rw[e9] at e
  cases ec:(rows.getD u [])[j]? with
  |none=>rw[ec] at e;cases e
  |some z=>
   rw[ec] at e
   cases e
   have a:=MG.mp (i9 ec)
   have hb:=hw _ _ a
   obtain⟨v,rfl⟩:=j7 hb.1
   refine⟨GF n rows S l v3 bs (k+1) (some (.raw (.ref lb))) (some (.int u)) (some (.int v)),AV 8 Ca.nd (by show 8<9;decide),Qf hll n1 hb.2 m nd hw hS hu a fun fs' bey' m' nd'=> ⟨_,_,_,_,rfl,rfl,m',nd',fun x hx=>mq _ (h1 x hx),fun x hx=>?_⟩⟩
   rw[kO,ec] at hx
   rcases ju.mp hx with hx|hx
   ·exact mq _ (h2 x hx)
   ·exact kM _ hx
 ·rintro _ _ ⟨v8,fs,BK,ds',rfl,rfl,m,nd,h1,h2⟩
  rw[e7,kI] at h2
  exact q v8 fs BK ds' m nd h1 fun v a=>h2 v (MG.mpr a)
theorem Nt{v3 v6 v7 v8:Option T}{k:Nat}{fs:List (Option Nat)}{Φ:Bf}{N Bk Ct:Li}(hlO:O l=none)(wn:RowsN n rows)(hS:∀z∈S,0≤z∧z<n)(h:Fr n (Rw rows) S k fs)(hb:∀v,v∈bs↔IsD (Rw rows) S v k)
  (q:∀v6 v7 v8 fs BK,Fr n (Rw rows) S (k+1) fs→(∀v,v∈BK↔IsD (Rw rows) S v (k+1))→N (GF n rows S l v3 BK (k+1) v6 v7 v8) (Ap O l (fs.map BD))):
  Fu (zF P w K mg base f cdv A outer s H E O Ξ) (GF n rows S l v3 bs k v6 v7 v8) (Ap O l (fs.map BD)) (MF (iU 4)) {nx:=N,rt:=Φ,bk:=Bk,ct:=Ct}:=by
 have sb:=AX
 refine AE (ZP 5 YX rfl (ET.we AC (fun H v w Q ok r1 r2 acc=> ⟨_,_,r1.int_inv,r2.int_inv,acc _ H (.int (((k+1:Nat):Int))) _ ?_ (.refl ok) (.int _)⟩)) Ca.nd)
 refine AE (AN 6 (Cy (BL ⟨kN _,fun lb hlb=>?_⟩)) Ca.nd)
 have hll:lb≠l:=fun z=>by rw[z,AH] at hlb;cases hlb
 have hlb':O lb=none:=by rw[Ah hll] at hlb;exact hlb
 refine AE (Bc Ao.own rfl (EI.wi (Am (ev 4)) ⟨fun i ρ' O'=>∃v7 v8 fs BK ds,ρ'=GF n rows S l v3 bs (k+1) (some (.raw (.ref lb))) v7 v8∧O'=GE O l lb fs BK∧Mid n (Rw rows) S k fs BK ds∧BK.Nodup∧∀u∈bs.take i,∀v,Rw rows u v→v∈ds,⟨v7,v8,fs,[],[],rfl,rfl,h.mid,by simp,fun u hu=>by simp at hu⟩,?_,?_⟩))
 ·rintro i t _ _ e ⟨v7,v8,fs,BK,ds,rfl,rfl,m,nd,h1⟩
  rw[e9] at e
  cases ec:bs[i]? with
  |none=>rw[ec] at e;cases e
  |some z=>
   rw[ec] at e
   cases e
   have hz:=(hb z).mp (i9 ec)
   have hi:=hz.1.inb wn.hw hS
   obtain⟨u,rfl⟩:=j7 hi.1
   refine⟨GF n rows S l v3 bs (k+1) (some (.raw (.ref lb))) (some (.int u)) v8,AV 7 Ca.nd (by show 7<9;decide),Nr hll wn.len wn.n1 hi.2 m nd wn.hw hS hz fun v8 fs' bey' ds' m' nd' g1 g2=> ⟨_,_,_,_,ds',rfl,rfl,m',nd',fun x hx v a=>?_⟩⟩
   rw[kO,ec] at hx
   rcases ju.mp hx with hx|hx
   ·exact g1 v (h1 x hx v a)
   ·have:x=(u:Int):=by simpa using hx
    rw[this] at a
    exact g2 v a
 ·rintro _ _ ⟨v7,v8,fs,BK,ds,rfl,rfl,m,nd,h1⟩
  rw[e7,kI] at h1
  obtain⟨h2,h3⟩:=m.done fun u v hu a=>h1 u ((hb u).mpr hu) v a
  refine Bq (p:=lb) (n:=6) (ts:=BK.map T.int) AH hlb' rfl ?_
  rw[show EC (GE O l lb fs BK) lb=Ap O l (fs.map BD) from BG (by rw[Ah hll];exact hlb')]
  exact AG (AN 4 (ET.we (ev 6) (q _ _ _ fs BK h2 h3)) Ca.nd)
theorem Ta{fd:jv}(F:Fun K "fars_from" "fars_from" JG f fd):FnOk P w K mg base (CXe P w) 1 f fd ["nears","starts"] (CC K KS):=by
 refine AS F Ca ?_ ?_
 ·rintro ts O Φ Ξ ⟨n,rows,S,rfl,_⟩
  rfl
 ·rintro cdv A outer s H E O Ξ hr xf _ Φ ⟨n,rows,S,rfl,wn,hS,q⟩
  have sb:=AX
  have n0:=wn.len
  have n1:=wn.n1
  refine AE (JC (i:=2) (nc:=["near"]) (cap:=[]) (by rfl) Ca.nd rfl (BV (AA JG) TY (by decide+kernel)) (EI.wi (Am (ev 0)) ?_))
  refine⟨fun i acc O'=>i≤200∧acc=(kX i (none:Option Nat)).map BD∧O=O',⟨by omega,rfl,rfl⟩,?_,?_⟩
  ·rintro i t acc _ c e ⟨_,rfl,rfl⟩ hc
   have hi:i<rows.length:=by
    have:=(jc.mp e).1
    simpa using this
   refine⟨[some t],fun X' Oe He is=> ⟨?_,GN (JX fun X' Oe He is=>?_)⟩⟩
   ·obtain⟨cl,s',H',fp,rfl⟩:=is
    exact AV 0 dR (by decide)
   ·obtain⟨cl,s',H',fp,rfl⟩:=is
    exact ET.we EK ⟨O,rfl,hc,by rw[e7,lS];omega,by omega,by rw[List.replicate_succ',jX];rfl,rfl⟩
  ·rintro acc _ ⟨_,rfl,rfl⟩ l hlO
   rw[e7]
   refine AE (Bc Ao.own rfl (EI.wi (Am (ev 1)) ⟨fun j ρ' O'=>∃(fs:List (Option Nat)) (v3:Option T),ρ'=[some (Bu rows),some (.lst (S.map T.int)),some (.raw (.ref l)),v3,none,none,none,none,none]∧O'=Ap O l (fs.map BD)∧(fs.length:Int)=n∧∀v:Int,0≤v→v<n→∀d,fs[v.toNat]?=some (some d)↔(d=0∧v∈S.take j),⟨_,none,rfl,rfl,by rw[lS];omega,fun v v0 v1 d=>?_⟩,?_,?_⟩))
   ·rw[mx]
    simp
   ·rintro j t _ _ e ⟨fs,v3,rfl,rfl,hl,hf⟩
    rw[e9] at e
    cases ec:S[j]? with
    |none=>rw[ec] at e;cases e
    |some z=>
     rw[ec] at e
     cases e
     have hz:=hS z (i9 ec)
     obtain⟨v,rfl⟩:=j7 hz.1
     have hlt:v<fs.length:=by omega
     refine⟨[some (Bu rows),some (.lst (S.map T.int)),some (.raw (.ref l)),some (.int v),none,none,none,none,none],AV 3 Ca.nd (by show 3<9;decide),?_⟩
     refine AG (Hc (ET.we AC (ET.we (ev 2) ⟨l,rfl,ET.we (ev 3) ⟨_,_,v,rfl,AH,by rw[e7];exact KQ hlt,?_⟩⟩)))
     refine⟨fs.set v (some 0),_,rfl,by rw[BS,rG];rfl,by rw[nA];exact hl,fun y y0 y1 d=>?_⟩
     rw[kO,ec]
     by_cases hy:y=(v:Int)
     ·subst hy
      rw[kH,ky hlt]
      simp[eq_comm]
     ·rw[jx (by omega),hf y y0 y1 d]
      simp[hy]
   ·rintro _ _ ⟨fs,v3,rfl,rfl,hl,hf⟩
    rw[e7,kI] at hf
    have fr:Fr n (Rw rows) S 0 fs:=Vw hl hf
    refine AE (AN 4 (ET.we (ev 1) ?_) Ca.nd)
    refine AE (AN 5 (ET.we AC ?_) Ca.nd)
    refine AE (Lq Ao.own (fun m ρ' O'=>∃(k:Nat) (bs:List Int) (fs:List (Option Nat)) (v3 v6 v7 v8:Option T),ρ'=GF n rows S l v3 bs k v6 v7 v8∧O'=Ap O l (fs.map BD)∧Fr n (Rw rows) S k fs∧(∀v,v∈bs↔IsD (Rw rows) S v k)∧m=n.toNat+1-k) ⟨_,0,S,fs,v3,none,none,none,rfl,rfl,fr,fun v=>TZ.symm,rfl⟩ ?_)
    rintro m _ _ ⟨k,bs,fs,v3,v6,v7,v8,rfl,rfl,fr,hb,rfl⟩
    refine(show EB (zF P w K mg base f cdv A outer s H E O Ξ) (GF n rows S l v3 bs k v6 v7 v8) (Ap O l (fs.map BD)) _ (!(bs.map T.int).isEmpty) from Lg (t:=T.lst (bs.map T.int)) (ev 4) rfl) _ ?_
    cases bs with
    |nil=>
     refine Rb ?_
     have al:=fr.all_end fun v hv=>by
      have:=(hb v).mpr hv
      cases this
     refine Bq (p:=l) (n:=2) (ts:=fs.map BD) AH hlO rfl ?_
     rw[BG hlO]
     exact AG (AK (ET.we (ev 2) (q fs al)))
    |cons b bs'=>
     refine JX (Nt hlO wn hS fr hb fun v6 v7 v8 fs' BK fr' hb'=> ⟨_,?_,k+1,BK,fs',_,v6,v7,v8,rfl,rfl,fr',hb',rfl⟩)
     have:=((hb b).mp (by simp)).lt wn.hw hS
     omega
end
end K58
namespace L2.TL
open PySem PySem.Spec PyProof.Rows
section
variable{Z:Zx}{ρ:List (Option T)}{O:AM}{e:Expr}{p pos:Pos}{ns:List Int}{i:Int}
theorem Wa(hi:HW ns i)(m:Z.X.mg "min" =none)(hc:Z.X.calm=true)(h:ET Z ρ O e (.lst (ns.map T.int)))(hg:Gl Z.X "min":=by rfl)(he:i7 [e] Z.X.env=(false,eval e Z.X.env)::i7 [] Z.X.env:=by rfl):ET Z ρ O (.Call (.Name "min" p) [e] [] pos) (.int i):=
 BN (QT hc) m ZW (AQ h AB he) (fun Φ q H vs Q ok r k=>by
  obtain⟨v,rfl,r1⟩:=r.one_inv
  obtain⟨a,xs,rfl,h1,o1,r1⟩:=r1.lst_inv
  cases Reps.ints r1
  refine⟨a,ns,rfl,.inl (.inl (.inl h1)),pN hi.1,fun n hn=>?_⟩
  have:n=i:=rP (hn.2 i hi.1) (hi.2 n hn.1)
  rw[this]
  exact k _ H _ O q (.refl ok) (.int _)) hg (by decide) (by decide) he
theorem Wb(hi:Oi ns i)(m:Z.X.mg "max" =none)(hc:Z.X.calm=true)(h:ET Z ρ O e (.lst (ns.map T.int)))(hg:Gl Z.X "max":=by rfl)(he:i7 [e] Z.X.env=(false,eval e Z.X.env)::i7 [] Z.X.env:=by rfl):ET Z ρ O (.Call (.Name "max" p) [e] [] pos) (.int i):=
 BN (QU hc) m dE (AQ h AB he) (fun Φ q H vs Q ok r k=>by
  obtain⟨v,rfl,r1⟩:=r.one_inv
  obtain⟨a,xs,rfl,h1,o1,r1⟩:=r1.lst_inv
  cases Reps.ints r1
  refine⟨a,ns,rfl,.inl (.inl (.inl h1)),pN hi.1,fun n hn=>?_⟩
  have:n=i:=rP (hi.2 n hn.1) (hn.2 i hi.1)
  rw[this]
  exact k _ H _ O q (.refl ok) (.int _)) hg (by decide) (by decide) he
theorem MH:∀{ns:List Int},ns≠[]→∃i,HW ns i
 | [],h=>absurd rfl h
 | [a],_=> ⟨a,by simp,fun n hn=>by rw[jd.mp hn];exact me _⟩
 |a::b::ns,_=>by
  obtain⟨i,h1,h2⟩:=MH (ns:=b::ns) (by simp)
  refine⟨min a i,?_,fun n hn=>?_⟩
  ·rcases qv a i with h|h
   ·rw[Int.min_eq_left h];simp
   ·rw[Int.min_eq_right h];exact jn _ h1
  ·rcases i6.mp hn with rfl|hn
   ·exact Int.min_le_left ..
   ·exact mY (Int.min_le_right ..) (h2 n hn)
theorem PC:∀{ns:List Int},ns≠[]→∃i,Oi ns i
 | [],h=>absurd rfl h
 | [a],_=> ⟨a,by simp,fun n hn=>by rw[jd.mp hn];exact me _⟩
 |a::b::ns,_=>by
  obtain⟨i,h1,h2⟩:=PC (ns:=b::ns) (by simp)
  refine⟨max a i,?_,fun n hn=>?_⟩
  ·rcases qv a i with h|h
   ·rw[Int.max_eq_right h];exact jn _ h1
   ·rw[Int.max_eq_left h];simp
  ·rcases i6.mp hn with rfl|hn
   ·exact Int.le_max_left ..
   ·exact mY (h2 n hn) (Int.le_max_right ..)
end
end L2.TL
namespace K58
open PySem L2 L2.TL PySem.Spec PyProof.Rows Gr
section
variable{P:Program}{w:World}{K:b9}{mg:Str→Option Value}{base:Heap}{CN:Addr}
noncomputable def Bv(n:Int)(ps:List (Int×Int)):List Int:=(j6 n.toNat).map fun i=> ((Ae ps i).length:Int)
noncomputable def Tc(cs:List Int):T:=if cs.all (fun c=>decide (c=cs.headD 0))=true then .int (cs.headD 0) else .non
noncomputable def Td:Bp:=EX fun ts r=>∃n ps,ts=[AI n ps]∧WebN n ps∧1≤n∧r=Tc (Bv n ps)
theorem Te:FnScope ["web","counts"] ["web"] (AA PB):=⟨rfl,rfl,rfl,by decide+kernel,rfl,by decide+kernel,by decide+kernel⟩
theorem dU:(Ak ["near"] []).Nodup:=by decide+kernel
theorem aA{cs:List Int}{a b:Int}(ha:HW cs a)(hb:Oi cs b):cs.all (fun c=>decide (c=cs.headD 0))=decide (a=b):=by
 have hne:cs≠[]:=fun z=>by rw[z] at ha;cases ha.1
 have hh:cs.headD 0∈cs:=by
  cases cs with
  |nil=>exact absurd rfl hne
  |cons x xs=>simp
 by_cases h:a=b
 ·subst h
  rw[decide_eq_true rfl,lP]
  intro c hc
  have h1:=ha.2 c hc
  have h2:=hb.2 c hc
  have h3:=ha.2 _ hh
  have h4:=hb.2 _ hh
  exact decide_eq_true (by omega)
 ·rw[decide_eq_false h]
  cases z:cs.all (fun c=>decide (c=cs.headD 0)) with
  |false=>rfl
  |true=>
   rw[lP] at z
   have h1:=of_decide_eq_true (z a ha.1)
   have h2:=of_decide_eq_true (z b hb.1)
   omega
theorem Wc{f:Addr}{fd:jv}(F:Fun K "even_by" "even_by" PB f fd)(Tx:Txt mg)(G:FnT P w K mg base "nears_of" 1 ["web"] FB):FnOk P w K mg base (CXe P w) 2 f fd ["web"] (CC K Td):=by
 refine AS F Te ?_ ?_
 ·rintro ts O Φ Ξ ⟨r,⟨n,ps,rfl,_⟩,_⟩
  rfl
 ·rintro cdv A outer s H E O Ξ hr xf _ Φ ⟨_,⟨n,ps,rfl,wn,n0,rfl⟩,q⟩
  have sb:=AX
  have n1:=wn.n1
  have hlen:(Bv n ps).length=n.toNat:=by simp[Bv]
  have hne:Bv n ps≠[]:=fun z=>by rw[z] at hlen;simp at hlen;omega
  obtain⟨a,ha⟩:=MH hne
  obtain⟨b,hb⟩:=PC hne
  have e0:atI ((Bv n ps).map T.int) 0=some (.int ((Bv n ps).headD 0)):=by
   cases z:Bv n ps with
   |nil=>exact absurd z hne
   |cons x xs=>
    show atI _ ((0:Nat):Int)=_
    exact BP rfl
  refine AE (Eo (i:=1) (nc:=["near"]) (cap:=[]) (by rfl) Te.nd rfl (BV (AA PB) ["web","counts"] (by decide+kernel)) (EI.wi (Am (AJ G hr xf (AD (ev 0) AB) ⟨n,ps,rfl,wn.n0,wn.n1,wn.hw,wn.hl,rfl⟩)) (Lo (j6 n.toNat) (fun i=>T.lst ((Ae ps i).map T.int)) (fun i=>T.int (((Ae ps i).map T.int).length:Int)) (by simp;omega) (fun x hx=> ⟨[some (.lst ((Ae ps x).map T.int))],fun X' Oe He is O'=>?_⟩) ?_)))
  ·obtain⟨cl,s',H',fp,rfl⟩:=is
   exact⟨AV 0 dU (by decide),GO Tx.nLen (ev 0)⟩
  ·have e1:(j6 n.toNat).map (fun i=>T.int (((Ae ps i).map T.int).length:Int))=(Bv n ps).map T.int:=by simp[Bv]
   rw[e1]
   refine AG (AK (ET.we (Hb (FY (Wa ha Tx.nMin rfl (ev 1)) (Wb hb Tx.nMax rfl (ev 1))) (fun _=>CJ (ev 1) AC e0) (fun _=>EK)) ?_))
   have:(if decide (a=b)=true then T.int ((Bv n ps).headD 0) else T.non)=Tc (Bv n ps):=by
    unfold Tc
    rw[aA ha hb]
   rw[this]
   exact q
end
end K58
namespace L2.TL
open PySem PySem.Spec PyProof.Rows
section
variable{Z:Zx}{ρ:List (Option T)}{O:AM}{a:Expr}{t:T}{us:List T}{K:b9}{p1 pos:Pos}
theorem GZ{j:Nat}(hr:DZ t=false)(ha:ET Z ρ O a t):EB Z ρ O (.Compare a [.IsNot] [.Constant .none j p1] pos) (!JB t):=Af VC (Ac _) (fun Φ p H v w Q ok r1 r2 q=>by
 refine⟨r2.non_inv,?_⟩
 have e:decide (v=V.non)=JB t:=by
  cases r1<;>first|rfl|cases hr
 rw[e]
 exact q _ H _ O p (.refl ok) (.bl _)) ha EK
end
noncomputable def AW(ns:List Int):T:=.tup (ns.map T.int)
theorem MI:∀{ns ms:List Int},mz (dTs (ns.map T.int)) (dTs (ms.map T.int))=decide (ns=ms)
 | [],[]=>rfl
 | [],_::_=>rfl
 |_::_,[]=>rfl
 |n::ns,m::ms=>by
  show((n==m)&&mz (dTs (ns.map T.int)) (dTs (ms.map T.int)))=_
  rw[MI,lC]
  simp
theorem PD:∀{ns:List Int},rdBs (ns.map T.int)=true
 | []=>rfl
 |n::ns=>by
  show(Be (.int n)&&rdBs (ns.map T.int))=true
  rw[PD,Be];rfl
theorem MJ{ns:List Int}:Be (AW ns)=true:=by unfold AW;rw[Be];exact PD
theorem Fm:∀{L:List (List Int)},rdBs (L.map AW)=true
 | []=>rfl
 |x::L=>by
  show(Be (AW x)&&rdBs (L.map AW))=true
  rw[MJ,Fm];rfl
theorem JH{x:List Int}:∀{L:List (List Int)},((dTs (L.map AW)).any fun y=>kr y (dT (AW x)))=decide (x∈L)
 | []=>rfl
 |y::L=>by
  show(kr (dT (AW y)) (dT (AW x))|| (dTs (L.map AW)).any fun y=>kr y (dT (AW x)))=_
  rw[JH]
  have:kr (dT (AW y)) (dT (AW x))=decide (y=x):=MI
  rw[this,lC]
  simp only[oY,decide_eq_true_eq,i6]
  constructor
  ·rintro(h|h)
   ·exact .inl h.symm
   ·exact .inr h
  ·rintro(h|h)
   ·exact .inl h.symm
   ·exact .inr h
theorem EI.cast{Z:Zx}{ρ:List (Option T)}{O:AM}{tg iter:Expr}{ts us:List T}(h:EI Z ρ O tg iter ts)(e:ts=us):EI Z ρ O tg iter us:=e▸h
theorem Ht:∀{ns:List Int},ko (dTs (ns.map T.int))≤1
 | []=>by simp[dTs,ko]
 |n::ns=>by
  have:=Ht (ns:=ns)
  simp only[jr,dTs,ko,dT,j5.depth]
  omega
theorem MK{ns:List Int}:(dT (AW ns)).depth≤100:=by
 have:=Ht (ns:=ns)
 simp only[AW,dT,j5.depth]
 omega
end L2.TL
namespace K58
open PySem L2 L2.TL PySem.Spec PyProof.Rows
section
variable{P:Program}{w:World}{K:b9}{mg:Str→Option Value}{base:Heap}{CP CL:Addr}
structure WebA(n:Int)(ps:List (Int×Int)):Prop where
 n0:1≤n
 n1:n≤16
 hp:∀p∈ps,AU n p
 hl:ps.length≤200
theorem WebA.inb{n:Int}{ps:List (Int×Int)}(a:WebA n ps):∀p∈ps,TQ p:=fun p hp=>by
 have:=a.hp p hp
 have:=a.n1
 unfold AU at*
 unfold TQ
 omega
theorem Qg:FnScope ["web","a","b","c","e"] ["web","a","b","c","e"] (AA Hn):=⟨rfl,rfl,rfl,by decide+kernel,rfl,by decide+kernel,by decide+kernel⟩
end
open Gr
noncomputable def FD(fs:List (Option Nat)):List Int:=(fs.filter qW).map fun x=> ((x.getD 0:Nat):Int)
theorem Hu:∀{fs:List (Option Nat)},(fs.filter qW).map BD=(FD fs).map T.int
 | []=>rfl
 |none::fs=>Hu (fs:=fs)
 |some d::fs=>by
  show T.int (d:Int)::(fs.filter qW).map BD=T.int (d:Int)::(FD fs).map T.int
  rw[Hu]
theorem Wd{fs:List (Option Nat)}{z:Int}:z∈FD fs↔∃(i d:Nat),fs[i]?=some (some d)∧z=d:=by
 unfold FD
 rw[jl]
 constructor
 ·rintro⟨x,hx,rfl⟩
  obtain⟨h1,h2⟩:=jo.mp hx
  cases x with
  |none=>cases h2
  |some d=>
   obtain⟨i,hi⟩:=kK h1
   exact⟨i,d,hi,rfl⟩
 ·rintro⟨i,d,h,rfl⟩
  exact⟨some d,jo.mpr ⟨i9 h,rfl⟩,rfl⟩
theorem We{x:Option Nat}{k:Nat}:kr (dT (BD x)) (dT (.int (k:Int)))=decide (x=some k):=by
 cases x with
 |none=>rfl
 |some d=>
  show((d:Int)==(k:Int))=_
  rw[lC]
  simp
  omega
theorem aB{x:Option Nat}:Be (BD x)=true:=by cases x<;>rw[BD,Be]
theorem Qh{x:Option Nat}:(dT (BD x)).depth≤100:=by cases x<;> (show 0≤100;decide)
section
variable{P:Program}{w:World}{K:b9}{mg:Str→Option Value}{base:Heap}{CP CL:Addr}
end
end K58
namespace StT
open PySem PySem.SetTable PyProof.Rows
section
variable{prog:Program}{w:World}{A:js}{E:Value→c9→Prop}{s:c9}
variable{a:Addr}{xs:List (Int×Tok)}{o:Obj}{es:Array (Int×Value)}{ep:Nat}{t:lu}
end
section
variable{prog:Program}{w:World}{A:js}{E:Value→c9→Prop}{s:c9}
variable{a:Addr}{xs:List (Int×Tok)}{o:Obj}{es:Array (Int×Value)}{ep:Nat}{t:lu}
end
section
variable{prog:Program}{w:World}{A:js}{E:Value→c9→Prop}{s:c9}
end
open PySem.Calls PySem.W
section
variable{prog:Program}{w:World}{A:js}{E:Value→c9→Prop}{s:c9}
end
end StT
namespace L2
open PySem PySem.Spec PySem.Calls PyProof.Rows
section
variable{X:Cx}
end
end L2
namespace L2.TL
open PySem PySem.Spec PySem.Calls PyProof.Rows
section
variable{Z:Zx}{ρ:List (Option T)}{O:AM}{e:Expr}{Φ:Bf}{pos p p1 pos1:Pos}
end
end L2.TL
namespace K58
open PySem L2 L2.TL PySem.Spec PyProof.Rows Gr
noncomputable def Ag(ps:List (Int×Int))(x:Int):List Int:=(ps.filter fun p=>decide (x∈[p.1,p.2])).map fun p=>p.1+p.2-x
theorem Dt{ps:List (Int×Int)}{x v:Int}:v∈Ag ps x↔Adj ps x v:=by
 unfold Ag
 rw[jl]
 constructor
 ·rintro⟨p,hp,rfl⟩
  obtain⟨h1,h2⟩:=jo.mp hp
  have h2:x=p.1∨x=p.2:=by simpa using h2
  rcases h2 with h|h
  ·refine .inl ?_
   have e:(x,p.1+p.2-x)=p:=kW h (by show p.1+p.2-x=p.2;omega)
   rw[e];exact h1
  ·refine .inr ?_
   have e:(p.1+p.2-x,x)=p:=kW (by show p.1+p.2-x=p.1;omega) h
   rw[e];exact h1
 ·rintro(h|h)
  ·exact⟨_,jo.mpr ⟨h,by simp⟩,by show x+v-x=v;omega⟩
  ·exact⟨_,jo.mpr ⟨h,by simp⟩,by show v+x-x=v;omega⟩
section
variable{P:Program}{w:World}{K:b9}{mg:Str→Option Value}{base:Heap}
variable{f:Addr}{cdv:Value}{A:js}{outer:List Env}{s:c9}{H:Hp}{E:XK}{O:AM}{Ξ:Value→AM→Prop}{n:Int}{ps:List (Int×Int)}{S bs:List Int}{l:Addr}
end
end K58
namespace L2.TL
open PySem PySem.Spec PyProof.Rows
section
variable{Z:Zx}{ρ:List (Option T)}{O:AM}{e:Expr}{Φ:Bf}{pos p:Pos}{ts:List T}
theorem Qi(m:Z.X.mg "list" =none)(h:ET Z ρ O e (.lst ts))(q:∀a,O a=none→Φ (.raw (.ref a)) (Ap O a ts))(hg:Gl Z.X "list":=by rfl)(he:i7 [e] Z.X.env=(false,eval e Z.X.env)::i7 [] Z.X.env:=by rfl):WE Z ρ O (.Call (.Name "list" p) [e] [] pos) Φ:=
 Fb HY m Xe (AQ h AB he _ (fun H vs Q ok r k=>by
  obtain⟨v,rfl,r1⟩:=r.one_inv
  obtain⟨a,xs,rfl,h1,_,r1⟩:=r1.lst_inv
  exact⟨a,xs,rfl,.inl (.inl (.inl h1)),fun p hp=>k _ _ _ _ (q p (ok.none_of hp)) (.newO ok hp r1) (.raw _)⟩)) hg (by decide) (by decide) he
end
end L2.TL
namespace K58
open PySem L2 L2.TL PySem.Spec PyProof.Rows GrR
noncomputable def ML:List Int→Option Int
 | []=>none
 |x::xs=>some (match ML xs with|none=>x|some m=>min x m)
theorem Gg:∀(ns:List Int),Fk ns (ML ns)
 | []=>rfl
 |x::xs=>by
  have h:=Gg xs
  show Fk (x::xs) (some (match ML xs with|none=>x|some m=>min x m))
  cases e:ML xs with
  |none=>
   rw[e] at h
   rw[show xs=[] from h]
   exact⟨by simp,fun n hn=>by rw[jd.mp hn];exact me _⟩
  |some m=>
   rw[e] at h
   refine⟨?_,fun n hn=>?_⟩
   ·rcases qv x m with hx|hx
    ·show min x m∈_
     rw[Int.min_eq_left hx];simp
    ·show min x m∈_
     rw[Int.min_eq_right hx];exact jn _ h.1
   ·rcases i6.mp hn with rfl|hn
    ·exact Int.min_le_left ..
    ·exact mY (Int.min_le_right ..) (h.2 n hn)
noncomputable def Hv(rows:List (List Int))(a b:Int):List (List Int):=rows.set a.toNat ((rows.getD a.toNat []).filter fun v=>decide (v≠b))
noncomputable def Hw(rows:List (List Int))(a b:Int):Option Nat:=(Jz (Rw (Hv rows a b)) [a] b).map (· +1)
theorem Nu{rows:List (List Int)}{a b u v:Int}(a0:0≤a)(a1:a<rows.length):Rw (Hv rows a b) u v↔Rw rows u v∧¬(u=a∧v=b):=by
 unfold Rw Hv
 have hlt:a.toNat<rows.length:=by omega
 by_cases hu:u=a
 ·subst hu
  rw[kb,ky hlt]
  simp only[rg,jo,decide_eq_true_eq]
  constructor
  ·rintro⟨h0,h1,h2⟩
   exact⟨⟨h0,h1⟩,fun z=>h2 z.2⟩
  ·rintro⟨⟨h0,h1⟩,h2⟩
   exact⟨h0,h1,fun z=>h2 ⟨trivial,z⟩⟩
 ·constructor
  ·rintro⟨h0,h1⟩
   rw[kb,jx (by omega),←kb] at h1
   exact⟨⟨h0,h1⟩,fun z=>hu z.1⟩
  ·rintro⟨⟨h0,h1⟩,_⟩
   refine⟨h0,?_⟩
   rw[kb,jx (by omega),←kb]
   exact h1
theorem aC{n:Int}{rows:List (List Int)}{a b:Int}(rn:RowsN n rows)(a0:0≤a)(a1:a<n):RowsN n (Hv rows a b):=
 ⟨by unfold Hv;rw[nA];exact rn.len,rn.n1,fun u v h=>rn.hw u v ((Nu a0 (by have:=rn.len;omega)).mp h).1⟩
noncomputable def Aq(n:Int)(ps:List (Int×Int)):List (List Int):=(j6 n.toNat).map fun i=>Ae ps i
theorem JI{n:Int}{ps:List (Int×Int)}:Hs n ps=Bu (Aq n ps):=by
 unfold Hs Aq
 show _=T.lst (((j6 n.toNat).map fun i=>Ae ps i).map fun r=>T.lst (r.map T.int))
 rw[kv]
 rfl
theorem Hx{n:Int}{ps:List (Int×Int)}{i:Nat}(h:(i:Int)<n):(Aq n ps).getD i []=Ae ps i:=by
 unfold Aq
 rw[kb,e9,nR (by omega)]
 rfl
theorem Gh{n:Int}{ps:List (Int×Int)}(hw:Gr.JD n ps){u v:Int}:Rw (Aq n ps) u v↔Gr.Adj ps u v:=by
 constructor
 ·rintro⟨h0,h⟩
  obtain⟨i,rfl⟩:=j7 h0
  rw[kH] at h
  by_cases hi:(i:Int)<n
  ·rw[Hx hi] at h
   exact(Fl hw).mp h
  ·unfold Aq at h
   rw[kb,e9,lA (by rw[lG];omega)] at h
   cases h
 ·intro a
  have hb:=a.symm.inb hw
  obtain⟨i,rfl⟩:=j7 hb.1
  refine⟨by omega,?_⟩
  rw[kH,Hx hb.2.1]
  exact(Fl hw).mpr a
theorem Gj{n:Int}{ps:List (Int×Int)}(wn:WebN n ps):RowsN n (Aq n ps):=
 ⟨by have:=wn.n0;unfold Aq;simp;omega,wn.n1,fun u v h=>by have:=((Gh wn.hw).mp h).inb wn.hw;exact⟨this.1,this.2.1⟩⟩
section
variable{P:Program}{w:World}{K:b9}{mg:Str→Option Value}{base:Heap}{CP CL:Addr}
noncomputable def Xn:Bp:=EX fun ts r=>∃xs:List (Option Nat),ts=[.lst (xs.map BD)]∧xs.length≤300∧r=Sv (ML (FD xs))
theorem dW:FnScope ["numbers"] ["numbers"] (AA KL):=⟨rfl,rfl,rfl,by decide+kernel,rfl,by decide+kernel,by decide+kernel⟩
theorem dX:(Ak ["number"] []).Nodup:=by decide+kernel
theorem Tf{f:Addr}{fd:jv}(F:Fun K "least_told" "least_told" KL f fd)(Tx:Txt mg):FnOk P w K mg base (CXe P w) 1 f fd ["numbers"] (CC K Xn):=by
 refine AS F dW ?_ ?_
 ·rintro ts O Φ Ξ ⟨r,⟨xs,rfl,_⟩,_⟩
  rfl
 ·rintro cdv A outer s H E O Ξ hr xf _ Φ ⟨_,⟨xs,rfl,hl,rfl⟩,q⟩
  have sb:=AX
  refine AG (AK (ET.we (WJ (Gg _) Tx.nMin rfl (ET.cast (Dc ["number"] [] xs BD BD qW rfl (BV (AA KL) ["numbers"] (by decide+kernel)) (Am (ev 0)) (by omega) fun x hx=> ⟨[some (BD x)],fun X' Oe He is O'=>?_⟩) (by rw[Hu]))) q))
  obtain⟨cl,s',H',fp,rfl⟩:=is
  refine⟨AV 0 dX (by decide),EB.cast (GZ MD (ev 0)) ?_,fun _=>ev 0⟩
  cases x<;>rfl
noncomputable def Xo:Bp:=EX fun ts r=>∃(n:Int) (rows:List (List Int)) (a b:Int),ts=[Bu rows,.int a,.int b]∧RowsN n rows∧(∀r∈rows,r.length≤300)∧(0≤a∧a<n)∧(0≤b∧b<n)∧r=BD (Hw rows a b)
noncomputable def dY:List Str:=["nears","a","b","cut","far"]
theorem Tg:FnScope dY ["nears","a","b"] (AA WN):=⟨rfl,rfl,rfl,by decide+kernel,rfl,by decide+kernel,by decide+kernel⟩
theorem dZ:(Ak ["near"] [(("b" :Str),2)]).Nodup:=by decide+kernel
theorem aD{f:Addr}{fd:jv}(F:Fun K "ring_by_tie" "ring_by_tie" WN f fd)(Tx:Txt mg)(G:FnT P w K mg base "fars_from" 1 ["nears","starts"] KS):FnOk P w K mg base (CXe P w) 2 f fd ["nears","a","b"] (CC K Xo):=by
 refine AS F Tg ?_ ?_
 ·rintro ts O Φ Ξ ⟨r,⟨n,rows,a,b,rfl,_⟩,_⟩
  rfl
 ·rintro cdv A outer s H E O Ξ hr xf _ Φ ⟨_,⟨n,rows,a,b,rfl,rn,hlr,ha,hb,rfl⟩,q⟩
  have sb:=AX
  have hl:=rn.len
  have n1:=rn.n1
  obtain⟨i,rfl⟩:=j7 ha.1
  obtain⟨j,rfl⟩:=j7 hb.1
  have hi:i<rows.length:=by omega
  have hri:(rows.getD i []).length≤300:=hlr _ (by rw[kb,i8 hi];exact kT hi)
  refine AE (AN 3 (Qi Tx.nList (ev 0) fun l hlO=>?_) Tg.nd)
  refine AE (Hc (ET.we (t:=.lst (((rows.getD i []).filter fun v=>decide (v≠(j:Int))).map T.int)) (Dc ["near"] [("b",2)] (rows.getD i []) T.int T.int (fun v=>decide (v≠(j:Int))) rfl (BV (AA WN) dY (by decide+kernel)) (Am (CJ (ev 0) (ev 1) (KR hi))) (by omega) fun x hx=> ⟨[some (.int x),some (.int (j:Int))],fun X' Oe He is O'=>?_⟩) (ET.we (ev 3) ⟨l,rfl,ET.we (ev 1) ⟨_,_,i,rfl,AH,by rw[e7];exact KQ hi,?_⟩⟩)))
  ·obtain⟨cl,s',H',fp,rfl⟩:=is
   refine⟨AV 0 dZ (by decide),EB.cast (DV (ev 0) (ev 1)) ?_,fun _=>ev 0⟩
   by_cases h:x=(j:Int)<;>simp[h]
  ·rw[BS]
   have eset:(rows.map fun r=>T.lst (r.map T.int)).set i (.lst (((rows.getD i []).filter fun v=>decide (v≠(j:Int))).map T.int))=(Hv rows (i:Int) (j:Int)).map fun r=>T.lst (r.map T.int):=by
    unfold Hv
    rw[rG,kH]
   rw[eset]
   refine Bq (p:=l) (n:=3) AH hlO rfl ?_
   rw[BG hlO]
   refine AE (AN 4 (Ol Ed (fun _ _=>rfl) (Al G hr xf (EA.wa (AD (ev 3) (AD (Au (ts:=[(i:Int)].map T.int) (AD (ev 1) AB) (by show 1≤sizeLine;decide)) AB)) ⟨n,Hv rows i j,[(i:Int)],rfl,aC rn ha.1 ha.2,fun z hz=>?_,fun fs al=>?_⟩))) Tg.nd)
   ·rw[jd.mp hz];exact ha
   ·have hlf:=al.len
    have hg:=al.get hb.1 hb.2
    rw[kH] at hg
    refine ET.we (ev 2) (NV (t:=BD (Jz (Rw (Hv rows i j)) [(i:Int)] j)) (BP (by rw[e9,hg];rfl)) _ ?_)
    unfold Hw at q
    generalize Jz (Rw (Hv rows i j)) [(i:Int)] j=x at q
    cases x with
    |none=>exact AG (AK (ET.we (Hb (x:=true) (ta:=.non) (tb:=.non) (De (t:=.non) rfl (ev 4)) (fun _=>EK) (fun h=>by cases h)) q))
    |some d=>exact AG (AK (ET.we (Hb (x:=false) (ta:=.non) (tb:=.int ((d:Int)+1)) (De (t:=.int (d:Int)) rfl (ev 4)) (fun h=>by cases h) (fun _=>BB (ev 4) AC)) q))
theorem Th{n:Int}{ps:List (Int×Int)}(wn:WebN n ps):∀r∈Aq n ps,r.length≤300:=fun r hr=>by
 unfold Aq at hr
 obtain⟨i,_,rfl⟩:=jl.mp hr
 have:=DF (qs:=ps) (i:=i)
 have:=wn.hl
 omega
end
noncomputable def da:Stmt→Expr
 | .Return (some e) _=>e
 | .Assign _ e _=>e
 |_=> .Constant .none 0 ⟨0,0,0,0⟩
section
variable{P:Program}{w:World}{K:b9}{mg:Str→Option Value}{base:Heap}{CP CL:Addr}
theorem aE:(Ak ["_law_a","_law_b"] []).Nodup:=by decide+kernel
theorem dc:(Ak ["_law_place"] [(("_law_begin" :Str),2),(("_law_step" :Str),1),(("_law_n" :Str),0)]).Nodup:=by decide+kernel
noncomputable def Du:Bp:=fun ts O Φ _=>∃(n:Int) (ps:List (Int×Int)),ts=[.int n,.lst (ps.map AF)]∧ps.length≤300∧(∀p∈ps,TQ p)∧∀rs:List (Int×Int),rs.Pairwise CQ→(∀q,q∈rs↔q∈ps.map mm)→rs.length≤ps.length→Φ (AI n rs) O
theorem Wf:FnScope ["_law_many","_law_ties"] ["_law_many","_law_ties"] (AA Ho):=⟨rfl,rfl,rfl,by decide+kernel,rfl,by decide+kernel,by decide+kernel⟩
theorem Qj{f:Addr}{fd:jv}(F:Fun K "_law_web_of" "_law_web_of" Ho f fd)(Tx:Txt mg):FnOk P w K mg base (CXe P w) 1 f fd ["_law_many","_law_ties"] (CC K Du):=by
 refine AS F Wf ?_ ?_
 ·rintro ts O Φ Ξ ⟨n,ps,rfl,_⟩
  rfl
 ·rintro cdv A outer s H E O Ξ hr xf _ Φ ⟨n,ps,rfl,hl,hp,q⟩
  have hu:(A.deeper (m9 "_law_web_of" (AA Ho) s.heap.objs.size f cdv)).units+8<cLine:=by have:=hr.un;omega
  have hz:ps.length≤sizeLine:=kG hl (by decide)
  refine AG (AK (HZ (Hk (ET.we (ev 0) (Hk (Hg Tx.nTuple (Et (ps:=ps.map mm) Tx.nSorted Tx.nSet rfl hu ?_ (by simpa using hl) ?_ fun qs h1 h2 h3=> ⟨_,rfl,BL ⟨by show 2≤sizeLine;decide,q qs h1 h2 (by simpa using h3)⟩⟩)))))))
  ·rw[kv]
   refine BM ["_law_a","_law_b"] [] ps AF _ rfl (BV (AA Ho) ["_law_many","_law_ties"] (by decide+kernel)) (Am (ev 1)) hz fun x hx=> ⟨[some (.int x.1),some (.int x.2)],fun X' Oe He is O'=>?_⟩
   obtain⟨cl,s',H',fp,rfl⟩:=is
   exact⟨Bb 0 1 rfl aE (by decide) (by decide),Ba (AD (GP Tx.nMin rfl (ev 0) (ev 1)) (AD (Dq Tx.nMax rfl (ev 0) (ev 1)) AB))⟩
  ·intro z hz
   obtain⟨p,h1,rfl⟩:=jl.mp hz
   have:=hp p h1
   unfold TQ at this
   show 0≤max _ _∧max _ _<65536
   omega
noncomputable def MM(n st bg:Int):List (Int×Int):=(j6 n.toNat).map fun(i:Nat)=> (bg+(0+(i:Int)),bg+((0+(i:Int))+st)%n)
noncomputable def Gk:Bp:=EX fun ts r=>∃n st bg,ts=[.int n,.int st,.int bg]∧0<n∧n≤100∧r=.lst ((MM n st bg).map AF)
theorem Wg:FnScope ["_law_n","_law_step","_law_begin"] ["_law_n","_law_step","_law_begin"] (AA KG):=⟨rfl,rfl,rfl,by decide+kernel,rfl,by decide+kernel,by decide+kernel⟩
theorem Ti{f:Addr}{fd:jv}(F:Fun K "_law_round" "_law_round" KG f fd)(Tx:Txt mg):FnOk P w K mg base (CXe P w) 1 f fd ["_law_n","_law_step","_law_begin"] (CC K Gk):=by
 refine AS F Wg ?_ ?_
 ·rintro ts O Φ Ξ ⟨r,⟨n,st,bg,rfl,_⟩,_⟩
  rfl
 ·rintro cdv A outer s H E O Ξ hr xf _ Φ ⟨_,⟨n,st,bg,rfl,n0,n1,rfl⟩,q⟩
  have sb:=AX
  refine AG (AK (ET.we (ET.cast (BM ["_law_place"] [("_law_begin",2),("_law_step",1),("_law_n",0)] (j6 n.toNat) (fun i=> .int (0+(i:Int))) (fun i=>AF (bg+(0+(i:Int)),bg+((0+(i:Int))+st)%n)) rfl (BV (AA KG) ["_law_n","_law_step","_law_begin"] (by decide+kernel)) (BF Tx.nRange (ev 0) ⟨by omega,by omega⟩) (by simp;omega) fun x hx=> ⟨[some (.int (0+(x:Int))),some (.int bg),some (.int st),some (.int n)],fun X' Oe He is O'=>?_⟩) ?_) q))
  ·obtain⟨cl,s',H',fp,rfl⟩:=is
   exact⟨AV 0 dc (by decide),An (BB (ev 1) (ev 0)) (BB (ev 1) (FX (BB (ev 0) (ev 2)) (ev 3) n0))⟩
  ·unfold MM
   rw[kv]
   rfl
end
section
variable{P:Program}{w:World}{K:b9}{mg:Str→Option Value}{base:Heap}{CP CL:Addr}
end
end K58
namespace L2.TL
open PySem PySem.Spec PyProof.Rows
section
variable{Z:Zx}{ρ:List (Option T)}{O:AM}{a:Expr}{t:T}{p1 pos:Pos}
end
end L2.TL
namespace K58
open PySem L2 L2.TL PySem.Spec PyProof.Rows GrR
noncomputable def Fy(ps:List (Int×Int))(t:Int×Int):List (Int×Int):=ps.filter fun q=>decide (q≠t)
noncomputable def FE(ps:List (Int×Int))(t:Int×Int):Option Nat:=(Jz (Gr.Adj (Fy ps t)) [t.1] t.2).map (· +1)
theorem FF{n:Int}{ps:List (Int×Int)}(hw:Gr.JD n ps){a b u v:Int}:Gr.Adj (Fy ps (mm (a,b))) u v↔Gr.Adj ps u v∧¬(u=a∧v=b)∧¬(u=b∧v=a):=by
 have key:∀x y:Int,(x,y)∈Fy ps (mm (a,b))↔(x,y)∈ps∧¬(x=a∧y=b)∧¬(x=b∧y=a):=fun x y=>by
  unfold Fy
  rw[jo,decide_eq_true_eq]
  constructor
  ·rintro⟨h,hne⟩
   have hxy:=(hw _ h).2.1
   simp only at hxy
   refine⟨h,fun⟨e1,e2⟩=>hne ?_,fun⟨e1,e2⟩=>hne ?_⟩
   ·subst e1 e2;exact kW (by show x=min x y;omega) (by show y=max x y;omega)
   ·subst e1 e2;exact kW (by show x=min y x;omega) (by show y=max y x;omega)
  ·rintro⟨h,h1,h2⟩
   refine⟨h,fun e=>?_⟩
   have e1:x=min a b:=congrArg mn e
   have e2:y=max a b:=congrArg Prod.snd e
   rcases qv a b with hab|hab
   ·exact h1 ⟨by omega,by omega⟩
   ·exact h2 ⟨by omega,by omega⟩
 unfold Gr.Adj
 rw[key,key]
 constructor
 ·rintro(⟨h,h1,h2⟩| ⟨h,h1,h2⟩)
  ·exact⟨.inl h,h1,h2⟩
  ·exact⟨.inr h,fun z=>h2 ⟨z.2,z.1⟩,fun z=>h1 ⟨z.2,z.1⟩⟩
 ·rintro⟨h|h,h1,h2⟩
  ·exact .inl ⟨h,h1,h2⟩
  ·exact .inr ⟨h,fun z=>h2 ⟨z.2,z.1⟩,fun z=>h1 ⟨z.2,z.1⟩⟩
theorem Tj{n:Int}{ps:List (Int×Int)}(wn:WebN n ps){a b:Int}(ad:Gr.Adj ps a b):Hw (Aq n ps) a b=FE ps (mm (a,b)):=by
 have ha:=ad.symm.inb wn.hw
 have hl:=(Gj wn).len
 have e1:Jz (Rw (Hv (Aq n ps) a b)) [a] b=Jz (Gr.Adj (Fy ps (mm (a,b)))) [a] b:=JE fun d=>Vx
  (fun u v h=> (Nu ha.1 (by omega)).mpr ⟨(Gh wn.hw).mpr ((FF wn.hw).mp h).1,((FF wn.hw).mp h).2.1⟩)
  (fun u v h=>by
   obtain⟨h1,h2⟩:=(Nu ha.1 (by omega)).mp h
   by_cases hu:u=b∧v=a
   ·exact .inr hu.1
   ·exact .inl ((FF wn.hw).mpr ⟨(Gh wn.hw).mp h1,h2,hu⟩))
 unfold Hw FE
 rw[e1]
 congr 1
 rcases qv a b with hab|hab
 ·have:mm (a,b)=(a,b):=kW (by show min a b=a;omega) (by show max a b=b;omega)
  rw[this]
 ·have:mm (a,b)=(b,a):=kW (by show min a b=b;omega) (by show max a b=a;omega)
  rw[this]
  exact JE fun d=>Vy fun u v h=>Gr.Adj.symm h
theorem Xp{n:Int}{ps:List (Int×Int)}(hw:Gr.JD n ps){p:Int×Int}(h:p∈ps):mm p=p∧mm (p.2,p.1)=p:=by
 have:=(hw _ h).2.1
 exact⟨kW (by show min p.1 p.2=p.1;omega) (by show max p.1 p.2=p.2;omega),kW (by show min p.2 p.1=p.1;omega) (by show max p.2 p.1=p.2;omega)⟩
section
variable{P:Program}{w:World}{K:b9}{mg:Str→Option Value}{base:Heap}{CP CL:Addr}
end
end K58
namespace L2.TL
open PySem PySem.Spec PyProof.Rows
theorem Nv{Z:Zx}{ρ:List (Option T)}{O:AM}{e:Expr}{p pos:Pos}{ns:List Int}(m:Z.X.mg "sorted" =none)(h:ET Z ρ O e (.tup (ns.map T.int)))(hl:ns.length<64)(hg:Gl Z.X "sorted":=by rfl)
  (he:i7 [e] Z.X.env=(false,eval e Z.X.env)::i7 [] Z.X.env:=by rfl):ET Z ρ O (.Call (.Name "sorted" p) [e] [] pos) (.lst ((p8 ns).map T.int)):=fun Φ q=>Na m h hl (fun ms pm pw=>by rw[PySem.W.eq_sortI pm pw];exact q) hg he
end L2.TL
namespace K58
open PySem L2 L2.TL PySem.Spec PyProof.Rows
noncomputable def JJ(n:Int)(L:List (Int×Int)):Prop:=∀p∈L,0≤p.1∧p.1<n∧0≤p.2∧p.2<n
noncomputable def FG:List Str:=["_law_pen","_law_most","_law_n","_law_half","_law_way","_law_every","_law_one","_law_share","_law_drawn","_law_step","_law_pairs","_law_pair"]
theorem BE:FnScope FG ["_law_pen","_law_most"] (AA DM):=⟨rfl,rfl,rfl,by decide+kernel,rfl,by decide+kernel,by decide+kernel⟩
noncomputable def IU(i:Nat):Stmt:=(BQ DM).getD i (.Pass ⟨0,0,0,0⟩)
noncomputable def iV:Stmt→List Stmt
 | .If _ a _ _=>a
 |_=> []
theorem de:(Ak ["_law_other"] [(("_law_pair" :Str),11)]).Nodup:=by decide+kernel
theorem df:(Ak ["_law_pair"] []).Nodup:=by decide+kernel
theorem dg:(Ak ["_law_other"] [(("_law_one" :Str),6)]).Nodup:=by decide+kernel
theorem dh:(Ak ["_law_pair"] [(("_law_pen" :Str),0),(("_law_share" :Str),7)]).Nodup:=by decide+kernel
theorem di:(Ak ["_law_pair"] [(("_law_half" :Str),3)]).Nodup:=by decide+kernel
theorem Xq:(Ak ["_law_at"] [(("_law_half" :Str),3)]).Nodup:=by decide+kernel
section
variable{mo:Int}{P:Program}{w:World}{K:b9}{mg:Str→Option Value}{base:Heap}{f:Addr}{cdv:Value}{A:js}{outer:List Env}{s:c9}{H:Hp}{E:XK}{O0 O1:AM}{Ξ:Value→AM→Prop}{p:Addr}{n:Int}{L:List (Int×Int)}{v3 v4 v5 v6 v7 v8 v9 v11:Option T}{Φ:Bf}{N:Li}
noncomputable abbrev zW(P:Program)(w:World)(K:b9)(mg:Str→Option Value)(base:Heap)(f:Addr)(cdv:Value)(A:js)(outer:List Env)(s:c9)(H:Hp)(E:XK)(O:AM)(Ξ:Value→AM→Prop):Zx:=zB P w K mg base FG "_law_some_web" (AA DM) f cdv A outer s H E O Ξ
noncomputable abbrev Nw(mo:Int)(p:Addr)(n:Int)(v3 v4 v5 v6 v7 v8 v9:Option T)(L:List (Int×Int))(v11:Option T):List (Option T):=[some (.raw (.ref p)),some (.int mo),some (.int n),v3,v4,v5,v6,v7,v8,v9,some (.lst (L.map AF)),v11]
noncomputable def Tn(mo:Int)(O0:AM)(p:Addr)(Φ:Bf):Prop:=∀(n:Int) (ps:List (Int×Int)) (O':AM),3≤n→n≤mo→(∀q∈ps,AU n q)→ps.Pairwise CQ→ps.length≤200→PO O0 p O'→Φ (AI n ps) O'
theorem To(hr:Room 2 (zW P w K mg base f cdv A outer s H E O0 Ξ).X.A)(xf:XFly (zW P w K mg base f cdv A outer s H E O0 Ξ).X (zW P w K mg base f cdv A outer s H E O0 Ξ).W)(Gw:FnT P w K mg base "_law_web_of" 1 ["_law_many","_law_ties"] Du)
  (po:PO O0 p O1) (m1:mo≤16) (n0:3≤n) (n1:n≤mo) (hL:JJ n L) (hl:L.length≤140) (q:Tn mo O0 p Φ):
  Fu (zW P w K mg base f cdv A outer s H E O0 Ξ) (Nw mo p n v3 v4 v5 v6 v7 v8 v9 L v11) O1 [IU 14] {nx:=N,rt:=Φ}:=by
 have sb:=AX
 have lf:(L.filter fun p=>!decide (p.1=p.2)).length≤L.length:=lz ..
 refine AG (AK (Al Gw (hr.mono (by decide)) xf (EA.wa (AD (ev 2) (AD (Dc ["_law_pair"] [] L AF AF (fun p=>!decide (p.1=p.2)) rfl (BV (AA DM) FG (by decide+kernel)) (Am (ev 10)) (by omega) fun x hx=> ⟨[some (AF x)],fun X' Oe He is O'=>?_⟩) AB)) ⟨n,L.filter fun p=>!decide (p.1=p.2),rfl,by omega,fun p hp=>?_,fun rs r1 r2 r3=>q n rs O1 n0 n1 (fun z hz=>?_) r1 (by omega) po⟩)))
 ·obtain⟨cl,s',H',fp,rfl⟩:=is
  exact⟨AV 0 df (by decide),DV (AR (ev 0) AC) (AR (ev 0) AC),fun _=>ev 0⟩
 ·have:=hL p (jo.mp hp).1
  unfold TQ
  omega
 ·obtain⟨y,hy,rfl⟩:=jl.mp ((r2 z).mp hz)
  obtain⟨h1,h2⟩:=jo.mp hy
  have:=hL y h1
  have h2:y.1≠y.2:=by simpa using h2
  unfold AU mm
  show 0≤min _ _∧min _ _<max _ _∧max _ _<n
  omega
theorem Tp(hr:Room 2 (zW P w K mg base f cdv A outer s H E O0 Ξ).X.A)(xf:XFly (zW P w K mg base f cdv A outer s H E O0 Ξ).X (zW P w K mg base f cdv A outer s H E O0 Ξ).W)(Tx:Txt mg)(G:FnT P w K mg base "_law_draw" 2 ["_law_pen","_law_many"] DE)(Gw:FnT P w K mg base "_law_web_of" 1 ["_law_many","_law_ties"] Du)
  (po:PO O0 p O1) (m1:mo≤16) (n0:3≤n) (n1:n≤mo) (hL:JJ n L) (hl:L.length≤130) (q:Tn mo O0 p Φ):
  Fu (zW P w K mg base f cdv A outer s H E O0 Ξ) (Nw mo p n v3 v4 v5 v6 v7 v8 v9 L v11) O1 [IU 13,IU 14] {nx:=N,rt:=Φ}:=by
 have sb:=AX
 have hu:(zW P w K mg base f cdv A outer s H E O0 Ξ).X.A.units<cLine:=by have:=hr.un;omega
 refine AE (SY (NT RI (Ac _) (Bz G hr xf po (ev 0) AC (by decide) (by decide) fun r0 O2 _ _ po2=>ET.we AC (NR _ ⟨_,rfl,Yu (fun _=>?_) (fun _=>AZ (To hr xf Gw po2 m1 n0 n1 hL (by omega) q))⟩))))
 refine AE (AN 6 (Bz G hr xf po2 (ev 0) (Cz (ev 2) AC) (by omega) (by omega) fun one O3 o0 o1 po3=>?_) BE.nd)
 refine AE (AN 11 (HZ (Hk (ET.we (ev 6) (Hk (Em FL (ET.we (BB (ev 6) AC) (Bz G hr xf po3 (ev 0) (Cz (Cz (ev 2) AC) (ev 6)) (by omega) (by omega) fun r O4 r0 r1 po4=>Ha _ (BL ⟨by show 2≤sizeLine;decide,?_⟩))))))))  BE.nd)
 have lf:(L.filter fun x=>!decide (p8 [x.1,x.2]=[one,one+1+r])).length≤L.length:=lz ..
 refine AG (AN 10 (Em Mt (ET.we (Dc ["_law_other"] [("_law_pair",11)] L AF AF (fun x=>!decide (p8 [x.1,x.2]=[one,one+1+r])) rfl (BV (AA DM) FG (by decide+kernel)) (Am (ev 10)) (by omega) fun x hx=> ⟨[some (AF x),some (AF (one,one+1+r))],fun X' Oe He is O'=>?_⟩) (Em Vo (ET.we (Au (AD (ev 11) AB) (by show 1≤sizeLine;decide)) (Bz G hr xf po4 (ev 0) AC (by decide) (by decide) fun k O5 k0 k1 po5=>Vr (by omega) _ ?_))))) BE.nd)
 ·obtain⟨cl,s',H',fp,rfl⟩:=is
  exact⟨AV 0 de (by decide),Af (Zf hu) (Ac _) (dG (ms:=[one,one+1+r])) (Nv (ns:=[x.1,x.2]) Tx.nSorted (ev 0) (by simp)) (Sg Tx.nList (ev 1)),fun _=>ev 0⟩
 ·have lr:(kX k.toNat (T.tup [.int one,.int (one+1+r)])).length≤1:=by rw[lS];omega
  refine Jv (by rw[e7];omega) _ ?_
  have e:(L.filter fun x=>!decide (p8 [x.1,x.2]=[one,one+1+r])).map AF++kX k.toNat (T.tup [.int one,.int (one+1+r)])=((L.filter fun x=>!decide (p8 [x.1,x.2]=[one,one+1+r]))++kX k.toNat (one,one+1+r)).map AF:=by
   rw[jX,List.map_replicate];rfl
  rw[e]
  refine To hr xf Gw po5 m1 n0 n1 (fun z hz=>?_) (by rw[jf,lS];omega) q
  rcases ju.mp hz with hz|hz
  ·exact hL z (jo.mp hz).1
  ·rw[(List.mem_replicate.mp hz).2]
   show 0≤one∧one<n∧0≤one+1+r∧one+1+r<n
   omega
end
theorem FH{n st bg:Int}:(MM n st bg).length=n.toNat:=by simp[MM]
theorem Hy{n st bg m:Int}(n0:0<n)(b0:0≤bg)(h:bg+n≤m):JJ m (MM n st bg):=by
 intro p hp
 obtain⟨i,hi,rfl⟩:=jl.mp hp
 have hi:=ke.mp hi
 have h1:=nD (0+(i:Int)+st) (show n≠0 by omega)
 have h2:=mO (0+(i:Int)+st) n0
 show 0≤bg+(0+(i:Int))∧bg+(0+(i:Int))<m∧0≤bg+(0+(i:Int)+st)%n∧bg+(0+(i:Int)+st)%n<m
 omega
noncomputable def Ur(h:Int):List (Int×Int):=(j6 h.toNat).map fun(i:Nat)=> (0+(i:Int),h+(0+(i:Int)))
theorem Wh{h:Int}:(Ur h).length=h.toNat:=by simp[Ur]
theorem Tq{h m:Int}(e:2*h≤m)(h0:0≤h):JJ m (Ur h):=by
 intro p hp
 obtain⟨i,hi,rfl⟩:=jl.mp hp
 have hi:=ke.mp hi
 show 0≤0+(i:Int)∧0+(i:Int)<m∧0≤h+(0+(i:Int))∧h+(0+(i:Int))<m
 omega
theorem FI{n:Int}{L M:List (Int×Int)}(a:JJ n L)(b:JJ n M):JJ n (L++M):=fun p hp=> (ju.mp hp).elim (a p) (b p)
section
variable{mo:Int}{P:Program}{w:World}{K:b9}{mg:Str→Option Value}{base:Heap}{f:Addr}{cdv:Value}{A:js}{outer:List Env}{s:c9}{H:Hp}{E:XK}{O0 O1:AM}{Ξ:Value→AM→Prop}{p:Addr}{n hf way st:Int}{L es:List (Int×Int)}{v6 v7 v8:Option T}{Φ:Bf}{N:Li}
theorem Ny{ρ:List (Option T)}(Tx:Txt mg)(h0:0≤hf)(h1:hf≤8)(hρ:ρ[3]?=some (some (.int hf)))(hρl:ρ.length=12):ET (zW P w K mg base f cdv A outer s H E O0 Ξ) ρ O1 (match da ((iV (IU 11)).getD 1 (.Pass ⟨0,0,0,0⟩)) with| .BinOp _ _ b _=>b|x=>x) (.lst ((Ur hf).map AF)):=by
 have sb:=AX
 match ρ,hρl,hρ with
 | [a0,a1,a2,a3,a4,a5,a6,a7,a8,a9,a10,a11],_,hρ=>
  cases(show a3=some (.int hf) from ki.inj hρ)
  refine ET.cast (BM ["_law_at"] [("_law_half",3)] (j6 hf.toNat) (fun i=> .int (0+(i:Int))) (fun i=>AF (0+(i:Int),hf+(0+(i:Int)))) rfl (BV (AA DM) FG (by decide+kernel)) (BF Tx.nRange (ev 3) ⟨by omega,by omega⟩) (by simp;omega) fun x hx=> ⟨[some (.int (0+(x:Int))),some (.int hf)],fun X' Oe He is O'=>?_⟩) ?_
  ·obtain⟨cl,s',H',fp,rfl⟩:=is
   exact⟨AV 0 Xq (by decide),An (ev 0) (BB (ev 1) (ev 0))⟩
  ·unfold Ur
   rw[kv];rfl
theorem Nz{ρ:List (Option T)}(Tx:Txt mg)(h0:0≤hf)(h1:hf≤8)(hρ:ρ[3]?=some (some (.int hf)))(hρl:ρ.length=12):ET (zW P w K mg base f cdv A outer s H E O0 Ξ) ρ O1 (match da ((iV (IU 12)).getD 1 (.Pass ⟨0,0,0,0⟩)) with| .BinOp _ _ b _=>b|x=>x) (.lst ((Ur hf).map AF)):=by
 have sb:=AX
 match ρ,hρl,hρ with
 | [a0,a1,a2,a3,a4,a5,a6,a7,a8,a9,a10,a11],_,hρ=>
  cases(show a3=some (.int hf) from ki.inj hρ)
  refine ET.cast (BM ["_law_at"] [("_law_half",3)] (j6 hf.toNat) (fun i=> .int (0+(i:Int))) (fun i=>AF (0+(i:Int),hf+(0+(i:Int)))) rfl (BV (AA DM) FG (by decide+kernel)) (BF Tx.nRange (ev 3) ⟨by omega,by omega⟩) (by simp;omega) fun x hx=> ⟨[some (.int (0+(x:Int))),some (.int hf)],fun X' Oe He is O'=>?_⟩) ?_
  ·obtain⟨cl,s',H',fp,rfl⟩:=is
   exact⟨AV 0 Xq (by decide),An (ev 0) (BB (ev 1) (ev 0))⟩
  ·unfold Ur
   rw[kv];rfl
theorem aF(hr:Room 2 (zW P w K mg base f cdv A outer s H E O0 Ξ).X.A)(xf:XFly (zW P w K mg base f cdv A outer s H E O0 Ξ).X (zW P w K mg base f cdv A outer s H E O0 Ξ).W)(Tx:Txt mg)(G:FnT P w K mg base "_law_draw" 2 ["_law_pen","_law_many"] DE)(Gr:FnT P w K mg base "_law_round" 1 ["_law_n","_law_step","_law_begin"] Gk)(Gw:FnT P w K mg base "_law_web_of" 1 ["_law_many","_law_ties"] Du)
  (po:PO O0 p O1) (m1:mo≤16) (n0:3≤n) (n1:n≤mo) (f0:3≤hf) (f1:hf≤8) (hE:JJ n es) (hel:es.length≤120) (hL:JJ n L) (hl:L.length≤120) (h7:way=7→L.length≤16) (q:Tn mo O0 p Φ):
  Fu (zW P w K mg base f cdv A outer s H E O0 Ξ) (Nw mo p n (some (.int hf)) (some (.int way)) (some (.lst (es.map AF))) v6 v7 v8 (some (.int st)) L none) O1 [IU 9,IU 10,IU 11,IU 12,IU 13,IU 14] {nx:=N,rt:=Φ}:=by
 have sb:=AX
 refine AE (GM (Ψ:={nx:=fun ρ' O'=>O1=O'∧∃L,ρ'=Nw mo p n (some (.int hf)) (some (.int way)) (some (.lst (es.map AF))) v6 v7 v8 (some (.int st)) L none∧JJ n L∧L.length≤120,rt:=Φ}) (Ad (FY (ev 4) AC) (fun h=>?_) (fun h=>AZ ⟨rfl,L,rfl,hL,hl⟩)) ?_ (fun _ _ z=>z) (fun _ _ z=>z) (fun _ _ z=>z))
 ·have h:way=7:=by simpa using h
  have:=h7 h
  have e:(MM n (st+1) 0).length=n.toNat:=FH
  refine AG (AN 10 (ET.we (DB (ev 10) (AJ Gr (hr.mono (by decide)) xf (AD (ev 2) (AD (BB (ev 9) AC) (AD AC AB))) ⟨n,st+1,0,rfl,by omega,by omega,rfl⟩) (by simp only[e7];omega)) ?_) BE.nd)
  refine⟨rfl,L++MM n (st+1) 0,?_,FI hL (Hy (by omega) (by omega) (by omega)),by rw[jf];omega⟩
  unfold Nw
  rw[jX];rfl
 rintro _ _ ⟨rfl,L,rfl,hL,hl⟩
 refine AE (GM (Ψ:={nx:=fun ρ' O'=>O1=O'∧∃L,ρ'=Nw mo p n (some (.int hf)) (some (.int way)) (some (.lst (es.map AF))) v6 v7 v8 (some (.int st)) L none∧JJ n L∧L.length≤120,rt:=Φ}) (Ad (FY (ev 4) AC) (fun h=>?_) (fun h=>AZ ⟨rfl,L,rfl,hL,hl⟩)) ?_ (fun _ _ z=>z) (fun _ _ z=>z) (fun _ _ z=>z))
 ·have lf:(es.filter fun x=>decide (x.1<hf)&&decide (hf≤x.2)).length≤es.length:=lz ..
  refine AG (Eo (i:=10) (nc:=["_law_pair"]) (cap:=[("_law_half",3)]) (by rfl) BE.nd rfl (BV (AA DM) FG (by decide+kernel)) (Am (ev 5) _ (Da es AF AF (fun x=>decide (x.1<hf)&&decide (hf≤x.2)) (by omega) (fun x hx=> ⟨[some (AF x),some (.int hf)],fun X' Oe He is O'=>?_⟩) ?_)))
  ·obtain⟨cl,s',H',fp,rfl⟩:=is
   exact⟨AV 0 di (by decide),EW.eb (FZ (cf (AR (ev 0) AC) (ev 1)) fun _=>Dp (cg (AR (ev 0) AC) (ev 1))),fun _=>ev 0⟩
  ·exact⟨rfl,_,rfl,fun z hz=>hE z (jo.mp hz).1,by omega⟩
 rintro _ _ ⟨rfl,L,rfl,hL,hl⟩
 have e1:(MM hf 1 0).length=hf.toNat:=FH
 have e2:(MM hf st hf).length=hf.toNat:=FH
 have e3:(Ur hf).length=hf.toNat:=Wh
 have e4:(MM (2*hf) 1 0).length=(2*hf).toNat:=FH
 refine AE (GM (Ψ:={nx:=fun ρ' O'=>O1=O'∧∃n L,3≤n∧n≤mo∧ρ'=Nw mo p n (some (.int hf)) (some (.int way)) (some (.lst (es.map AF))) v6 v7 v8 (some (.int st)) L none∧JJ n L∧L.length≤120,rt:=Φ}) (Ad (EW.eb (FZ (FY (ev 4) AC) fun _=>Dp (Xb (EL AC (ev 3) (.inl ⟨by decide,by decide⟩)) (ev 1)))) (fun h=>?_) (fun h=>AZ ⟨rfl,n,L,n0,n1,rfl,hL,hl⟩)) ?_ (fun _ _ z=>z) (fun _ _ z=>z) (fun _ _ z=>z))
 ·have h:(decide (way=4)&&decide (2*hf≤mo))=true:=h
  have h16:2*hf≤mo:=by simp at h;omega
  refine AE (AN 2 (ET.we (EL AC (ev 3) (.inl ⟨by decide,by decide⟩)) ?_) BE.nd)
  refine AG (AN 10 (ET.we (t:=.lst ((MM hf 1 0++MM hf st hf++Ur hf).map AF)) ?_ ?_) BE.nd)
  rotate_left
  ·exact⟨rfl,2*hf,_,by omega,by omega,rfl,FI (FI (Hy (by omega) (by omega) (by omega)) (Hy (by omega) (by omega) (by omega))) (Tq (by omega) (by omega)),by simp only[jf];omega⟩
  rw[jX,jX]
  exact DB (DB (AJ Gr (hr.mono (by decide)) xf (AD (ev 3) (AD AC (AD AC AB))) ⟨hf,1,0,rfl,by omega,by omega,rfl⟩) (AJ Gr (hr.mono (by decide)) xf (AD (ev 3) (AD (ev 9) (AD (ev 3) AB))) ⟨hf,st,hf,rfl,by omega,by omega,rfl⟩) (by simp only[e7];omega)) (Ny Tx (by omega) (by omega) rfl rfl) (by simp only[jf,e7];omega)
 rintro _ _ ⟨rfl,n,L,n0,n1,rfl,hL,hl⟩
 refine AE (Ad (EW.eb (FZ (FY (ev 4) AC) fun _=>Dp (Xb (EL AC (ev 3) (.inl ⟨by decide,by decide⟩)) (ev 1)))) (fun h=>?_) (fun h=>AZ (Tp hr xf Tx G Gw po m1 n0 n1 hL (by omega) q)))
 have h:(decide (way=5)&&decide (2*hf≤mo))=true:=h
 have h16:2*hf≤mo:=by simp at h;omega
 refine AE (AN 2 (ET.we (EL AC (ev 3) (.inl ⟨by decide,by decide⟩)) ?_) BE.nd)
 refine AG (AN 10 (ET.we (t:=.lst ((MM (2*hf) 1 0++Ur hf).map AF)) ?_ (Tp hr xf Tx G Gw po m1 (by omega) (by omega) (FI (Hy (by omega) (by omega) (by omega)) (Tq (by omega) (by omega))) (by simp only[jf];omega) q)) BE.nd)
 rw[jX]
 exact DB (AJ Gr (hr.mono (by decide)) xf (AD (ev 2) (AD AC (AD AC AB))) ⟨2*hf,1,0,rfl,by omega,by omega,rfl⟩) (Nz Tx (by omega) (by omega) rfl rfl) (by simp only[e7];omega)
end
section
variable{mo:Int}{P:Program}{w:World}{K:b9}{mg:Str→Option Value}{base:Heap}{f:Addr}{cdv:Value}{A:js}{outer:List Env}{s:c9}{H:Hp}{E:XK}{O0 O1:AM}{Ξ:Value→AM→Prop}{p:Addr}{n hf way sh st:Int}{L es ds:List (Int×Int)}{v6 v7 v8:Option T}{Φ:Bf}{N:Li}
noncomputable def Tr(n:Int)(es ds:List (Int×Int)):List (List (Int×Int)):=[ds,MM n 1 0,es,ds,[],[],ds,MM n 1 0]
theorem Ts(n0:3≤n)(n1:n≤16)(hE:JJ n es)(hel:es.length≤120)(hD:JJ n ds)(hdl:ds.length≤120)(w0:0≤way)(w1:way<8):
  ∃L,atI ((Tr n es ds).map fun L=>T.lst (L.map AF)) way=some (.lst (L.map AF))∧JJ n L∧L.length≤120∧(way=7→L.length≤16):=by
 have e:(MM n 1 0).length=n.toNat:=FH
 have hR:JJ n (MM n 1 0):=Hy (by omega) (by omega) (by omega)
 have:way=0∨way=1∨way=2∨way=3∨way=4∨way=5∨way=6∨way=7:=by omega
 have hN:JJ n []:=fun _ h=>by cases h
 rcases this with rfl|rfl|rfl|rfl|rfl|rfl|rfl|rfl
 ·exact⟨ds,rfl,hD,hdl,fun z=>by omega⟩
 ·exact⟨_,rfl,hR,by omega,fun z=>by omega⟩
 ·exact⟨es,rfl,hE,hel,fun z=>by omega⟩
 ·exact⟨ds,rfl,hD,hdl,fun z=>by omega⟩
 ·exact⟨[],rfl,hN,by simp,fun z=>by omega⟩
 ·exact⟨[],rfl,hN,by simp,fun z=>by omega⟩
 ·exact⟨ds,rfl,hD,hdl,fun z=>by omega⟩
 ·exact⟨_,rfl,hR,by omega,fun z=>by omega⟩
theorem aG(hr:Room 2 (zW P w K mg base f cdv A outer s H E O0 Ξ).X.A)(xf:XFly (zW P w K mg base f cdv A outer s H E O0 Ξ).X (zW P w K mg base f cdv A outer s H E O0 Ξ).W)(Tx:Txt mg)(G:FnT P w K mg base "_law_draw" 2 ["_law_pen","_law_many"] DE)(Gr:FnT P w K mg base "_law_round" 1 ["_law_n","_law_step","_law_begin"] Gk)(Gw:FnT P w K mg base "_law_web_of" 1 ["_law_many","_law_ties"] Du)
  (po:PO O0 p O1) (m1:mo≤16) (n0:3≤n) (n1:n≤mo) (f0:3≤hf) (f1:hf≤8) (w0:0≤way) (w1:way<8) (hE:JJ n es) (hel:es.length≤120) (q:Tn mo O0 p Φ):
  Fu (zW P w K mg base f cdv A outer s H E O0 Ξ) [some (.raw (.ref p)),some (.int mo),some (.int n),some (.int hf),some (.int way),some (.lst (es.map AF)),v6,none,none,none,none,none] O1 [IU 5,IU 6,IU 7,IU 8,IU 9,IU 10,IU 11,IU 12,IU 13,IU 14] {nx:=N,rt:=Φ}:=by
 have sb:=AX
 refine AE (AN 7 (Em FL (ET.we AC (Bz G hr xf po (ev 0) AC (by decide) (by decide) fun r O2 r0 r1 po2=>Ha _ ?_))) BE.nd)
 refine AE (Eo (i:=8) (nc:=["_law_pair"]) (cap:=[("_law_pen",0),("_law_share",7)]) (by rfl) BE.nd rfl (BV (AA DM) FG (by decide+kernel)) (EI.wi (Am (ev 5)) ?_))
 refine⟨fun i acc O'=>∃qs:List (Int×Int),acc=qs.map AF∧JJ n qs∧qs.length≤i∧i≤120∧PO O0 p O',⟨[],rfl,(fun _ h=>by cases h),by simp,by omega,po2⟩,?_,?_⟩
 ·rintro i t acc O' c e ⟨qs,rfl,hq,hl,_,po⟩ hc
  rw[e9] at e
  cases ee:es[i]? with
  |none=>rw[ee] at e;cases e
  |some z=>
   rw[ee] at e
   cases e
   have hi:=(jc.mp ee).1
   refine⟨[some (AF z),some (.raw (.ref p)),some (.int (2+r))],fun X' Oe He is=>?_⟩
   obtain⟨cl,s',H',fp,rfl⟩:=is
   refine⟨AV 0 dh (by decide),Oq (NT RI (Ac _) (MA G hr By po hc (ev 1) (ev 2) (by omega) (by omega) fun r' O3 r0' r1' po3 hc3=>ET.we AC (NR _ ⟨_,rfl,?_⟩)))⟩
   refine Yu (fun h=>?_) (fun h=>?_)
   ·rintro X' Oe He ⟨cl,s',H',fp,rfl⟩
    refine ET.we (ev 0) ⟨O3,rfl,hc3,by rw[e7];omega,qs++[z],by rw[jX];rfl,fun y hy=>?_,by simp;omega,by omega,po3⟩
    rcases ju.mp hy with hy|hy
    ·exact hq y hy
    ·rw[jd.mp hy];exact hE z (i9 ee)
   ·exact⟨O3,rfl,hc3,qs,rfl,hq,by omega,by omega,po3⟩
 ·rintro acc O' ⟨ds,rfl,hD,hdl,_,po3⟩
  rw[e7] at hdl
  refine AE (AN 9 (Em FL (ET.we AC (Bz G hr xf po3 (ev 0) (Dq Tx.nMax rfl AC (En (Cz (ev 3) AC) AC ⟨by decide,by decide⟩)) (by omega) (by omega) fun st O4 t0 t1 po4=>Ha _ ?_))) BE.nd)
  obtain⟨L,a1,a2,a3,a4⟩:=Ts (n:=n) (es:=es) (ds:=ds) (way:=way) n0 (by omega) hE hel hD (by omega) w0 w1
  refine AE (AN 10 (ET.we (CJ (ts:=(Tr n es ds).map fun L=>T.lst (L.map AF)) (Au (AD (ev 8) (AD ?_ (AD (ev 5) (AD (ev 8) (AD (Au AB (kN _)) (AD (Au AB (kN _)) (AD (ev 8) (AD ?_ AB)))))))) (kG (show 8≤1000 by decide) (pK sb))) (ev 4) a1) ?_) BE.nd)
  ·exact AJ Gr (hr.mono (by decide)) xf (AD (ev 2) (AD AC (AD AC AB))) ⟨n,1,0,rfl,by omega,by omega,rfl⟩
  ·exact AJ Gr (hr.mono (by decide)) xf (AD (ev 2) (AD AC (AD AC AB))) ⟨n,1,0,rfl,by omega,by omega,rfl⟩
  ·exact aF hr xf Tx G Gr Gw po4 m1 n0 n1 f0 f1 hE hel a2 a3 a4 q
noncomputable def Tt:Bp:=fun ts O Φ _=>∃(p:Addr) (xs:List T) (mo:Int),ts=[.raw (.ref p),.int mo]∧3≤mo∧mo≤16∧O p=some xs∧KM xs∧Tn mo O p Φ
theorem MN{fd:jv}(F:Fun K "_law_some_web" "_law_some_web" DM f fd)(Tx:Txt mg)(G:FnT P w K mg base "_law_draw" 2 ["_law_pen","_law_many"] DE)(Gr:FnT P w K mg base "_law_round" 1 ["_law_n","_law_step","_law_begin"] Gk)(Gw:FnT P w K mg base "_law_web_of" 1 ["_law_many","_law_ties"] Du):FnOk P w K mg base (CXe P w) 3 f fd ["_law_pen","_law_most"] (CC K Tt):=by
 refine AS F BE ?_ ?_
 ·rintro ts O Φ Ξ ⟨p,xs,mo,rfl,_⟩
  rfl
 ·rintro cdv A outer s H E O Ξ hr xf _ Φ ⟨p,xs,mo,rfl,m0,m1,hp,px,q⟩
  have sb:=AX
  refine AE (AN 2 (Em FL (ET.we AC (Bz G hr xf (PO.start hp px) (ev 0) (Cz (ev 1) AC) (by omega) (by omega) fun r O1 r0 r1 po1=>Ha _ ?_))) BE.nd)
  have n0:3≤3+r:=by omega
  have n1:3+r≤mo:=by omega
  refine AE (AN 3 (ET.we (Dq Tx.nMax rfl AC (En (ev 2) AC ⟨by decide,by decide⟩)) ?_) BE.nd)
  have f0:3≤max 3 ((3+r)/2):=by omega
  have f1:max 3 ((3+r)/2)≤8:=by omega
  refine AE (AN 4 (Bz G hr xf po1 (ev 0) AC (by decide) (by decide) fun way O2 w0 w1 po2=>?_) BE.nd)
  refine AE (AN 5 (Cy (BL ⟨kN _,fun l hl=>?_⟩)) BE.nd)
  refine AE (Bc Ao.own rfl (EI.wi (BF Tx.nRange (ev 2) ⟨by omega,by omega⟩) ⟨fun i ρ' O'=>i≤16∧∃(es:List (Int×Int)) (v6:Option T),ρ'=[some (.raw (.ref p)),some (.int mo),some (.int (3+r)),some (.int (max 3 ((3+r)/2))),some (.int way),some (.raw (.ref l)),v6,none,none,none,none,none]∧O'=Ap O2 l (es.map AF)∧JJ (3+r) es∧2*es.length+i=i*i,⟨by omega,[],none,rfl,rfl,(fun _ h=>by cases h),rfl⟩,?_,?_⟩))
  ·rintro i t _ _ e ⟨_,es,v6,rfl,rfl,hE,hlen⟩
   obtain⟨hi,rfl⟩:=DX e
   have hi2:i<16:=by omega
   have hsq:i*i≤15*15:=r9 (by omega) (by omega)
   refine⟨[some (.raw (.ref p)),some (.int mo),some (.int (3+r)),some (.int (max 3 ((3+r)/2))),some (.int way),some (.raw (.ref l)),some (.int (0+i)),none,none,none,none,none],AV 6 BE.nd (by show 6<12;decide),?_⟩
   refine AG (BC (JA (ET.we (ev 5) ⟨l,rfl,⟨_,AH⟩,ET.we (BM ["_law_other"] [("_law_one",6)] (j6 (0+(i:Int)).toNat) (fun j=> .int (0+(j:Int))) (fun j=>AF (0+(j:Int),0+(i:Int))) rfl (BV (AA DM) FG (by decide+kernel)) (BF Tx.nRange (ev 6) ⟨by omega,by omega⟩) (by simp;omega) fun x hx=> ⟨[some (.int (0+(x:Int))),some (.int (0+(i:Int)))],fun X' Oe He is O'=>?_⟩) ⟨_,_,rfl,AH,by simp only[e7,lG];omega,?_⟩⟩)))
   ·obtain⟨cl,s',H',fp,rfl⟩:=is
    exact⟨AV 0 dg (by decide),An (ev 0) (ev 1)⟩
   ·refine⟨by omega,es++(j6 (0+(i:Int)).toNat).map (fun(j:Nat)=> (0+(j:Int),0+(i:Int))),_,rfl,?_,FI hE (fun z hz=>?_),?_⟩
    ·rw[BS,jX,kv];rfl
    ·obtain⟨j,hj,rfl⟩:=jl.mp hz
     have hj:=ke.mp hj
     show 0≤0+(j:Int)∧0+(j:Int)<3+r∧0≤0+(i:Int)∧0+(i:Int)<3+r
     omega
    ·rw[jf,e7,lG]
     have e1:(i+1)*(i+1)=i*i+2*i+1:=by rw[Nat.succ_mul,Nat.mul_succ];omega
     rw[e1]
     omega
  ·rintro _ _ ⟨_,es,v6,rfl,rfl,hE,hlen⟩
   rw[BX] at hlen
   have hsq:(3+r).toNat*(3+r).toNat≤16*(3+r).toNat:=Nat.mul_le_mul_right _ (by omega)
   refine Bq (p:=l) (n:=5) (ts:=es.map AF) AH ?_ rfl ?_
   ·obtain⟨ys,rfl,_⟩:=po2
    by_cases hb:l=p
    ·rw[hb,AH] at hl;cases hl
    ·rw[Ah hb] at hl;exact hl
   ·rw[BG hl]
    exact aG hr xf Tx G Gr Gw po2 m1 n0 n1 f0 f1 w0 w1 hE (by omega) q
end
open Gr
theorem KU{n:Int}{ps:List (Int×Int)}{i:Nat}(hw:JD n ps)(hp:ps.Pairwise CQ):(Ae ps i).Pairwise (· < ·):=by
 unfold Ae
 rw[pC]
 refine mh ?_ hp
 intro p q hp hq h x hx y hy
 have a:=hw p hp
 have b:=hw q hq
 unfold CQ at h
 have f:∀(r:Int×Int) (z:Int),(if r.1=(i:Int) then some r.2 else if r.2=(i:Int) then some r.1 else none)=some z→(r.1=(i:Int)∧r.2=z)∨(r.1≠(i:Int)∧r.2=(i:Int)∧r.1=z):=fun r z e=>by
  by_cases h:r.1=(i:Int)
  ·rw[if_pos h] at e
   cases e
   exact .inl ⟨h,rfl⟩
  ·rw[if_neg h] at e
   by_cases h2:r.2=(i:Int)
   ·rw[if_pos h2] at e
    cases e
    exact .inr ⟨h,h2,rfl⟩
   ·rw[if_neg h2] at e;cases e
 rcases f p x hx with c|c<;>rcases f q y hy with d|d<;>omega
open GrR
variable{n:Int}{ps:List (Int×Int)}{s:Nat}
theorem Tu:∀u v,Gr.Adj ps u v→Gr.Adj ps v u:=fun _ _ h=>h.symm
theorem OA:∀u v,v∈Ag ps u↔Gr.Adj ps u v:=fun _ _=>Dt
theorem JK(hw:Gr.JD n ps){i:Nat}:Ae ps i=Ag ps (i:Int):=by
 unfold Ae Ag
 induction ps with
 |nil=>rfl
 |cons p ps ih=>
  have ih:=ih fun q hq=>hw q (jn _ hq)
  have hp:=hw p (by simp)
  by_cases h1:p.1=(i:Int)
  ·rw[lR,if_pos h1,m7,if_pos (by simp[h1]),jr,←ih,show p.1+p.2- (i:Int)=p.2 by omega]
  ·by_cases h2:p.2=(i:Int)
   ·rw[lR,if_neg h1,if_pos h2,m7,if_pos (by simp[h2]),jr,←ih,show p.1+p.2- (i:Int)=p.1 by omega]
   ·rw[lR,if_neg h1,if_neg h2,m7,if_neg (by simp only[i6,jk,or_false,decide_eq_true_eq];exact fun z=>z.elim (fun z=>h1 z.symm) (fun z=>h2 z.symm))]
    exact ih
theorem Wi(hw:Gr.JD n ps){u:Int}(h:u<0):Ag ps u=[]:=by
 cases e:Ag ps u with
 |nil=>rfl
 |cons v l=>
  have:Gr.Adj ps u v:=Dt.mp (by rw[e];simp)
  have:=(this.symm.inb hw).1
  omega
theorem Qk(hw:Gr.JD n ps)(hp:ps.Pairwise CQ):∀u,(Ag ps u).Pairwise (· < ·):=fun u=>by
 by_cases h:u<0
 ·rw[Wi hw h];exact mF
 ·obtain⟨i,rfl⟩:=j7 (show 0≤u by omega)
  rw[←JK hw]
  exact KU hw hp
theorem MO(hw:Gr.JD n ps):∀u v,Gr.Adj ps u v→0≤v∧v<n:=fun u v h=> ⟨(h.inb hw).1,(h.inb hw).2.1⟩
noncomputable def Mj(ps:List (Int×Int)):Option Int:=ML (FD (ps.map fun p=>FE ps p))
theorem MP(hw:Gr.JD n ps){p:Int×Int}(hp:p∈ps):Gr.Adj (Fy ps p)=Xk (Gr.Adj ps) p.1 p.2:=by
 funext u v
 have:=FF hw (a:=p.1) (b:=p.2) (u:=u) (v:=v)
 rw[(Xp hw hp).1] at this
 exact propext this
theorem MQ{z:Int}:z∈FD (ps.map fun p=>FE ps p)↔∃p∈ps,∃d:Nat,Jz (Gr.Adj (Fy ps p)) [p.1] p.2=some d∧z=d+1:=by
 rw[Wd]
 constructor
 ·rintro⟨i,d,h,rfl⟩
  rw[e9] at h
  cases e:ps[i]? with
  |none=>rw[e] at h;cases h
  |some p=>
   rw[e] at h
   have h:FE ps p=some d:=by simpa using h
   unfold FE at h
   cases e2:Jz (Gr.Adj (Fy ps p)) [p.1] p.2 with
   |none=>rw[e2] at h;cases h
   |some d'=>
    rw[e2] at h
    have:d'+1=d:=by simpa using h
    exact⟨p,i9 e,d',e2,by omega⟩
 ·rintro⟨p,hp,d,h,rfl⟩
  obtain⟨i,hi,rfl⟩:=oO hp
  refine⟨i,d+1,?_,by omega⟩
  rw[e9,i8 hi]
  unfold FE
  simp[h]
theorem Wj(hw:Gr.JD n ps){r:List Int}(h:Ring (Gr.Adj ps) r):∃m,Mj ps=some m∧m≤r.length:=by
 obtain⟨a,b,hab,w⟩:=Zj h
 have key:∃z,z∈FD (ps.map fun p=>FE ps p)∧z≤r.length:=by
  have hl:=h.len
  have fin:∀p∈ps,W (Xk (Gr.Adj ps) p.1 p.2) [p.1] (r.length-1) p.2→∃z,z∈FD (ps.map fun p=>FE ps p)∧z≤r.length:=fun p hp w=>by
   obtain⟨d,hd,hD⟩:=w.least
   rw[←MP hw hp] at hD
   exact⟨d+1,MQ.mpr ⟨p,hp,d,Df hD,rfl⟩,by omega⟩
  have sy:∀u v,Xk (Gr.Adj ps) a b u v→Xk (Gr.Adj ps) a b v u:=fun u v c=> ⟨c.1.symm,fun e=>c.2.2 ⟨e.2,e.1⟩,fun e=>c.2.1 ⟨e.2,e.1⟩⟩
  have sw:∀u v,Xk (Gr.Adj ps) a b u v→Xk (Gr.Adj ps) b a u v:=fun u v c=> ⟨c.1,c.2.2,c.2.1⟩
  rcases hab with hm|hm
  ·exact fin (a,b) hm (w.rev sy)
  ·exact fin (b,a) hm (w.mono sw)
 obtain⟨z,hz,hle⟩:=key
 have hm:=Gg (FD (ps.map fun p=>FE ps p))
 unfold Mj
 cases e:ML (FD (ps.map fun p=>FE ps p)) with
 |none=>rw[e] at hm;have hm:FD (ps.map fun p=>FE ps p)=[]:=hm;rw[hm] at hz;cases hz
 |some m=>
  rw[e] at hm
  exact⟨m,rfl,mY (hm.2 z hz) hle⟩
theorem aH(hw:Gr.JD n ps){m:Int}(h:Mj ps=some m):∃r,Ring (Gr.Adj ps) r∧(r.length:Int)=m:=by
 have hm:=Gg (FD (ps.map fun p=>FE ps p))
 unfold Mj at h
 rw[h] at hm
 obtain⟨p,hp,d,hd,rfl⟩:=MQ.mp hm.1
 rw[MP hw hp] at hd
 obtain⟨r,h1,h2⟩:=WB Tu (fun u hu=> (hu.inb hw).2.2 rfl) (show Gr.Adj ps p.1 p.2 from .inl hp) (GS.mp hd)
 exact⟨r,h1,by rw[h2];rfl⟩
theorem Tv(hw:Gr.JD n ps){r:List Int}(h:Ring (Gr.Adj ps) r):(r.length:Int)≤n∧3≤r.length:=by
 have:=Gr.Nc (n:=n) h.nd (WC (MO hw) h)
 have:=h.len
 omega
theorem Gp(hw:Gr.JD n ps){m:Int}(h:Mj ps=some m):∃k:Nat,m=k∧3≤k∧(k:Int)≤n∧(∀M,Ring (Gr.Adj ps) M→k≤M.length)∧∃r,Ring (Gr.Adj ps) r∧r.length=k:=by
 obtain⟨r,h1,h2⟩:=aH hw h
 have hl:=Tv hw h1
 refine⟨r.length,h2.symm,hl.2,hl.1,fun M hM=>?_,r,h1,rfl⟩
 obtain⟨m',e,hle⟩:=Wj hw hM
 rw[h] at e
 cases e
 omega
theorem Wl(hw:Gr.JD n ps)(hp:ps.Pairwise CQ)(hn:n≤20){c:Nat→Int→Bool}{p:Int}(h:0≤p∧p<n){k:Nat}(least:∀M,Ring (Gr.Adj ps) M→s≤M.length)(hk:k<s):(Kv (Ag ps) c p k).length≤8000:=
 WD Tu OA (Qk hw hp) (MO hw) hn h least hk
end K58
namespace L2
open PySem PySem.Spec PySem.Calls PyProof.Rows
section
variable{X:Cx}
noncomputable def Tw(ns:List Int):Int:=tu (fun i=>ns.getD i 0) ns.length
theorem JL{ns:List Int}(h:∀x∈ns,0≤x∧x≤1000000):∀k,0≤tu (fun i=>ns.getD i 0) k∧tu (fun i=>ns.getD i 0) k≤1000000*(k:Int)
 |0=> ⟨me _,me _⟩
 |k+1=>by
  have ih:=JL h k
  have e:0≤ns.getD k 0∧ns.getD k 0≤1000000:=by
   by_cases hk:k<ns.length
   ·have:=h ns[k] (kT hk)
    simpa[m6,hk] using this
   ·simp[m6,lA (by omega:ns.length≤k)]
  show 0≤tu (fun i=>ns.getD i 0) k+ns.getD k 0∧tu (fun i=>ns.getD i 0) k+ns.getD k 0≤_
  omega
theorem Ql(hc:X.calm=true):BJ X (.builtin "sum") (fun vs H Q=>∃(a:Addr) (ns:List Int),vs=[.ref a]∧Xa X.K H a (ns.map V.int)∧(∀x∈ns,0≤x∧x≤1000000)∧ns.length≤1000∧Q (.int (Tw ns)) H):=by
 intro pins s σ H vs us Q I r h
 obtain⟨a,ns,rfl,hq,hb,hz,q⟩:=h
 obtain⟨u,rfl,ru⟩:=Dy r
 cases ru
 obtain⟨its,rv,lt,wk⟩:=I.walk hq
 have hl:its.length=ns.length:=by have:=rv.length;rw[e7] at this;exact this.symm
 refine call_sum_walk (wk X.A.in1 _ _ (I.ok.hd hc) fun o St W st=> ⟨_,_,_,_,_,_,fun i=>ns.getD i 0,rfl,W,st,fun b hb=>?_,fun i v hv=>CI rv i v hv,fun j hj=>?_,fun h' tk t' hk=>?_⟩)
 ·show b< (s.heap.push o).objs.size
  rw[k7]
  simp only[i6,jk,or_false] at hb
  rcases hb with rfl|rfl
  ·exact m5 _
  ·exact md lt
 ·have b1:=JL hb (j+1)
  have b0:0≤ns.getD j 0∧ns.getD j 0≤1000000:=by
   have hjl:j<ns.length:=by omega
   have:=hb ns[j] (kT hjl)
   simpa[m6,hjl] using this
  have hj':((j+1:Nat):Int)≤1000:=by omega
  unfold InLong
  dsimp only
  constructor
  ·omega
  ·omega
 ·rw[hl]
  exact⟨.int _,H,I.kept (t':=tk) (EJ hk),⟨t',rfl⟩,q⟩
end
end L2
namespace L2.TL
open PySem PySem.Spec PySem.Calls PyProof.Rows
section
variable{Z:Zx}{ρ:List (Option T)}{O:AM}{e:Expr}{p pos:Pos}{ns:List Int}
theorem hC:ku "sum" =some (.builtin "sum"):=by decide+kernel
theorem aI(hb:∀x∈ns,0≤x∧x≤1000000)(hz:ns.length≤1000)(m:Z.X.mg "sum" =none)(hc:Z.X.calm=true)(h:ET Z ρ O e (.lst (ns.map T.int)))(hg:Gl Z.X "sum":=by rfl)(he:i7 [e] Z.X.env=(false,eval e Z.X.env)::i7 [] Z.X.env:=by rfl):ET Z ρ O (.Call (.Name "sum" p) [e] [] pos) (.int (Tw ns)):=
 BN (Ql hc) m hC (AQ h AB he) (fun Φ q H vs Q ok r k=>by
  obtain⟨v,rfl,r1⟩:=r.one_inv
  obtain⟨a,xs,rfl,h1,o1,r1⟩:=r1.lst_inv
  cases Reps.ints r1
  exact⟨a,ns,rfl,.inl (.inl (.inl h1)),hb,hz,k _ H _ O q (.refl ok) (.int _)⟩) hg (by decide) (by decide) he
end
end L2.TL
namespace K58
open PySem L2 L2.TL PySem.Spec PyProof.Rows GrR
theorem dj{n:Int}{ps:List (Int×Int)}(wn:WebN n ps):ML (FD (ps.map fun p=>Hw (Aq n ps) p.1 p.2))=Mj ps:=by
 unfold Mj
 congr 2
 refine nQ fun p hp=>?_
 rw[Tj wn (show Gr.Adj ps p.1 p.2 from .inl hp)]
 exact congrArg (FE ps) (Xp wn.hw hp).1
theorem dm:(Ak ["a","b"] [(("nears" :Str),1)]).Nodup:=by decide+kernel
section
variable{P:Program}{w:World}{K:b9}{mg:Str→Option Value}{base:Heap}
noncomputable def KW:Bp:=EX fun ts r=>∃n ps,ts=[AI n ps]∧WebN n ps∧r=Sv (Mj ps)
theorem PF:FnScope ["web","nears"] ["web"] (AA KI):=⟨rfl,rfl,rfl,by decide+kernel,rfl,by decide+kernel,by decide+kernel⟩
theorem Tz{f:Addr}{fd:jv}(F:Fun K "shortest" "shortest" KI f fd)(G:FnT P w K mg base "nears_of" 1 ["web"] FB)(Gr:FnT P w K mg base "ring_by_tie" 2 ["nears","a","b"] Xo)(Gl:FnT P w K mg base "least_told" 1 ["numbers"] Xn):FnOk P w K mg base (CXe P w) 3 f fd ["web"] (CC K KW):=by
 refine AS F PF ?_ ?_
 ·rintro ts O Φ Ξ ⟨r,⟨n,ps,rfl,_⟩,_⟩
  rfl
 ·rintro cdv A outer s H E O Ξ hr xf _ Φ ⟨_,⟨n,ps,rfl,wn,rfl⟩,q⟩
  have sb:=AX
  have hl:=wn.hl
  refine AE (AN 1 (ET.we (AJ G (hr.mono (by decide)) xf (AD (ev 0) AB) ⟨n,ps,rfl,wn.n0,wn.n1,wn.hw,wn.hl,rfl⟩) ?_) PF.nd)
  rw[JI,←dj wn] at*
  refine AG (AK (ET.we (AJ Gl (hr.mono (by decide)) xf (AD (BM ["a","b"] [("nears",1)] ps AF (fun p=>BD (Hw (Aq n ps) p.1 p.2)) rfl (BV (AA KI) ["web","nears"] (by decide+kernel)) (DA (AR (ev 0) AC)) (by omega) fun p hp=> ⟨[some (.int p.1),some (.int p.2),some (Bu (Aq n ps))],fun X' Oe He is O'=>?_⟩) AB) ⟨ps.map fun p=>Hw (Aq n ps) p.1 p.2,by rw[kv];rfl,by rw[e7];omega,rfl⟩) q))
  obtain⟨cl,s',H',fp,rfl⟩:=is
  have hb:=wn.hw p hp
  exact⟨Bb 0 1 rfl dm (by decide) (by decide),AJ Gr hr By (AD (ev 2) (AD (ev 0) (AD (ev 1) AB))) ⟨n,Aq n ps,p.1,p.2,rfl,Gj wn,Th wn,by omega,by omega,rfl⟩⟩
noncomputable def cF(fs:List (Option Nat))(k:Nat)(v:Int):Bool:=decide (fs.getD v.toNat none=some k)
noncomputable def KY(c:Int→Bool)(r xs:List Int):List (List Int):=(xs.filter fun v=>c v&&!decide (v∈r)).map fun v=>r++[v]
theorem Fn{c:Int→Bool}{r xs:List Int}{v:Int}:KY c r (xs++[v])=KY c r xs++(if(c v&&!decide (v∈r))=true then[r++[v]] else[]):=by
 unfold KY
 rw[pf,jX]
 congr 1
 by_cases h:(c v&&!decide (v∈r))=true
 ·rw[if_pos h,m7,if_pos h];rfl
 ·rw[if_neg h,m7,if_neg h];rfl
theorem UA{c:Int→Bool}{r xs:List Int}{i:Nat}:(KY c r (xs.take i)).length≤(KY c r xs).length:=by
 unfold KY
 rw[e7,e7]
 exact((nH i xs).filter _).length_le
theorem MR{nb:Int→List Int}{c:Int→Bool}{rs:List (List Int)}{r:List Int}:IT nb c (rs++[r])=IT nb c rs++KY c r (nb (lst r)):=by
 unfold IT
 rw[oP]
 simp only[qO,List.flatMap_nil,mj]
 rfl
theorem Wm{nb:Int→List Int}{c:Int→Bool}{rs:List (List Int)}{j:Nat}{r:List Int}(h:rs[j]?=some r)(i:Nat):(IT nb c (rs.take j)).length+(KY c r ((nb (lst r)).take i)).length≤(IT nb c rs).length:=by
 have e:rs=rs.take j++[r]++rs.drop (j+1):=by
  obtain⟨hj,rfl⟩:=jc.mp h
  rw[k4,List.singleton_append,pQ,kU]
 have h1:(IT nb c rs).length=(IT nb c (rs.take j++[r])).length+(IT nb c (rs.drop (j+1))).length:=by
  conv=>lhs;rw[e]
  unfold IT
  rw[oP,jf]
 rw[h1,MR,jf]
 have:=UA (c:=c) (r:=r) (xs:=nb (lst r)) (i:=i)
 omega
noncomputable def Xr:Bp:=EX fun ts t=>∃(n:Int) (ps:List (Int×Int)) (fs:List (Option Nat)) (rs:List (List Int)) (k:Nat),ts=[Bu (Aq n ps),.lst (fs.map BD),.lst (rs.map AW),.int (k:Int)]∧WebN n ps∧(fs.length:Int)=n∧(∀r∈rs,r≠[]∧r.length≤900∧∀z∈r,0≤z∧z<n)∧(IT (Ag ps) (cF fs k) rs).length≤8000000∧t=.lst ((IT (Ag ps) (cF fs k) rs).map AW)
noncomputable def hV:List Str:=["nears","fars","rows","far","longer","row","near"]
theorem PH:FnScope hV ["nears","fars","rows","far"] (AA WM):=⟨rfl,rfl,rfl,by decide+kernel,rfl,by decide+kernel,by decide+kernel⟩
theorem Ck:(9000000:Nat)<sizeLine:=by decide
theorem Wn{r:List Int}(h:r≠[]):atI (r.map T.int) (-1)=some (.int (lst r)):=by
 obtain⟨M,e⟩:=l7.mp (Dg h)
 generalize lst r=v at*
 subst e
 rw[jX]
 exact LD _ _
theorem Wo{r:List Int}(h:r≠[]):lst r∈r:=lJ (Dg h)
theorem aJ{f:Addr}{fd:jv}(F:Fun K "rows_longer" "rows_longer" WM f fd):FnOk P w K mg base (CXe P w) 1 f fd ["nears","fars","rows","far"] (CC K Xr):=by
 refine AS F PH ?_ ?_
 ·rintro ts O Φ Ξ ⟨r,⟨n,ps,fs,rs,k,rfl,_⟩,_⟩
  rfl
 ·rintro cdv A outer s H E O Ξ hr xf _ Φ ⟨_,⟨n,ps,fs,rs,k,rfl,wn,hf,hrs,hz,rfl⟩,q⟩
  have sb:=Ck
  have hu:(A.deeper (m9 "rows_longer" (AA WM) s.heap.objs.size f cdv)).units+102<cLine:=by have:=hr.un;omega
  refine AE (AN 4 (Cy (BL ⟨kN _,fun l hl=>?_⟩)) PH.nd)
  refine AE (Bc Ao.own rfl (EI.wi (Am (ev 2)) ⟨fun j ρ' O'=>∃v5 v6:Option T,ρ'=[some (Bu (Aq n ps)),some (.lst (fs.map BD)),some (.lst (rs.map AW)),some (.int (k:Int)),some (.raw (.ref l)),v5,v6]∧O'=Ap O l ((IT (Ag ps) (cF fs k) (rs.take j)).map AW),⟨none,none,rfl,rfl⟩,?_,?_⟩))
  ·rintro j t _ _ e ⟨v5,v6,rfl,rfl⟩
   rw[e9] at e
   cases er:rs[j]? with
   |none=>rw[er] at e;cases e
   |some r=>
    rw[er] at e
    cases e
    obtain⟨h1,h2,h3⟩:=hrs r (i9 er)
    have hll:=h3 _ (Wo h1)
    obtain⟨u,hu'⟩:=j7 hll.1
    have hrow:(Aq n ps).getD u []=Ag ps (lst r):=by
     rw[Hx (by omega),JK wn.hw,←hu']
    have hlen:u< (Aq n ps).length:=by have:=(Gj wn).len;omega
    refine⟨[some (Bu (Aq n ps)),some (.lst (fs.map BD)),some (.lst (rs.map AW)),some (.int (k:Int)),some (.raw (.ref l)),some (AW r),v6],AV 5 PH.nd (by show 5<7;decide),?_⟩
    refine AG (Bc Ao.own rfl (EI.wi (Am (ts:=(Ag ps (lst r)).map T.int) (ET.cast (CJ (ev 0) (ET.cast (AR (ts:=r.map T.int) (ev 5) (NS AC) (Wn h1)) (by rw[hu'])) (KR hlen)) (by rw[hrow]))) ⟨fun i ρ' O'=>∃v6:Option T,ρ'=[some (Bu (Aq n ps)),some (.lst (fs.map BD)),some (.lst (rs.map AW)),some (.int (k:Int)),some (.raw (.ref l)),some (AW r),v6]∧O'=Ap O l ((IT (Ag ps) (cF fs k) (rs.take j)++KY (cF fs k) r ((Ag ps (lst r)).take i)).map AW),⟨v6,rfl,by rw[pL];show _=Ap O l ((_++[]).map _);rw[mj]⟩,?_,?_⟩))
    ·rintro i t _ _ e ⟨v6,rfl,rfl⟩
     rw[e9] at e
     cases ei:(Ag ps (lst r))[i]? with
     |none=>rw[ei] at e;cases e
     |some v=>
      rw[ei] at e
      cases e
      have hv:=MO wn.hw _ _ (Dt.mp (i9 ei))
      obtain⟨y,rfl⟩:=j7 hv.1
      have hy:y<fs.length:=by omega
      refine⟨[some (Bu (Aq n ps)),some (.lst (fs.map BD)),some (.lst (rs.map AW)),some (.int (k:Int)),some (.raw (.ref l)),some (AW r),some (.int y)],AV 6 PH.nd (by show 6<7;decide),?_⟩
      have hfa:atI (fs.map BD) (y:Int)=some (BD (fs.getD y none)):=BP (by rw[e9,i8 hy];simp[m6,hy])
      have step:(Ag ps (lst r)).take (i+1)=(Ag ps (lst r)).take i++[(y:Int)]:=by rw[kO,ei];rfl
      refine AG (Ad (k:=cF fs k (y:Int)&&!decide ((y:Int)∈r)) (EW.eb (FZ (EB.cast (Af (EM (Nat.lt_of_succ_lt hu)) (Ac _) (EN (u:=.int (k:Int)) aB (by rw[Be]) Qh) (CJ (ev 1) (ev 6) hfa) (ev 3)) We) fun _=>Dp (EB.cast (Af (Jx hu) rfl (Jy (t:=.int (y:Int)) (us:=r.map T.int) (by rw[Be]) Lz (by show 0≤100;decide)) (ev 6) (ev 5)) (by rw[Cj])))) (fun h=>?_) (fun h=>AZ ?_))
      ·have hb:=Wm (nb:=Ag ps) (c:=cF fs k) er (i+1)
       rw[step,Fn,if_pos h,jf] at hb
       refine AG (BC (Cg (ET.we (ev 4) ⟨l,rfl,⟨_,AH⟩,ET.we (Vm (ts:=r.map T.int) (us:=[.int (y:Int)]) (ev 5) (Ba (AD (ev 6) AB)) (by simp only[e7,jm,lB];omega)) ⟨_,AH,by rw[e7,jf];simp only[jm,lB] at hb;omega,⟨_,rfl,?_⟩⟩⟩)))
       rw[BS,step,Fn,if_pos h]
       congr 1
       simp only[jX,k4]
       congr 2
       simp[AW]
      ·refine⟨_,rfl,?_⟩
       rw[step,Fn,if_neg (by rw[h];decide),mj]
    ·rintro _ _ ⟨v6,rfl,rfl⟩
     refine⟨_,_,rfl,?_⟩
     rw[e7,kI,←MR,kO,er]
     rfl
  ·rintro _ _ ⟨v5,v6,rfl,rfl⟩
   rw[e7,kI]
   refine Bq (p:=l) (n:=4) (ts:=(IT (Ag ps) (cF fs k) rs).map AW) AH hl rfl ?_
   rw[BG hl]
   exact AG (AK (ET.we (ev 4) q))
end
structure WebR(n:Int)(ps:List (Int×Int)):Prop where
 wn:WebN n ps
 hp:ps.Pairwise CQ
 n0:1≤n
 n1:n≤20
theorem Qm{nb:Int→List Int}{c c':Int→Bool}{rs:List (List Int)}(h:∀u,∀v∈nb u,c v=c' v):IT nb c rs=IT nb c' rs:=by
 unfold IT
 congr 1
 funext r
 unfold Zh
 congr 1
 refine List.filter_congr fun v hv=>?_
 rw[h _ v hv]
theorem aK{n:Int}{ps:List (Int×Int)}(hw:Gr.JD n ps):Rw (Aq n ps)=Gr.Adj ps:=funext fun u=>funext fun v=>propext (Gh hw)
theorem aL{n:Int}{ps:List (Int×Int)}(hw:Gr.JD n ps){c:Nat→Int→Bool}{p:Int}(hp:0≤p∧p<n){k:Nat}{r:List Int}(h:r∈Kv (Ag ps) c p k):r≠[]∧r.length=k+1∧∀z∈r,0≤z∧z<n:=by
 have w1:=((Ew OA).mp h).len
 exact⟨(fun z=>by rw[z] at w1;cases w1),w1,Ss OA (MO hw) hp h⟩
section
variable{P:Program}{w:World}{K:b9}{mg:Str→Option Value}{base:Heap}
noncomputable def Xs:Bp:=EX fun ts t=>∃(n:Int) (ps:List (Int×Int)) (p:Int) (s:Nat),ts=[Bu (Aq n ps),.int p,.int (s:Int)]∧WebN n ps∧(0≤p∧p<n)∧(1≤s∧s≤800)∧(∀k,k<s→(Kv (Ag ps) (KC (Gr.Adj ps) s p) p k).length≤8000000)∧t=.lst ((Lx (Gr.Adj ps) (Ag ps) s p).map AW)
noncomputable def hZ:List Str:=["nears","start","size","fars","rows","steps"]
theorem MS:FnScope hZ ["nears","start","size"] (AA Zo):=⟨rfl,rfl,rfl,by decide+kernel,rfl,by decide+kernel,by decide+kernel⟩
theorem aM{f:Addr}{fd:jv}(F:Fun K "shortest_rings_from" "shortest_rings_from" Zo f fd)(Tx:Txt mg)(Gf:FnT P w K mg base "fars_from" 1 ["nears","starts"] KS)(G:FnT P w K mg base "rows_longer" 1 ["nears","fars","rows","far"] Xr):FnOk P w K mg base (CXe P w) 2 f fd ["nears","start","size"] (CC K Xs):=by
 refine AS F MS ?_ ?_
 ·rintro ts O Φ Ξ ⟨r,⟨n,ps,p,s,rfl,_⟩,_⟩
  rfl
 ·rintro cdv A outer s0 H E O Ξ hr xf _ Φ ⟨_,⟨n,ps,p,s,rfl,wn,hp,hs,hz,rfl⟩,q⟩
  have sb:=Ck
  refine AE (AN 3 (Al Gf (hr.mono (by decide)) xf (EA.wa (AD (ev 0) (AD (Au (AD (ev 1) AB) (by show 1≤sizeLine;decide)) AB)) ⟨n,Aq n ps,[p],rfl,Gj wn,fun z hz=>by rw[jd.mp hz];exact hp,fun fs al=>?_⟩)) MS.nd)
  rw[aK wn.hw] at al
  have hl:=al.len
  have hcc:∀(i:Nat) (u:Int),∀v∈Ag ps u,cF fs (min i (s-i)) v=KC (Gr.Adj ps) s p i v:=fun i u v hv=>by
   have hb:=MO wn.hw _ _ (Dt.mp hv)
   have:=al.get hb.1 hb.2
   unfold cF KC
   rw[kb,this];rfl
  refine AE (AN 4 (ET.we (t:=.lst ([[p]].map AW)) (Au (AD (Ba (AD (ev 1) AB)) AB) (by show 1≤sizeLine;decide)) ?_) MS.nd)
  refine AE (Bc Ao.own rfl (EI.wi (Fc Tx.nRange AC (ev 2) (by omega)) ⟨fun j ρ' O'=>∃v5:Option T,O'=O∧ρ'=[some (Bu (Aq n ps)),some (.int p),some (.int (s:Int)),some (.lst (fs.map BD)),some (.lst ((Kv (Ag ps) (KC (Gr.Adj ps) s p) p j).map AW)),v5],⟨none,rfl,rfl⟩,?_,?_⟩))
  ·rintro j t _ _ e ⟨v5,rfl,rfl⟩
   obtain⟨hj,rfl⟩:=DX e
   have hj2:j+1<s:=by omega
   refine⟨[some (Bu (Aq n ps)),some (.int p),some (.int (s:Int)),some (.lst (fs.map BD)),some (.lst ((Kv (Ag ps) (KC (Gr.Adj ps) s p) p j).map AW)),some (.int (1+(j:Int)))],AV 5 MS.nd (by show 5<6;decide),?_⟩
   have e1:IT (Ag ps) (cF fs (min (j+1) (s- (j+1)))) (Kv (Ag ps) (KC (Gr.Adj ps) s p) p j)=Kv (Ag ps) (KC (Gr.Adj ps) s p) p (j+1):=Qm (hcc (j+1))
   refine AG (AN 4 (ET.we (AJ G (hr.mono (by decide)) xf (AD (ev 0) (AD (ev 3) (AD (ev 4) (AD (ET.cast (GP Tx.nMin rfl (ev 5) (Cz (ev 2) (ev 5))) (show T.int _=T.int (((min (j+1) (s- (j+1)):Nat)):Int) by congr 1;omega)) AB)))) ⟨n,ps,fs,_,min (j+1) (s- (j+1)),rfl,wn,hl,fun r hr=>?_,?_,rfl⟩) ?_) MS.nd)
   ·rw[e1]
    exact⟨_,rfl,rfl⟩
   ·obtain⟨h1,h2,h3⟩:=aL wn.hw hp hr
    exact⟨h1,by omega,h3⟩
   ·rw[e1];exact hz _ hj2
  ·rintro _ _ ⟨v5,rfl,rfl⟩
   rw[BX]
   have e:((s:Int)-1).toNat=s-1:=by omega
   rw[e]
   exact AG (AK (ET.we (ev 4) q))
noncomputable def Hz(n:Int)(ps:List (Int×Int))(m:Int):List (List Int):=dN (Gr.Adj ps) (Ag ps) m.toNat n.toNat
theorem KZ{n:Int}{ps:List (Int×Int)}(wr:WebR n ps){s:Nat}(least:∀M,Ring (Gr.Adj ps) M→s≤M.length){p:Int}(hp:0≤p∧p<n):∀k,k<s→(Kv (Ag ps) (KC (Gr.Adj ps) s p) p k).length≤8000:=fun k hk=>Wl wr.wn.hw wr.hp wr.n1 hp least hk
theorem UB{x:Option Int}:JB (Sv x)=x.isNone:=by cases x<;>rfl
theorem UC{x:Option Int}:DZ (Sv x)=false:=by cases x<;>rfl
theorem Fz{ns:List Int}:∀k,tu (fun i=>ns.getD i 0) k=(ns.take k).sum
 |0=>rfl
 |k+1=>by
  show tu (fun i=>ns.getD i 0) k+ns.getD k 0=_
  rw[Fz k,kO,List.sum_append]
  congr 1
  rw[kb]
  cases ns[k]? with
  |none=>rfl
  |some x=>simp
theorem UD{ns:List Int}:Tw ns=ns.sum:=by unfold Tw;rw[Fz,kI]
theorem MU:∀{xs:List Nat},(xs.map fun(x:Nat)=> (x:Int)).sum=((xs.sum:Nat):Int)
 | []=>rfl
 |x::xs=>by rw[jr,List.sum_cons,List.sum_cons,MU];omega
noncomputable def IA(n:Int)(ps:List (Int×Int)):Int:=match Mj ps with
 |none=>0
 |some m=> ((Hz n ps m).length:Int)/ (2*m)
noncomputable def PJ:Bp:=EX fun ts t=>∃n ps,ts=[AI n ps]∧WebR n ps∧t=.int (IA n ps)
theorem Ka:FnScope ["web","size","nears"] ["web"] (AA KJ):=⟨rfl,rfl,rfl,by decide+kernel,rfl,by decide+kernel,by decide+kernel⟩
theorem dr:(Ak ["start"] [(("nears" :Str),2),(("size" :Str),1)]).Nodup:=by decide+kernel
theorem UE{f:Addr}{fd:jv}(F:Fun K "shortest_many" "shortest_many" KJ f fd)(Tx:Txt mg)(Gs:FnT P w K mg base "shortest" 3 ["web"] KW)(Gn:FnT P w K mg base "nears_of" 1 ["web"] FB)(G:FnT P w K mg base "shortest_rings_from" 2 ["nears","start","size"] Xs):FnOk P w K mg base (CXe P w) 4 f fd ["web"] (CC K PJ):=by
 refine AS F Ka ?_ ?_
 ·rintro ts O Φ Ξ ⟨r,⟨n,ps,rfl,_⟩,_⟩
  rfl
 ·rintro cdv A outer s0 H E O Ξ hr xf _ Φ ⟨_,⟨n,ps,rfl,wr,rfl⟩,q⟩
  have sb:=Ck
  have wn:=wr.wn
  have n0:=wr.n0
  have n1:=wr.n1
  refine AE (AN 1 (ET.we (AJ Gs (hr.mono (by decide)) xf (AD (ev 0) AB) ⟨n,ps,rfl,wn,rfl⟩) ?_) Ka.nd)
  refine AE (Ad (EB.cast (De UC (ev 1)) UB) (fun h=>?_) (fun h=>AZ ?_))
  ·have e:Mj ps=none:=Option.isNone_iff_eq_none.mp h
   refine AG (AK (ET.we AC ?_))
   unfold IA at q
   rw[e] at q
   exact q
  ·obtain⟨m,e⟩:∃m,Mj ps=some m:=by
    cases e:Mj ps with
    |none=>rw[e] at h;cases h
    |some m=>exact⟨m,rfl⟩
   obtain⟨s,rfl,h3,hsn,hle,_⟩:=Gp wn.hw e
   unfold IA at q
   rw[e] at q ⊢
   have q:Φ (.int (((Hz n ps (s:Int)).length:Int)/ (2*(s:Int)))) O:=q
   have es:Tw ((j6 n.toNat).map fun(i:Nat)=> (((Lx (Gr.Adj ps) (Ag ps) s (i:Int)).length:Nat):Int))=((Hz n ps (s:Int)).length:Int):=by
    rw[UD]
    show _=(((j6 n.toNat).flatMap fun(i:Nat)=>Lx (Gr.Adj ps) (Ag ps) s (i:Int)).length:Int)
    rw[List.length_flatMap,←MU,kv]
    rfl
   refine AE (AN 2 (ET.we (ET.cast (AJ Gn (hr.mono (by decide)) xf (AD (ev 0) AB) ⟨n,ps,rfl,wn.n0,wn.n1,wn.hw,wn.hl,rfl⟩) JI) ?_) Ka.nd)
   rw[←es] at q
   refine AG (AK (ET.we (En (aI (ns:=(j6 n.toNat).map fun(i:Nat)=> (((Lx (Gr.Adj ps) (Ag ps) s (i:Int)).length:Nat):Int)) ?_ (by rw[e7,lG];omega) Tx.nSum rfl (ET.cast (BM ["start"] [("nears",2),("size",1)] (j6 n.toNat) (fun(i:Nat)=>T.int (0+(i:Int))) (fun(i:Nat)=>T.int (((Lx (Gr.Adj ps) (Ag ps) s (i:Int)).length:Nat):Int)) rfl (BV (AA KJ) ["web","size","nears"] (by decide+kernel)) (BF Tx.nRange (AR (t:=.int n) (ev 0) AC) (by omega)) (by rw[lG];omega) fun i hi=> ⟨[some (.int (0+(i:Int))),some (Bu (Aq n ps)),some (.int (s:Int))],fun X' Oe He is O'=>?_⟩) ?_)) (EL AC (ev 1) (.inl ⟨by decide,by decide⟩)) ⟨by omega,by omega⟩) q))
   ·intro x hx
    obtain⟨i,hi,rfl⟩:=jl.mp hx
    have hi:=ke.mp hi
    have:(Lx (Gr.Adj ps) (Ag ps) s (i:Int)).length≤8000:=KZ wr hle (p:=(i:Int)) (by omega) (s-1) (by omega)
    omega
   ·obtain⟨cl,s',H',fp,rfl⟩:=is
    have hi:=ke.mp hi
    rw[Int.zero_add]
    have hp:0≤(i:Int)∧(i:Int)<n:=by omega
    refine⟨AV 0 dr (by decide),ET.cast (GO Tx.nLen (AJ G (hr.mono (by decide)) By (AD (ev 1) (AD (ev 0) (AD (ev 2) AB))) ⟨n,ps,i,s,rfl,wn,hp,by omega,fun k hk=>kG (KZ wr hle hp k hk) (by decide),rfl⟩)) ?_⟩
    rw[e7]
   ·rw[kv];rfl
end
end K58
namespace StT
open PySem PySem.SetTable PyProof.Rows
section
variable{prog:Program}{w:World}{A:js}{E:Value→c9→Prop}{s:c9}
end
end StT
namespace L2
open PySem PySem.Spec PySem.Calls PyProof.Rows
variable{X:Cx}
theorem Qn{ns:List Int}:Up ns=ns.length↔ns.Nodup:=by
 have key:∀k,k≤ns.length→((firstMet (fun i=>ns.getD i 0) k).length=k↔(ns.take k).Nodup):=by
  intro k
  induction k with
  |zero=>intro _;simp[firstMet_zero]
  |succ k ih=>
   intro hk
   have ih:=ih (by omega)
   have hlt:k<ns.length:=by omega
   have hle:=firstMet_length_le (fun i=>ns.getD i 0) k
   have hg:ns.getD k 0=ns[k]:=by simp[m6,hlt]
   have ht:ns.take (k+1)=ns.take k++[ns[k]]:=by rw[kO,i8 hlt];rfl
   have hm:(j6 k).map (fun i=>ns.getD i 0)=ns.take k:=by
    apply lH
    intro i
    rw[e9,nj]
    by_cases hi:i<k
    ·rw[if_pos hi,nR hi,i8 (by omega)]
     simp[m6,show i<ns.length by omega]
    ·rw[if_neg hi,lA (by simp;omega)];rfl
   rw[firstMet_succ,step_length,firstMet_any,hm,hg,ht,kS]
   by_cases h:ns[k]∈ns.take k
   ·rw[if_pos (List.any_eq_true.mpr ⟨_,h,by simp⟩)]
    refine⟨fun e=>by omega,fun⟨_,_,c⟩=>absurd rfl (c _ h _ (by simp))⟩
   ·rw[if_neg (fun z=>by
     obtain⟨y,hy,e⟩:=List.any_eq_true.mp z
     exact h (by rw[←beq_iff_eq.mp e];exact hy))]
    refine⟨fun e=> ⟨ih.mp (by omega),by simp,fun x hx y hy e=>h (by rw[←jd.mp hy,←e];exact hx)⟩,fun c=>by have:=ih.mpr c.1;omega⟩
 have:=key ns.length (jb _)
 rwa[kI] at this
end L2
namespace L2.TL
open PySem PySem.Spec PyProof.Rows
section
variable{Z:Zx}{ρ:List (Option T)}{O:AM}{e:Expr}{p p1 pos pos1:Pos}
end
end L2.TL
namespace K58
open PySem L2 L2.TL PySem.Spec PyProof.Rows
noncomputable abbrev FJ:Stmt:=top 8
noncomputable abbrev aN:Stmt:=top 12
noncomputable abbrev MV:Stmt:=top 13
noncomputable abbrev PK:Stmt:=top 14
section
variable{P:Program}{w:World}{K:b9}{mg:Str→Option Value}{base:Heap}
theorem aO:FnScope ["many","thing"] ["many","thing"] (AA PK):=⟨rfl,rfl,rfl,by decide+kernel,rfl,by decide+kernel,by decide+kernel⟩
theorem aP:(Ak ["end"] [(("many" :Str),0)]).Nodup:=by decide+kernel
theorem UF:FnScope ["row"] ["row"] (AA FJ):=⟨rfl,rfl,rfl,by decide+kernel,rfl,by decide+kernel,by decide+kernel⟩
theorem dt:(Ak ["one","other"] []).Nodup:=by decide+kernel
theorem iA(ts:List T):Fd ts (some 1) none=ts.drop 1:=by
 unfold Fd
 have:HT.BO ts.length 0 (some 1)=min 1 ts.length:=rfl
 rw[this]
 show(ts.drop (min 1 ts.length)).take (ts.length-min 1 ts.length)=_
 cases ts with
 |nil=>rfl
 |cons t ts=>
  have:min 1 (t::ts).length=1:=by simp
  rw[this]
  simp
theorem OB(ps qs:List (Int×Int)):Er (ps.map AF) (qs.map AF)=(ps.zip qs).map fun z=> .tup [AF z.1,AF z.2]:=by
 unfold Er
 rw[List.zipWith_map,List.zip,List.map_zipWith]
theorem aQ(p q:Int×Int):HT.Bo [p.1,p.2] [q.1,q.2]=true↔CQ p q:=by
 show(if p.1=q.1 then(if p.2=q.2 then false else decide (p.2<q.2)) else decide (p.1<q.1))=true↔_
 unfold CQ
 split
 ·split
  ·simp;omega
  ·simp;omega
 ·simp;omega
theorem aR:FnScope ["many","thing"] ["many","thing"] (AA MV):=⟨rfl,rfl,rfl,by decide+kernel,rfl,by decide+kernel,by decide+kernel⟩
theorem Wp:(Ak ["tie"] [(("many" :Str),0)]).Nodup:=by decide+kernel
theorem du:(Ak ["a","b"] []).Nodup:=by decide+kernel
theorem dv:FnScope ["thing"] ["thing"] (AA aN):=⟨rfl,rfl,rfl,by decide+kernel,rfl,by decide+kernel,by decide+kernel⟩
end
end K58
namespace L2
open PySem PySem.Spec PyProof.Rows
section
variable{X:Cx}{e:Expr}{te:TE}{p2 p3 p4 pos:Pos}
end
end L2
namespace L2.TL
open PySem PySem.Spec PyProof.Rows
section
variable{Z:Zx}{ρ:List (Option T)}{O:AM}{e:Expr}{ts:List T}{p2 p3 p4 pos:Pos}
end
end L2.TL
namespace K58
open PySem L2 L2.TL PySem.Spec PyProof.Rows
variable{n:Int}{ps:List (Int×Int)}
theorem OC{i a b:Int}(h0:a≤i)(h1:i≤b):fj (.int i) a b=true:=by
 show(decide (a≤i)&&decide (i≤b))=true
 rw[decide_eq_true h0,decide_eq_true h1]
 rfl
theorem UG{α:Type}{xs:List α}:((xs.map fun _=>true).all id)=true:=by
 rw[lP]
 intro x hx
 obtain⟨_,_,rfl⟩:=jl.mp hx
 rfl
theorem UH{α:Type}{xs:List α}:T.lst (xs.map fun _=>T.bl true)=T.lst ((xs.map fun _=>true).map T.bl):=by rw[kv];rfl
section
variable{P:Program}{w:World}{K:b9}{mg:Str→Option Value}{base:Heap}
noncomputable def aS:Bp:=EX fun ts r=>∃(n:Int) (u:T) (i:Int),ts=[.tup [.int n,u],.int i]∧0≤i∧i<n∧r=.non
theorem dw{f:Addr}{fd:jv}(F:Fun K "need_place" "need_place" Sw f fd)(G:FnT P w K mg base "is_place" 2 ["web","thing"] Oy):FnOk P w K mg base (CXe P w) 3 f fd ["web","thing"] (CC K aS):=by
 refine AS F Zu ?_ ?_
 ·rintro ts O Φ Ξ ⟨r,⟨n,u,i,rfl,_⟩,_⟩
  rfl
 ·rintro cdv A outer s H E O Ξ hr xf _ Φ ⟨_,⟨n,u,i,rfl,i0,i1,rfl⟩,q⟩
  exact AG (Ad (k:=false) (EB.cast (BH (k:=true) (EB.cast (Bg (AJ G hr xf (AD (ev 0) (AD (ev 1) AB)) ⟨n,u,_,rfl,rfl,rfl⟩)) (OC i0 (by omega)))) rfl) (fun h=>by cases h) fun _=>AZ q)
noncomputable def aT:Bp:=EX fun ts r=>∃(n:Int) (ps:List (Int×Int)) (i:Nat),ts=[AI n ps,.int (i:Int)]∧WebN n ps∧(i:Int)<n∧r=.tup ((Ae ps i).map T.int)
theorem dy{f:Addr}{fd:jv}(F:Fun K "near_of" "near_of" TU f fd)(Tx:Txt mg)(Gn:FnT P w K mg base "need_place" 3 ["web","thing"] aS)(G:FnT P w K mg base "nears_of" 1 ["web"] FB):FnOk P w K mg base (CXe P w) 4 f fd ["web","place"] (CC K aT):=by
 refine AS F Zz ?_ ?_
 ·rintro ts O Φ Ξ ⟨r,⟨n,ps,i,rfl,_⟩,_⟩
  rfl
 ·rintro cdv A outer s H E O Ξ hr xf _ Φ ⟨_,⟨n,ps,i,rfl,wn,hi,rfl⟩,q⟩
  refine AE (BC (ET.we (AJ Gn hr xf (AD (ev 0) (AD (ev 1) AB)) ⟨n,_,i,rfl,by omega,hi,rfl⟩) ?_))
  exact AG (AK (ET.we (Lm Tx.nTuple (CJ (AJ G (hr.mono (by decide)) xf (AD (ev 0) AB) ⟨n,ps,rfl,wn.n0,wn.n1,wn.hw,wn.hl,rfl⟩) (ev 1) (TX hi))) q))
noncomputable def dz:Bp:=EX fun ts r=>∃(n:Int) (p:Int×Int),ts=[.int n,AF p]∧0≤p.1∧p.1<n∧0≤p.2∧p.2<n∧p.1≠p.2∧r=.bl true
theorem eB{f:Addr}{fd:jv}(F:Fun K "is_pair" "is_pair" PK f fd)(Tx:Txt mg)(G:FnT P w K mg base "is_whole" 1 ["thing","least","most"] GY):FnOk P w K mg base (CXe P w) 2 f fd ["many","thing"] (CC K dz):=by
 refine AS F aO ?_ ?_
 ·rintro ts O Φ Ξ ⟨r,⟨n,p,rfl,_⟩,_⟩
  rfl
 ·rintro cdv A outer s H E O Ξ hr xf _ Φ ⟨_,⟨n,p,rfl,a0,a1,b0,b1,ne,rfl⟩,q⟩
  refine AE (Ad (k:=false) (EW.eb (Bh (x:=false) (y:=false) (BH (Hf (t:=AF p) Tx.nIsi Tx.nTuple Jt Js (ev 1) rfl)) fun _=>Bm (DV (Ep (ts:=[.int p.1,.int p.2]) Tx.nLen (ev 1)) AC))) (fun h=>by cases h) (fun _=>AZ ?_))
  refine AG (AK (ET.we (ET.cast (Jq (x:=true) (y:=true) (ET.cast (Ju (bs:=[p.1,p.2].map fun _=>true) Tx.nAll rfl (BM ["end"] [("many",0)] [p.1,p.2] T.int (fun _=> .bl true) rfl (BV (AA PK) ["many","thing"] (by decide+kernel)) (DA (ev 1)) (by show 2≤sizeLine;decide) fun x hx=> ⟨[some (.int x),some (.int n)],fun X' Oe He is O'=>?_⟩)) rfl) fun _=>Jp (ET.cast (SS (i:=p.1) (j:=p.2) (AR (ts:=[.int p.1,.int p.2]) (ev 1) AC) (AR (ts:=[.int p.1,.int p.2]) (ev 1) AC)) (by rw[decide_eq_false ne];rfl))) rfl) q))
  obtain⟨cl,s',H',fp,rfl⟩:=is
  refine⟨AV 0 aP (by decide),ET.cast (AJ G hr By (AD (ev 0) (AD AC (AD (Cz (ev 1) AC) AB))) ⟨_,0,n-1,rfl,rfl,rfl⟩) ?_⟩
  simp only[i6,jk,or_false] at hx
  rw[OC (by rcases hx with rfl|rfl<;>omega) (by rcases hx with rfl|rfl<;>omega)]
noncomputable def eC:Bp:=EX fun ts r=>∃ps:List (Int×Int),ts=[.tup (ps.map AF)]∧ps.length≤1000∧ps.Pairwise CQ∧r=.bl true
theorem UI:∀{ps:List (Int×Int)},ps.Pairwise CQ→∀z∈ps.zip (ps.drop 1),CQ z.1 z.2
 | [],_,z,hz=>by cases hz
 | [_],_,z,hz=>by cases hz
 |p::q::L,h,z,hz=>by
  have h':=ni.mp h
  rcases i6.mp (show z∈(p,q)::((q::L).zip L) from hz) with rfl|hz
  ·exact h'.1 q (by simp)
  ·exact UI h'.2 z hz
theorem eD{f:Addr}{fd:jv}(F:Fun K "is_rising" "is_rising" FJ f fd)(Tx:Txt mg):FnOk P w K mg base (CXe P w) 1 f fd ["row"] (CC K eC):=by
 refine AS F UF ?_ ?_
 ·rintro ts O Φ Ξ ⟨r,⟨t,rfl,_⟩,_⟩
  rfl
 ·rintro cdv A outer s H E O Ξ hr xf _ Φ ⟨_,⟨ps,rfl,hl,pw,rfl⟩,q⟩
  have sb:=AX
  have hu:(A.deeper (m9 "is_rising" (AA FJ) s.heap.objs.size f cdv)).units<cLine:=by have:=hr.un;omega
  refine AG (AK (ET.we (ET.cast (Ju Tx.nAll rfl (ET.cast (BM ["one","other"] [] (ps.zip (ps.drop 1)) (fun z=> .tup [AF z.1,AF z.2]) (fun _=> .bl true) rfl (BV (AA FJ) ["row"] (by decide+kernel)) ?_ (by simp;omega) fun x hx=> ⟨[some (AF x.1),some (AF x.2)],fun X' Oe He is O'=>?_⟩) UH)) (by rw[UG])) q))
  ·rw[←OB,List.map_drop,←iA]
   exact Zc Tx.nZip (ev 0) (ZY (ev 0) AC)
  ·obtain⟨cl,s',H',fp,rfl⟩:=is
   exact⟨Bb 0 1 rfl dt (by decide) (by decide),ET.cast (Zb (ns:=[x.1.1,x.1.2]) (ms:=[x.2.1,x.2.2]) hu (ev 0) (ev 1)) (by rw[(aQ x.1 x.2).mpr (UI pw x hx)])⟩
noncomputable def eE:Bp:=EX fun ts r=>∃(n:Int) (ps:List (Int×Int)),ts=[.int n,.tup (ps.map AF)]∧ps.length≤1000∧(∀p∈ps,AU n p)∧ps.Pairwise CQ∧r=.bl true
theorem eF{f:Addr}{fd:jv}(F:Fun K "ties_good" "ties_good" MV f fd)(Tx:Txt mg)(G:FnT P w K mg base "is_pair" 2 ["many","thing"] dz)(G2:FnT P w K mg base "is_rising" 2 ["row"] eC):FnOk P w K mg base (CXe P w) 3 f fd ["many","thing"] (CC K eE):=by
 refine AS F aR ?_ ?_
 ·rintro ts O Φ Ξ ⟨r,⟨n,ps,rfl,_⟩,_⟩
  rfl
 ·rintro cdv A outer s H E O Ξ hr xf _ Φ ⟨_,⟨n,ps,rfl,hl,hP,pw,rfl⟩,q⟩
  have sb:=AX
  refine AE (Ad (k:=false) (EW.eb (EW.cast (Bh (x:=false) (y:=false) (BH (Hf (t:=.tup (ps.map AF)) Tx.nIsi Tx.nTuple Jt Js (ev 1) rfl)) fun _=>Bm (EB.cast (BH (k:=true) (EB.cast (Bg (Ju Tx.nAll rfl (ET.cast (BM ["tie"] [("many",0)] ps AF (fun _=> .bl true) rfl (BV (AA MV) ["many","thing"] (by decide+kernel)) (DA (ev 1)) (by omega) fun x hx=> ⟨[some (AF x),some (.int n)],fun X' Oe He is O'=>?_⟩) UH))) UG)) rfl)) rfl)) (fun h=>by cases h) (fun _=>AZ ?_))
  ·obtain⟨cl,s',H',fp,rfl⟩:=is
   have:=hP x hx
   unfold AU at this
   exact⟨AV 0 Wp (by decide),AJ G hr By (AD (ev 1) (AD (ev 0) AB)) ⟨n,x,rfl,by omega,by omega,by omega,by omega,by omega,rfl⟩⟩
  ·refine AG (AK (ET.we (ET.cast (Jq (x:=true) (y:=true) (ET.cast (Ju Tx.nAll rfl (ET.cast (BM ["a","b"] [] ps AF (fun _=> .bl true) rfl (BV (AA MV) ["many","thing"] (by decide+kernel)) (DA (ev 1)) (by omega) fun x hx=> ⟨[some (.int x.1),some (.int x.2)],fun X' Oe He is O'=>?_⟩) UH)) (by rw[UG])) fun _=>Jp (AJ G2 hr xf (AD (ev 1) AB) ⟨ps,rfl,hl,pw,rfl⟩)) rfl) q))
   obtain⟨cl,s',H',fp,rfl⟩:=is
   exact⟨Bb 0 1 rfl du (by decide) (by decide),ET.cast (cZ (ev 0) (ev 1)) (by rw[decide_eq_true (hP x hx).2.1])⟩
noncomputable def aU:Bp:=EX fun ts r=>∃(n:Int) (ps:List (Int×Int)),ts=[AI n ps]∧WebR n ps∧n≤16∧r=.bl true
theorem eG{f:Addr}{fd:jv}(F:Fun K "web_good" "web_good" aN f fd)(Tx:Txt mg)(G:FnT P w K mg base "is_whole" 3 ["thing","least","most"] GY)(G2:FnT P w K mg base "ties_good" 3 ["many","thing"] eE):FnOk P w K mg base (CXe P w) 4 f fd ["thing"] (CC K aU):=by
 refine AS F dv ?_ ?_
 ·rintro ts O Φ Ξ ⟨r,⟨n,ps,rfl,_⟩,_⟩
  rfl
 ·rintro cdv A outer s H E O Ξ hr xf _ Φ ⟨_,⟨n,ps,rfl,wr,n1,rfl⟩,q⟩
  have hl:=wr.wn.hl
  refine AE (Ad (k:=false) (EW.eb (Bh (x:=false) (y:=false) (BH (Hf (t:=AI n ps) Tx.nIsi Tx.nTuple Jt Js (ev 0) rfl)) fun _=>Bm (DV (Ep (ts:=[.int n,.tup (ps.map AF)]) Tx.nLen (ev 0)) AC))) (fun h=>by cases h) (fun _=>AZ ?_))
  exact AG (AK (ET.we (ET.cast (Jq (x:=true) (y:=true) (ET.cast (AJ G hr xf (AD (AR (ev 0) AC) (AD AC (AD (GL Tx.iMP) AB))) ⟨_,1,16,rfl,rfl,rfl⟩) (by rw[OC wr.n0 n1])) fun _=>Jp (AJ G2 hr xf (AD (AR (ev 0) AC) (AD (AR (ev 0) AC) AB)) ⟨n,ps,rfl,by omega,wr.wn.hw,wr.hp,rfl⟩)) rfl) q))
end
end K58
namespace L2.TL
open PySem PySem.Spec PyProof.Rows
end L2.TL
namespace K58
open PySem L2 L2.TL PySem.Spec PyProof.Rows Gr
section
variable{P:Program}{w:World}{K:b9}{mg:Str→Option Value}{base:Heap}{CP CL CG fi:Addr}
structure WebS(n:Int)(ps:List (Int×Int)):Prop where
 n0:1≤n
 n1:n≤16
 hp:∀p∈ps,AU n p
 pw:ps.Pairwise CQ
 hl:ps.length≤200
theorem WebS.a{n:Int}{ps:List (Int×Int)}(h:WebS n ps):WebA n ps:=⟨h.n0,h.n1,h.hp,h.hl⟩
theorem WebS.n{n:Int}{ps:List (Int×Int)}(h:WebS n ps):WebN n ps:=⟨by have:=h.n0;omega,by have:=h.n1;omega,h.hp,h.hl⟩
noncomputable def eH(ps:List (Int×Int))(a b c e:Int):Bool:=ES ps a b&&(ES ps c e&&!decide (mm (a,b)=mm (c,e)))
noncomputable def Xu(n a b c e:Int):List (Int×Int):=[(n,a),(n,b),(n+1,c),(n+1,e),(n,n+1)]
theorem UJ:FnScope ["web","a","b","c","e","x","y"] ["web","a","b","c","e"] (AA WL):=⟨rfl,rfl,rfl,by decide+kernel,rfl,by decide+kernel,by decide+kernel⟩
theorem MW{Z:Zx}{ρ:List (Option T)}{O:AM}{a b:Expr}{i j:Int}{k:Nat}{p1 p2 p3 p4:Pos}(G:FnT Z.X.prog Z.X.w Z.X.K Z.X.mg Z.X.base "ties_of" 1 ["pairs"] Dh)(hr:Room 1 Z.X.A)(xf:XFly Z.X Z.W)(ha:ET Z ρ O a (.int i))(hb:ET Z ρ O b (.int j))(hi:0≤i∧i<65536)(hj:0≤j∧j<65536)(s1:Av a=true:=by rfl)(s2:Av b=true:=by rfl)(hg:Gl Z.X "ties_of":=by rfl):
  ET Z ρ O (.Call (.Name "ties_of" p1) [.List [.Tuple [a,b] k p2] p3] [] p4) (.tup ([mm (i,j)].map AF)):=by
 refine Bx G hr xf (AD (Au (ts:=[(i,j)].map AF) (AD (An ha hb s1 s2) AB) (by show 1≤sizeLine;decide)) AB) (fun Φ p=> ⟨[(i,j)],rfl,by simp,fun q hq=>?_,fun qs pw hm hl=>?_⟩) hg
 ·rw[jd.mp hq];exact⟨hi,hj⟩
 ·have:qs=[mm (i,j)]:=GQ pw (mS _ _) hm
  rw[this]
  exact p
end
theorem Fo:∀{A B:List Int},mz (dTs (A.map T.int)) (dTs (B.map T.int))=decide (A=B)
 | [],[]=>by simp[dTs,mz]
 | [],_::_=>by simp[dTs,mz]
 |_::_,[]=>by simp[dTs,mz]
 |a::A,b::B=>by
  have ih:=Fo (A:=A) (B:=B)
  simp only[jr,dTs,mz,dT,ih]
  have e:kr (.int a) (.int b)=decide (a=b):=by
   unfold kr;rfl
  rw[e]
  by_cases h1:a=b<;>by_cases h2:A=B<;>simp[h1,h2]
theorem Qo{A B:List Int}:kr (dT (.tup (A.map T.int))) (dT (.tup (B.map T.int)))=decide (A=B):=by
 show kr (.tuple _) (.tuple _)=_
 rw[kr,Fo]
theorem Cm:∀{A:List Int},rdBs (A.map T.int)=true
 | []=>rfl
 |a::A=>by
  rw[jr]
  unfold rdBs
  rw[Cm (A:=A)]
  rfl
theorem PL{A:List Int}:Be (.tup (A.map T.int))=true:=by unfold Be;exact Cm
theorem Gq:∀{A:List Int},ko (dTs (A.map T.int))=0
 | []=>rfl
 |a::A=>by
  show max (dT (.int a)).depth (ko (dTs (A.map T.int)))=0
  rw[Gq (A:=A)]
  rfl
theorem Wq{A:List Int}:(dT (.tup (A.map T.int))).depth≤100:=by
 show ko (dTs (A.map T.int))+1≤100
 rw[Gq]
 omega
noncomputable def GA(x y z:Nat):Bool:=!decide (z=x)&&!decide (z=y)
noncomputable def FK(n x y:Nat):List Nat:=(j6 n).filter (GA x y)
noncomputable def PM(x y a:Nat):Nat:=((j6 a).filter (GA x y)).length
theorem UK{n x y:Nat}:(FK n x y).length=PM x y n:=rfl
theorem PN{n x y a:Nat}(h:a<n)(hp:GA x y a=true):(FK n x y)[PM x y a]?=some a:=by
 obtain⟨k,rfl⟩:∃k,n=a+(k+1):=⟨n-a-1,by omega⟩
 unfold FK PM
 rw[List.range_add,pf,jw (jb _),sX,List.range_succ_eq_map,jr,sZ,List.filter_cons_of_pos hp]
 rfl
theorem MX{n x y a:Nat}(h:a<n)(hp:GA x y a=true){m:Nat}{z:Nat}(hm:m<PM x y a)(e:(FK n x y)[m]?=some z):z≠a:=by
 rintro rfl
 have nd:(FK n x y).Nodup:=List.nodup_range.filter _
 have e2:=PN h hp
 obtain⟨h1,e1⟩:=jc.mp e
 obtain⟨h2,e3⟩:=jc.mp e2
 have:=(List.getElem_inj nd).mp (e1.trans e3.symm)
 omega
theorem Kb{x y:Nat}(h:x≠y):∀a:Nat,(PM x y a:Int)=(a:Int)- (if(x:Int)<a then 1 else 0)- (if(y:Int)<a then 1 else 0)
 |0=>by
  rw[if_neg (by omega),if_neg (by omega)]
  rfl
 |a+1=>by
  have ih:=Kb h a
  have e:PM x y (a+1)=PM x y a+(if GA x y a=true then 1 else 0):=by
   unfold PM
   rw[rN,pf,jf]
   by_cases hn:GA x y a=true
   ·rw[if_pos hn,List.filter_cons_of_pos hn];rfl
   ·rw[if_neg hn,List.filter_cons_of_neg hn];rfl
  rw[e]
  have hn:GA x y a=true↔a≠x∧a≠y:=by unfold GA;simp
  by_cases h1:a=x
  ·have:¬GA x y a=true:=by rw[hn];omega
   rw[if_neg this]
   subst h1
   split at ih<;>split at ih<;>split<;>split<;>omega
  ·by_cases h2:a=y
   ·have:¬GA x y a=true:=by rw[hn];omega
    rw[if_neg this]
    subst h2
    split at ih<;>split at ih<;>split<;>split<;>omega
   ·rw[if_pos (hn.mpr ⟨h1,h2⟩)]
    split at ih<;>split at ih<;>split<;>split<;>omega
theorem IB{n:Int}{ps:List (Int×Int)}(hp:∀p∈ps,AU n p)(pw:ps.Pairwise CQ){i:Nat}:(Ae ps i).Pairwise (· < ·):=by
 unfold Ae
 rw[pC]
 refine mh ?_ pw
 intro p q h1 h2 h u hu v hv
 have a:=hp p h1
 have b:=hp q h2
 unfold AU at a b
 unfold CQ at h
 by_cases c1:p.1=(i:Int)
 ·rw[if_pos c1] at hu
  by_cases c2:q.1=(i:Int)
  ·rw[if_pos c2] at hv;cases hu;cases hv;omega
  ·rw[if_neg c2] at hv
   by_cases c3:q.2=(i:Int)
   ·omega
   ·rw[if_neg c3] at hv;cases hv
 ·rw[if_neg c1] at hu
  by_cases c4:p.2=(i:Int)
  ·rw[if_pos c4] at hu
   by_cases c2:q.1=(i:Int)
   ·rw[if_pos c2] at hv;cases hu;cases hv;omega
   ·rw[if_neg c2] at hv
    by_cases c3:q.2=(i:Int)
    ·rw[if_pos c3] at hv;cases hu;cases hv;omega
    ·rw[if_neg c3] at hv;cases hv
  ·rw[if_neg c4] at hu;cases hu
theorem Wr{ms ns:List Int}(pm:ms.Perm ns)(s:ms.Pairwise (·≤·))(r:ns.Pairwise (· < ·)):ms=ns:=
 nC.eq_of_pairwise (fun a b _ _ x y=>by omega) s (r.imp fun h=>mZ h) pm
section
variable{P:Program}{w:World}{K:b9}{mg:Str→Option Value}{base:Heap}{CP CL:Addr}
noncomputable def Ai(ps:List (Int×Int))(x y:Nat):List Int:=(Ae ps x).filter fun z=>!decide (z=(y:Int))
noncomputable def UL:Bp:=fun ts O Φ _=>∃(n:Int) (ps:List (Int×Int)) (x y:Nat),ts=[AI n ps,.int x,.int y]∧WebN n ps∧(x:Int)<n∧Φ (.tup ((Ai ps x y).map T.int)) O
theorem eI:FnScope ["web","place","other"] ["web","place","other"] (AA GX):=⟨rfl,rfl,rfl,by decide+kernel,rfl,by decide+kernel,by decide+kernel⟩
theorem eJ:(Ak ["near"] [(("other" :Str),2)]).Nodup:=by decide+kernel
noncomputable def DO(l:List Int):Int×Int:=(l.getD 0 0,l.getD 1 0)
noncomputable def PP(ps:List (Int×Int))(x y:Nat):Bool:=ES ps x y&&(decide ((Ai ps x y).length=2)&&(decide ((Ai ps y x).length=2)&&(!decide (Ai ps x y=Ai ps y x)&&(!ES ps (DO (Ai ps x y)).1 (DO (Ai ps x y)).2&&!ES ps (DO (Ai ps y x)).1 (DO (Ai ps y x)).2))))
noncomputable def UM:Bp:=fun ts O Φ _=>∃(n:Int) (ps:List (Int×Int)) (x y:Nat),ts=[AI n ps,.int x,.int y]∧WebN n ps∧(x:Int)<n∧(y:Int)<n∧Φ (.bl (PP ps x y)) O
theorem UN:FnScope ["web","x","y","pairs"] ["web","x","y"] (AA JF):=⟨rfl,rfl,rfl,by decide+kernel,rfl,by decide+kernel,by decide+kernel⟩
theorem eK:(Ak ["pair"] []).Nodup:=by decide+kernel
theorem aV:(Ak ["a","b"] [(("web" :Str),0)]).Nodup:=by decide+kernel
theorem IC{l:List Int}(h:l.length=2):l=[(DO l).1,(DO l).2]:=by
 match l,h with
 | [a,b],_=>rfl
theorem Ws{f:Addr}{fd:jv}(F:Fun K "can_unsplice" "can_unsplice" JF f fd)(Tx:Txt mg)(G:FnT P w K mg base "others_near" 5 ["web","place","other"] UL)(Gt:FnT P w K mg base "are_tied" 1 ["web","a","b"] KN):FnOk P w K mg base (CXe P w) 6 f fd ["web","x","y"] (CC K UM):=by
 refine AS F UN ?_ ?_
 ·rintro ts O Φ Ξ ⟨n,ps,x,y,rfl,_⟩
  rfl
 ·rintro cdv A outer s H E O Ξ hr xf _ Φ ⟨n,ps,x,y,rfl,wn,hx,hy,q⟩
  have sb:=AX
  have hu:(A.deeper (m9 "can_unsplice" (AA JF) s.heap.objs.size f cdv)).units+101<cLine:=by have:=hr.un;omega
  refine AE (AN 3 (ET.we (Au (ts:=[Ai ps x y,Ai ps y x].map fun l=>T.tup (l.map T.int)) (AD (Bx G hr xf (AD (ev 0) (AD (ev 1) (AD (ev 2) AB))) fun Φ' p=> ⟨n,ps,x,y,rfl,wn,hx,p⟩) (AD (Bx G hr xf (AD (ev 0) (AD (ev 2) (AD (ev 1) AB))) fun Φ' p=> ⟨n,ps,y,x,rfl,wn,hy,p⟩) AB)) (by show 2≤sizeLine;decide)) ?_) UN.nd)
  have e1:([Ai ps x y,Ai ps y x].map fun l=>!decide ((l.length:Int)=2)).any id=!(decide ((Ai ps x y).length=2)&&decide ((Ai ps y x).length=2)):=by
   have c:∀l:List Int,decide ((l.length:Int)=2)=decide (l.length=2):=fun l=>decide_eq_decide.mpr (by omega)
   simp only[jr,mP,List.any_cons,List.any_nil,id,sH,c]
   cases decide ((Ai ps x y).length=2)<;>cases decide ((Ai ps y x).length=2)<;>rfl
  refine AE (Ad (EW.eb (Bh (BH (Bg (AJ Gt (hr.mono (by decide)) xf (AD (ev 0) (AD (ev 1) (AD (ev 2) AB))) ⟨n,ps,x,y,rfl,rfl⟩))) fun _=>Bh (EB.cast (Bg (Sf (bs:=[Ai ps x y,Ai ps y x].map fun l=>!decide ((l.length:Int)=2)) Tx.nAny rfl ?any)) e1) fun _=>Bm (EB.cast (Af (EM hu) (Ac _) (EN PL PL Wq) (CJ (t:=.tup ((Ai ps x y).map T.int)) (ev 3) AC) (CJ (t:=.tup ((Ai ps y x).map T.int)) (ev 3) AC)) Qo))) (fun h=>?_) (fun h=>AZ ?_))
  case any=>
   rw[kv]
   refine BM ["pair"] [] [Ai ps x y,Ai ps y x] (fun l=>T.tup (l.map T.int)) _ rfl (BV (AA JF) ["web","x","y","pairs"] (by decide+kernel)) (Am (ev 3)) (by show 2≤sizeLine;decide) fun l hl=> ⟨[some (.tup (l.map T.int))],fun X' Oe He is O'=>?_⟩
   obtain⟨cl,s',H',fp,rfl⟩:=is
   refine⟨AV 0 eK (by decide),ET.cast (SS (Ep Tx.nLen (ev 0)) AC) ?_⟩
   simp
  ·refine AG (AK (ET.we Iw ?_))
   have z:PP ps x y=false:=by
    unfold PP
    cases z1:ES ps x y<;>cases z2:decide ((Ai ps x y).length=2)<;>cases z3:decide ((Ai ps y x).length=2)<;>cases z4:decide (Ai ps x y=Ai ps y x)<;>simp[z1,z2,z3,z4] at h ⊢
   rw[z] at q
   exact q
  ·have z1:ES ps x y=true:=by
    cases z:ES ps x y with
    |true=>rfl
    |false=>rw[z] at h;simp at h
   have z2:(Ai ps x y).length=2:=by
    cases z:decide ((Ai ps x y).length=2) with
    |true=>simpa using z
    |false=>rw[z] at h;simp at h
   have z3:(Ai ps y x).length=2:=by
    cases z:decide ((Ai ps y x).length=2) with
    |true=>simpa using z
    |false=>rw[z] at h;simp at h
   have z4:Ai ps x y≠Ai ps y x:=by
    intro z
    rw[z] at h
    simp at h
   have w1:=IC z2
   have w2:=IC z3
   have qe:PP ps x y=!(([Ai ps x y,Ai ps y x].map fun l=>ES ps (DO l).1 (DO l).2).any id):=by
    unfold PP
    simp only[z1,z2,z3,z4,decide_true,qb,jr,mP,List.any_cons,List.any_nil,id,sH,decide_false,qH]
    cases ES ps (DO (Ai ps x y)).1 (DO (Ai ps x y)).2<;>cases ES ps (DO (Ai ps y x)).1 (DO (Ai ps y x)).2<;>rfl
   rw[qe] at q
   refine AG (AK (ET.we (NU (Sf (bs:=[Ai ps x y,Ai ps y x].map fun l=>ES ps (DO l).1 (DO l).2) Tx.nAny rfl ?_)) q))
   rw[kv]
   refine BM ["a","b"] [("web",0)] [Ai ps x y,Ai ps y x] (fun l=>T.tup (l.map T.int)) _ rfl (BV (AA JF) ["web","x","y","pairs"] (by decide+kernel)) (Am (ev 3)) (by show 2≤sizeLine;decide) fun l hl=> ⟨[some (.int (DO l).1),some (.int (DO l).2),some (AI n ps)],fun X' Oe He is O'=>?_⟩
   have l2:l.length=2:=by
    simp only[i6,jk,or_false] at hl
    rcases hl with rfl|rfl<;>assumption
   obtain⟨cl,s',H',fp,rfl⟩:=is
   rw[show l.map T.int=[T.int (DO l).1,T.int (DO l).2] from congrArg (List.map T.int) (IC l2)]
   exact⟨Bb 0 1 rfl aV (by decide) (by decide),AJ Gt (hr.mono (by decide)) By (AD (ev 2) (AD (ev 0) (AD (ev 1) AB))) ⟨n,ps,_,_,rfl,rfl⟩⟩
end
noncomputable def CS(n x y:Nat):List Int:=(FK n x y).map fun(z:Nat)=> (z:Int)
theorem Qp{n x y:Nat}{z:Int}(h0:0≤z)(h1:z<n):z∈CS n x y↔GA x y z.toNat=true:=by
 unfold CS FK
 rw[jl]
 constructor
 ·rintro⟨m,hm,rfl⟩
  exact(jo.mp hm).2
 ·intro h
  exact⟨z.toNat,jo.mpr ⟨ke.mpr (by omega),h⟩,by omega⟩
theorem MY{n x y:Nat}{z:Int}(h0:0≤z)(h1:z<n)(h:GA x y z.toNat=true):(CS n x y)[PM x y z.toNat]?=some z∧∀(m:Nat) (u:Int),m<PM x y z.toNat→(CS n x y)[m]?=some u→u≠z:=by
 have hz:z.toNat<n:=by omega
 unfold CS
 refine⟨by rw[e9,PN hz h];simp;omega,fun m u hm e=>?_⟩
 rw[e9] at e
 cases y':(FK n x y)[m]? with
 |none=>rw[y'] at e;cases e
 |some v=>
  rw[y'] at e
  cases e
  have:=MX hz h hm y'
  show((v:Nat):Int)≠z
  omega
noncomputable def kB(x y:Nat)(p:Int×Int):Bool:=GA x y p.1.toNat&&GA x y p.2.toNat
noncomputable def Bt(ps:List (Int×Int))(x y:Nat):List (Int×Int):=ps.filter (kB x y)++[DO (Ai ps x y),DO (Ai ps y x)]
noncomputable def Wt(x y:Nat)(p:Int×Int):Int×Int:=((PM x y p.1.toNat:Int),(PM x y p.2.toNat:Int))
theorem Kc{x y z:Nat}:GA x y z=true↔z≠x∧z≠y:=by unfold GA;simp
theorem Ke{n:Int}{ps:List (Int×Int)}(wn:WebN n ps){x y:Nat}{z:Int}(h:z∈Ai ps x y):0≤z∧z<n∧GA x y z.toNat=true:=by
 unfold Ai at h
 obtain⟨h1,h2⟩:=jo.mp h
 have a:=(Fl wn.hw).mp h1
 obtain⟨a0,a1,a2⟩:=a.inb wn.hw
 have h2:z≠(y:Int):=by simpa using h2
 exact⟨a0,a1,Kc.mpr ⟨by omega,by omega⟩⟩
theorem UO{x y z:Nat}:GA x y z=GA y x z:=by unfold GA;rw[Bool.and_comm]
theorem Gv{l:List Int}(h:l.length=2):(DO l).1∈l∧(DO l).2∈l:=by
 rw[IC h]
 simp[DO]
theorem JM{ps:List (Int×Int)}{x y:Nat}(h:PP ps x y=true):ES ps x y=true∧(Ai ps x y).length=2∧(Ai ps y x).length=2:=by
 unfold PP at h
 simp only[km] at h
 exact⟨h.1,by simpa using h.2.1,by simpa using h.2.2.1⟩
theorem aW{n:Int}{ps:List (Int×Int)}(hp:∀p∈ps,AU n p){x y:Nat}(h:ES ps x y=true):x≠y:=by
 unfold ES at h
 have h:mm ((x:Int),(y:Int))∈ps:=by simpa using h
 have:=hp _ h
 unfold AU mm at this
 simp only at this
 omega
theorem Qq{n:Int}{ps:List (Int×Int)}(ws:WebS n ps){x y:Nat}(h:PP ps x y=true):∀p∈Bt ps x y,(0≤p.1∧p.1<n∧GA x y p.1.toNat=true)∧0≤p.2∧p.2<n∧GA x y p.2.toNat=true:=by
 obtain⟨_,h2,h3⟩:=JM h
 intro p hp
 rcases ju.mp hp with hp|hp
 ·obtain⟨a,b⟩:=jo.mp hp
  unfold kB at b
  rw[km] at b
  have:=ws.hp p a
  unfold AU at this
  exact⟨⟨by omega,by omega,b.1⟩,by omega,by omega,b.2⟩
 ·simp only[i6,jk,or_false] at hp
  rcases hp with rfl|rfl
  ·exact⟨Ke ws.n (Gv h2).1,Ke ws.n (Gv h2).2⟩
  ·have a:=Ke ws.n (Gv h3).1
   have b:=Ke ws.n (Gv h3).2
   rw[UO] at a b
   exact⟨a,b⟩
theorem UP{x y a:Nat}:PM x y a≤a:=by
 unfold PM
 exact kG (lz ..) (by simp)
section
variable{P:Program}{w:World}{K:b9}{mg:Str→Option Value}{base:Heap}{CP CL:Addr}
theorem PQ:FnScope ["web","x","y","kept","pairs"] ["web","x","y"] (AA Nn):=⟨rfl,rfl,rfl,by decide+kernel,rfl,by decide+kernel,by decide+kernel⟩
theorem eM:(Ak ["place"] [(("x" :Str),1),(("y" :Str),2)]).Nodup:=by decide+kernel
theorem Xv:(Ak ["a","b"] [(("kept" :Str),3)]).Nodup:=by decide+kernel
end
section
variable{P:Program}{w:World}{K:b9}{mg:Str→Option Value}{base:Heap}
noncomputable def PR:Bp:=EX fun ts r=>∃(n:Int) (u:T) (ns:List Int),ts=[.tup [.int n,u],.lst (ns.map T.int)]∧(∀z∈ns,0≤z∧z<n)∧r=.non
theorem aX{f:Addr}{fd:jv}(F:Fun K "need_places" "need_places" Nj f fd)(G:FnT P w K mg base "need_place" 3 ["web","thing"] aS):FnOk P w K mg base (CXe P w) 4 f fd ["web","things"] (CC K PR):=by
 refine AS F Oz ?_ ?_
 ·rintro ts O Φ Ξ ⟨r,⟨n,u,ns,rfl,_⟩,_⟩
  rfl
 ·rintro cdv A outer s H E O Ξ hr xf _ Φ ⟨_,⟨n,u,ns,rfl,hz,rfl⟩,q⟩
  refine AG (Bc Ao.own rfl (EI.wi (Am (ev 1)) ⟨fun i ρ' O'=>O'=O∧∃v2,ρ'=[some (.tup [.int n,u]),some (.lst (ns.map T.int)),v2],⟨rfl,none,rfl⟩,?_,?_⟩))
  ·rintro i t _ _ e ⟨rfl,v2,rfl⟩
   obtain⟨z,hm,rfl⟩:=jl.mp (i9 e)
   exact⟨[some (.tup [.int n,u]),some (.lst (ns.map T.int)),some (.int z)],AV 2 Oz.nd (by show 2<3;decide),AG (BC (ET.we (AJ G hr xf (AD (ev 0) (AD (ev 2) AB)) ⟨n,u,z,rfl,(hz z hm).1,(hz z hm).2,rfl⟩) ⟨rfl,_,rfl⟩))⟩
  ·rintro _ _ ⟨rfl,v2,rfl⟩
   exact q
noncomputable def PU:Bp:=fun ts O Φ _=>∃(n:Int) (ps:List (Int×Int)) (a b c e:Int),ts=[AI n ps,.int a,.int b,.int c,.int e]∧WebA n ps∧(∀z∈[a,b,c,e],0≤z∧z<n)∧Uq ps a b c e=true∧∀rs:List (Int×Int),rs.Pairwise CQ→(∀q,q∈rs↔q∈WY ps [(a,b),(c,e)] [(a,c),(b,e)])→rs.length≤250→Φ (AI n rs) O
theorem aY{f:Addr}{fd:jv}(F:Fun K "crossed" "crossed" Hn f fd)(Gn:FnT P w K mg base "need_places" 4 ["web","things"] PR)(Gc:FnT P w K mg base "can_cross" 4 ["web","a","b","c","e"] TR)(Ge:FnT P w K mg base "exchanged" 4 ["web","a","b","c","e"] Nq):
  FnOk P w K mg base (CXe P w) 5 f fd ["web","a","b","c","e"] (CC K PU):=by
 refine AS F Qg ?_ ?_
 ·rintro ts O Φ Ξ ⟨n,ps,a,b,c,e,rfl,_⟩
  rfl
 ·rintro cdv A outer s H E O Ξ hr xf _ Φ ⟨n,ps,i,j,k,l,rfl,wa,hz,hc,q⟩
  refine AE (BC (ET.we (AJ Gn hr xf (AD (ev 0) (AD (Au (ts:=[i,j,k,l].map T.int) (AD (ev 1) (AD (ev 2) (AD (ev 3) (AD (ev 4) AB)))) (by show 4≤sizeLine;decide)) AB)) ⟨n,_,[i,j,k,l],rfl,hz,rfl⟩) ?_))
  refine AE (Ad (k:=false) (EB.cast (BH (k:=true) (EB.cast (Bg (AJ Gc hr xf (AD (ev 0) (AD (ev 1) (AD (ev 2) (AD (ev 3) (AD (ev 4) AB))))) ⟨n,ps,i,j,k,l,rfl,rfl⟩)) hc)) rfl) (fun h=>by cases h) (fun _=>AZ ?_))
  refine AG (AK (Al Ge hr xf (EA.wa (AD (ev 0) (AD (ev 1) (AD (ev 2) (AD (ev 3) (AD (ev 4) AB))))) ⟨n,ps,i,j,k,l,rfl,wa.hl,wa.inb,fun z h=>?_,q⟩)))
  have:=hz z h
  have:=wa.n1
  omega
noncomputable def Xw:Bp:=fun ts O Φ _=>∃(n:Int) (ps:List (Int×Int)) (a b c e:Int),ts=[AI n ps,.int a,.int b,.int c,.int e]∧WebS n ps∧(∀z∈[a,b,c,e],0≤z∧z<n)∧eH ps a b c e=true∧n≤14∧∀rs:List (Int×Int),rs.Pairwise CQ→(∀q,q∈rs↔q∈WY ps [(a,b),(c,e)] (Xu n a b c e))→rs.length≤250→Φ (AI (n+2) rs) O
theorem aZ{f:Addr}{fd:jv}(F:Fun K "spliced" "spliced" WL f fd)(Tx:Txt mg)(Gn:FnT P w K mg base "need_places" 4 ["web","things"] PR)(Gt:FnT P w K mg base "are_tied" 1 ["web","a","b"] KN)(Go:FnT P w K mg base "ties_of" 1 ["pairs"] Dh)(Gr:FnT P w K mg base "retied" 2 ["web","cut","tied"] Hr):
  FnOk P w K mg base (CXe P w) 5 f fd ["web","a","b","c","e"] (CC K Xw):=by
 refine AS F UJ ?_ ?_
 ·rintro ts O Φ Ξ ⟨n,ps,a,b,c,e,rfl,_⟩
  rfl
 ·rintro cdv A outer s H E O Ξ hr xf _ Φ ⟨n,ps,i,j,k,l,rfl,wa,hz,hs,hn,q⟩
  have hu:(A.deeper (m9 "spliced" (AA WL) s.heap.objs.size f cdv)).units+101<cLine:=by have:=hr.un;omega
  refine AE (BC (ET.we (AJ Gn hr xf (AD (ev 0) (AD (Au (ts:=[i,j,k,l].map T.int) (AD (ev 1) (AD (ev 2) (AD (ev 3) (AD (ev 4) AB)))) (by show 4≤sizeLine;decide)) AB)) ⟨n,_,[i,j,k,l],rfl,hz,rfl⟩) ?_))
  have n1:=wa.n1
  obtain⟨i0,i1⟩:=hz i (by simp)
  obtain⟨j0,j1⟩:=hz j (by simp)
  obtain⟨k0,k1⟩:=hz k (by simp)
  obtain⟨l0,l1⟩:=hz l (by simp)
  have rd1:∀q:Int×Int,Be (.tup ([q].map AF))=true:=fun q=>by unfold Be;exact Ci
  have dp1:∀q:Int×Int,(dT (.tup ([q].map AF))).depth≤100:=fun q=>by
   show ko (dTs ([q].map AF))+1≤100
   have:=Fv (ps:=[q])
   omega
  have nB:(!ES ps i j|| (!ES ps k l||kr (dT (.tup ([mm (i,j)].map AF))) (dT (.tup ([mm (k,l)].map AF)))))=!eH ps i j k l:=by
   have e1:kr (dT (.tup ([mm (i,j)].map AF))) (dT (.tup ([mm (k,l)].map AF)))=decide (mm (i,j)=mm (k,l)):=by
    show kr (.tuple (dTs ([mm (i,j)].map AF))) (.tuple (dTs ([mm (k,l)].map AF)))=_
    rw[kr,Fj]
    simp
   rw[e1]
   unfold eH
   cases ES ps i j<;>cases ES ps k l<;>cases decide (mm (i,j)=mm (k,l))<;>rfl
  refine AE (Ad (k:=false) (EB.cast (EW.eb (Bh (BH (Bg (AJ Gt (hr.mono (by decide)) xf (AD (ev 0) (AD (ev 1) (AD (ev 2) AB))) ⟨n,ps,i,j,rfl,rfl⟩))) fun _=>Bh (BH (Bg (AJ Gt (hr.mono (by decide)) xf (AD (ev 0) (AD (ev 3) (AD (ev 4) AB))) ⟨n,ps,k,l,rfl,rfl⟩))) fun _=>
   Bm (Af (EM hu) (Ac _) (EN (rd1 _) (rd1 _) (dp1 _)) (MW Go (hr.mono (by decide)) xf (ev 1) (ev 2) (by omega) (by omega)) (MW Go (hr.mono (by decide)) xf (ev 3) (ev 4) (by omega) (by omega))))) (by rw[nB,hs];rfl)) (fun h=>by cases h) (fun _=>AZ ?_))
  refine AE (AN 5 (ET.we (AR (ev 0) AC) ?_) UJ.nd)
  refine AE (AN 6 (ET.we (BB (ev 5) AC) ?_) UJ.nd)
  have e2:n+1+1=n+2:=by omega
  refine AE (Ad (k:=false) (EB.cast (Xc (BB (ev 6) AC) (GL Tx.iMP)) (decide_eq_false (by omega))) (fun h=>by cases h) (fun _=>AZ ?_))
  have n0:=wa.n0
  refine AG (AK (Al Gr (hr.mono (by decide)) xf (EA.wa (ts:=[AI (n+1+1) ps,.lst ([(i,j),(k,l)].map AF),.lst ((Xu n i j k l).map AF)]) (AD (Ba (AD (BB (ev 6) AC) (AD (AR (ev 0) AC) AB))) (AD (Au (AD (An (ev 1) (ev 2)) (AD (An (ev 3) (ev 4)) AB)) (by show 2≤sizeLine;decide)) (AD (Au (AD (An (ev 5) (ev 1)) (AD (An (ev 5) (ev 2)) (AD (An (ev 6) (ev 3)) (AD (An (ev 6) (ev 4)) (AD (An (ev 5) (ev 6)) AB))))) (by show 5≤sizeLine;decide)) AB))) ⟨n+1+1,ps,[(i,j),(k,l)],Xu n i j k l,rfl,wa.hl,by simp,by simp[Xu],wa.a.inb,fun q hq=>?_,fun q hq=>?_,fun rs h1 h2 h3=>?_⟩)))
  ·simp only[i6,jk,or_false] at hq
   unfold TQ
   rcases hq with rfl|rfl<;>simp only<;>omega
  ·simp only[Xu,i6,jk,or_false] at hq
   unfold TQ
   rcases hq with rfl|rfl|rfl|rfl|rfl<;>simp only<;>omega
  ·rw[e2]
   exact q rs h1 h2 h3
theorem Wu{f:Addr}{fd:jv}(F:Fun K "others_near" "others_near" GX f fd)(Tx:Txt mg)(G:FnT P w K mg base "near_of" 4 ["web","place"] aT):FnOk P w K mg base (CXe P w) 5 f fd ["web","place","other"] (CC K UL):=by
 refine AS F eI ?_ ?_
 ·rintro ts O Φ Ξ ⟨n,ps,x,y,rfl,_⟩
  rfl
 ·rintro cdv A outer s H E O Ξ hr xf _ Φ ⟨n,ps,x,y,rfl,wn,hx,q⟩
  have sb:=AX
  have hl:=wn.hl
  refine AG (AK (ET.we (Lm Tx.nTuple (Dc ["near"] [("other",2)] (Ae ps x) T.int T.int (fun z=>!decide (z=(y:Int))) rfl (BV (AA GX) ["web","place","other"] (by decide+kernel)) (DA (AJ G hr xf (AD (ev 0) (AD (ev 1) AB)) ⟨n,ps,x,rfl,wn,hx,rfl⟩)) (kG DF (by omega)) fun z hz=> ⟨[some (.int z),some (.int y)],fun X' Oe He is O'=>?_⟩)) q))
  obtain⟨cl,s',H',fp,rfl⟩:=is
  exact⟨AV 0 eJ (by decide),DV (ev 0) (ev 1),fun _=>ev 0⟩
noncomputable def Xx:Bp:=fun ts O Φ _=>∃(n:Int) (ps:List (Int×Int)) (x y:Nat),ts=[AI n ps,.int x,.int y]∧WebS n ps∧(x:Int)<n∧(y:Int)<n∧PP ps x y=true∧∀rs:List (Int×Int),rs.Pairwise CQ→(∀q,q∈rs↔q∈((Bt ps x y).map (Wt x y)).map mm)→rs.length≤250→Φ (AI (n-2) rs) O
theorem aa{f:Addr}{fd:jv}(F:Fun K "unspliced" "unspliced" Nn f fd)(Tx:Txt mg)(Gn:FnT P w K mg base "need_places" 4 ["web","things"] PR)(Gc:FnT P w K mg base "can_unsplice" 6 ["web","x","y"] UM)(Go:FnT P w K mg base "others_near" 5 ["web","place","other"] UL)(Gt:FnT P w K mg base "ties_of" 1 ["pairs"] Dh):
  FnOk P w K mg base (CXe P w) 7 f fd ["web","x","y"] (CC K Xx):=by
 refine AS F PQ ?_ ?_
 ·rintro ts O Φ Ξ ⟨n,ps,x,y,rfl,_⟩
  rfl
 ·rintro cdv A outer s H E O Ξ hr xf _ Φ ⟨n,ps,x,y,rfl,ws,i1,j1,hb,so⟩
  have sb:=AX
  have n0:=ws.n0
  have n1:=ws.n1
  have hl:=ws.hl
  have hu:(A.deeper (m9 "unspliced" (AA Nn) s.heap.objs.size f cdv)).units+102<cLine:=by have:=hr.un;omega
  refine AE (BC (ET.we (AJ Gn (hr.mono (by decide)) xf (AD (ev 0) (AD (Au (ts:=[(x:Int),(y:Int)].map T.int) (AD (ev 1) (AD (ev 2) AB)) (by show 2≤sizeLine;decide)) AB)) ⟨n,_,[(x:Int),(y:Int)],rfl,fun z hz=>by simp only[i6,jk,or_false] at hz;rcases hz with rfl|rfl<;>omega,rfl⟩) ?_))
  refine AE (Ad (k:=false) (EB.cast (BH (k:=true) (EB.cast (Bg (Bx Gc hr xf (AD (ev 0) (AD (ev 1) (AD (ev 2) AB))) fun Φ' p=> ⟨n,ps,x,y,rfl,ws.n,i1,j1,p⟩)) hb)) rfl) (fun h=>by cases h) (fun _=>AZ ?_))
  obtain⟨hb1,hb2,hb3⟩:=JM hb
  have xy:=aW ws.hp hb1
  have pk:=Qq ws hb
  have hn:((n.toNat:Nat):Int)=n:=by omega
  refine AE (AN 3 (ET.we (Dc ["place"] [("x",1),("y",2)] (j6 n.toNat) (fun(z:Nat)=>T.int (0+(z:Int))) (fun(z:Nat)=>T.int (0+(z:Int))) (GA x y) rfl (BV (AA Nn) ["web","x","y","kept","pairs"] (by decide+kernel)) (BF Tx.nRange (AR (ev 0) AC) ⟨by omega,by omega⟩) (by simp;omega) fun z hz=> ⟨[some (.int (0+(z:Int))),some (.int x),some (.int y)],fun X' Oe He is O'=>?_⟩) ?_) PQ.nd)
  ·obtain⟨cl,s',H',fp,rfl⟩:=is
   refine⟨AV 0 eM (by decide),EB.cast (Af (Jx hu) rfl (Jy (t:=.int (0+(z:Int))) (us:=[(x:Int),(y:Int)].map T.int) (by rw[Be]) Cm (by show 0≤100;decide)) (ev 0) (Ba (AD (ev 1) (AD (ev 2) AB)) (by show 2≤sizeLine;decide))) ?_,fun _=>ev 0⟩
   rw[Cj]
   unfold GA
   have e0:(0+(z:Int))=z:=by omega
   rw[e0]
   by_cases h1:z=x<;>by_cases h2:z=y<;>simp[h1,h2]<;>omega
  have ek:((j6 n.toNat).filter (GA x y)).map (fun(z:Nat)=>T.int (0+(z:Int)))=(CS n.toNat x y).map T.int:=by
   unfold CS FK
   rw[kv]
   refine nQ fun z _=>?_
   show T.int (0+(z:Int))=T.int z
   rw[Int.zero_add]
  rw[ek]
  refine AE (Eo (i:=4) (nc:=["a","b"]) (cap:=[("kept",3)]) (by rfl) PQ.nd rfl (BV (AA Nn) ["web","x","y","kept","pairs"] (by decide+kernel)) (EI.wi (DA (AR (ev 0) AC)) (Da ps AF AF (kB x y) (by omega) (fun p hp=> ⟨[some (.int p.1),some (.int p.2),some (.lst ((CS n.toNat x y).map T.int))],fun X' Oe He is O'=>?_⟩) ?_)))
  ·obtain⟨cl,s',H',fp,rfl⟩:=is
   have hpp:=ws.hp p hp
   unfold AU at hpp
   have inE:∀z:Int,0≤z→z<n→decide (z∈CS n.toNat x y)=GA x y z.toNat:=fun z z0 z1=>by
    rw[lC,decide_eq_true_iff,Qp z0 (by omega)]
   refine⟨Bb 0 1 rfl Xv (by decide) (by decide),EW.eb (FZ (EB.cast (Af (Sl hu) rfl (Nb (t:=.int p.1) (us:=(CS n.toNat x y).map T.int) (by rw[Be]) Cm (by show 0≤100;decide)) (ev 0) (ev 2)) ((Cj).trans (inE p.1 (by omega) (by omega)))) fun _=>Dp (EB.cast (Af (Sl hu) rfl (Nb (t:=.int p.2) (us:=(CS n.toNat x y).map T.int) (by rw[Be]) Cm (by show 0≤100;decide)) (ev 1) (ev 2)) ((Cj).trans (inE p.2 (by omega) (by omega))))),fun _=>An (ev 0) (ev 1)⟩
  have lf:(ps.filter (kB x y)).length≤ps.length:=lz ..
  have two:∀l:List Int,l.length=2→T.tup (l.map T.int)=AF (DO l):=fun l h=>by
   rw[show l.map T.int=[T.int (DO l).1,T.int (DO l).2] from congrArg (List.map T.int) (IC h)]
   rfl
  refine AE (AN 4 (ET.we (t:=.lst ((Bt ps x y).map AF)) (ET.cast (DB (ts:=(ps.filter (kB x y)).map AF) (us:=[.tup ((Ai ps x y).map T.int),.tup ((Ai ps y x).map T.int)]) (ev 4) (Au (AD (Bx Go (hr.mono (by decide)) xf (AD (ev 0) (AD (ev 1) (AD (ev 2) AB))) fun Φ' p=> ⟨n,ps,x,y,rfl,ws.n,i1,p⟩) (AD (Bx Go (hr.mono (by decide)) xf (AD (ev 0) (AD (ev 2) (AD (ev 1) AB))) fun Φ' p=> ⟨n,ps,y,x,rfl,ws.n,j1,p⟩) AB)) (by show 2≤sizeLine;decide)) (by rw[e7];show _+2≤_;omega)) (by
   unfold Bt
   rw[two _ hb2,two _ hb3,jX]
   rfl)) ?_) PQ.nd)
  have lp:(Bt ps x y).length≤202:=by
   unfold Bt
   rw[jf]
   show _+2≤202
   omega
  refine AG (AK (HZ (Hk (ET.we (GO Tx.nLen (ev 3)) (Hk (Al Gt (hr.mono (by decide)) xf (EA.wa (ts:=[.lst (((Bt ps x y).map (Wt x y)).map AF)]) (AD ?lc AB) ⟨(Bt ps x y).map (Wt x y),rfl,by rw[e7];omega,fun q hq=>?_,fun rs h1 h2 h3=>BL ⟨by show 2≤sizeLine;decide,?_⟩⟩)))))))
  case lc=>
   rw[kv]
   refine BM ["a","b"] [("kept",3)] (Bt ps x y) AF _ rfl (BV (AA Nn) ["web","x","y","kept","pairs"] (by decide+kernel)) (Am (ev 4)) (by omega) fun p hp=> ⟨[some (.int p.1),some (.int p.2),some (.lst ((CS n.toNat x y).map T.int))],fun X' Oe He is O'=>?_⟩
   obtain⟨cl,s',H',fp,rfl⟩:=is
   obtain⟨⟨p0,p1,p2⟩,p3,p4,p5⟩:=pk p hp
   have k1:=MY p0 (by omega:p.1< (n.toNat:Int)) p2
   have k2:=MY p3 (by omega:p.2< (n.toNat:Int)) p5
   exact⟨Bb 0 1 rfl Xv (by decide) (by decide),An (Lu k1.1 k1.2 (ev 2) (ev 0)) (Lu k2.1 k2.2 (ev 2) (ev 1))⟩
  ·obtain⟨p,hp,rfl⟩:=jl.mp hq
   obtain⟨⟨p0,p1,p2⟩,p3,p4,p5⟩:=pk p hp
   have a1:=UP (x:=x) (y:=y) (a:=p.1.toNat)
   have a2:=UP (x:=x) (y:=y) (a:=p.2.toNat)
   unfold Wt
   simp only
   omega
  ·have e2:(((CS n.toNat x y).map T.int).length:Int)=n-2:=by
    rw[e7]
    unfold CS
    rw[e7,UK,Kb xy,if_pos (by omega),if_pos (by omega)]
    omega
   rw[e2]
   exact so rs h1 h2 (by rw[e7] at h3;omega)
end
theorem Kf:∀{xs ys:List (Int×Int)},xs.Pairwise CQ→ys.Pairwise CQ→(∀v,v∈xs↔v∈ys)→xs=ys
 | [],[],_,_,_=>rfl
 | [],y::ys,_,_,h=>by have:=(h y).mpr (by simp);cases this
 |x::xs,[],_,_,h=>by have:=(h x).mp (by simp);cases this
 |x::xs,y::ys,h1,h2,h=>by
  have a:=ni.mp h1
  have b:=ni.mp h2
  have irr:∀{p q:Int×Int},CQ p q→CQ q p→False:=fun{p q} h1 h2=>by unfold CQ at h1 h2;omega
  have e:x=y:=by
   rcases i6.mp ((h x).mp (by simp)) with e|hx
   ·exact e
   ·rcases i6.mp ((h y).mpr (by simp)) with e|hy
    ·exact e.symm
    ·exact(irr (a.1 y hy) (b.1 x hx)).elim
  subst e
  rw[Kf a.2 b.2 fun v=>?_]
  constructor
  ·intro hv
   rcases i6.mp ((h v).mp (by simp[hv])) with e|hv'
   ·subst e;exact(irr (a.1 v hv) (a.1 v hv)).elim
   ·exact hv'
  ·intro hv
   rcases i6.mp ((h v).mpr (by simp[hv])) with e|hv'
   ·subst e;exact(irr (b.1 v hv) (b.1 v hv)).elim
   ·exact hv'
noncomputable def MZ(m:Nat):List (Int×Int):=(j6 m).flatMap fun(a:Nat)=> ((j6 m).filter fun b=>decide (a<b)).map fun(b:Nat)=> ((a:Int),(b:Int))
theorem Wv{m:Nat}:(MZ m).Pairwise CQ:=by
 unfold MZ
 rw[List.pairwise_flatMap]
 constructor
 ·intro a _
  rw[mE]
  exact(kj.filter _ og).imp fun{x y} h=> .inr ⟨rfl,by show(x:Int)<y;omega⟩
 ·refine og.imp fun{a b} h x hx y hy=>?_
  obtain⟨u,_,rfl⟩:=jl.mp hx
  obtain⟨v,_,rfl⟩:=jl.mp hy
  exact .inl (by show(a:Int)<b;omega)
theorem UQ{m:Nat}{q:Int×Int}(h:AU (m:Int) q):q∈MZ m:=by
 unfold AU at h
 exact nU.mpr ⟨q.1.toNat,ke.mpr (by omega),jl.mpr ⟨q.2.toNat,jo.mpr ⟨ke.mpr (by omega),decide_eq_true (by omega)⟩,kW (by show((q.1.toNat:Nat):Int)=q.1;omega) (by show((q.2.toNat:Nat):Int)=q.2;omega)⟩⟩
section
variable{N:Nat}{ps qs L:List (Int×Int)}{a b c e:Int}{q:Int×Int}
theorem ae{m:Nat}{q:Int×Int}(h:q∈MZ m):AU (m:Int) q:=by
 unfold MZ at h
 obtain⟨a,ha,h⟩:=nU.mp h
 obtain⟨b,hb,rfl⟩:=jl.mp h
 have hb:=jo.mp hb
 have h1:=ke.mp ha
 have h2:=ke.mp hb.1
 have h3:=of_decide_eq_true hb.2
 unfold AU
 simp only
 omega
noncomputable def Ma(N:Nat)(L:List (Int×Int)):List (Int×Int):=(MZ N).filter fun q=>decide (q∈L)
theorem Dv:(Ma N L).Pairwise CQ:=kj.filter _ Wv
theorem OD:∀q∈Ma N L,AU (N:Int) q:=fun q h=>ae (jo.mp h).1
theorem ID(h:∀q∈L,AU (N:Int) q):q∈Ma N L↔q∈L:=by
 unfold Ma
 rw[jo,decide_eq_true_eq]
 exact⟨fun z=>z.2,fun z=> ⟨UQ (h q z),z⟩⟩
theorem Kg(h:∀q∈L,AU (N:Int) q){rs:List (Int×Int)}(p:rs.Pairwise CQ)(m:∀q,q∈rs↔q∈L):rs=Ma N L:=
 Kf p Dv fun q=> (m q).trans (ID h).symm
theorem UR(n1:N≤16):(MZ N).length≤120:=by
 have key:∀m,m<17→(MZ m).length≤120:=by decide+kernel
 exact key N (by omega)
theorem Kh(n0:1≤N)(n1:N≤16):WebS (N:Int) (Ma N L):=⟨by omega,by omega,OD,Dv,kG (kG (lz ..) (UR n1)) (by decide)⟩
theorem JN(h:ps.Pairwise CQ):ps.Nodup:=lX.mpr (h.imp fun{x y} z e=>by subst e;unfold CQ at z;omega)
theorem eO{x y:Int}(hx:0≤x∧x< (N:Int))(hy:0≤y∧y< (N:Int))(ne:x≠y):AU (N:Int) (mm (x,y)):=by
 unfold AU mm
 simp only
 omega
theorem Di(h:AU (N:Int) q):mm q=q:=by
 unfold AU at h
 unfold mm
 exact kW (by simp only;omega) (by simp only;omega)
theorem JO{x y u v:Int}:mm (x,y)=mm (u,v)↔(x=u∧y=v)∨(x=v∧y=u):=by
 unfold mm
 constructor
 ·intro h
  have h1:=congrArg mn h
  have h2:=congrArg Prod.snd h
  simp only at h1 h2
  omega
 ·rintro(⟨rfl,rfl⟩| ⟨rfl,rfl⟩)
  ·rfl
  ·exact kW (by simp only;omega) (by simp only;omega)
theorem PV{cs ds:List (Int×Int)}(hp:∀p∈ps,AU (N:Int) p):q∈WY ps cs ds↔(q∈ps∧q∉cs.map mm)∨q∈ds.map mm:=by
 unfold WY
 rw[jX,ju]
 have:q∈(ps.filter fun p=>!decide (p∈cs.map mm)).map mm↔q∈ps∧q∉cs.map mm:=by
  rw[jl]
  constructor
  ·rintro⟨p,h,rfl⟩
   have h:=jo.mp h
   rw[Di (hp p h.1)]
   exact⟨h.1,by simpa using h.2⟩
  ·rintro⟨h1,h2⟩
   exact⟨q,jo.mpr ⟨h1,by simpa using h2⟩,Di (hp q h1)⟩
 rw[this]
structure Crs(ps:List (Int×Int))(a b c e:Int):Prop where
 nd:a≠b∧a≠c∧a≠e∧b≠c∧b≠e∧c≠e
 ab:mm (a,b)∈ps
 ce:mm (c,e)∈ps
 ac:mm (a,c)∉ps
 be:mm (b,e)∉ps
theorem PX:Uq ps a b c e=true↔Crs ps a b c e:=by
 have dd:(Up [a,b,c,e]:Int)=4↔a≠b∧a≠c∧a≠e∧b≠c∧b≠e∧c≠e:=by
  have h:=Qn (ns:=[a,b,c,e])
  have l:[a,b,c,e].length=4:=rfl
  rw[l] at h
  have:((Up [a,b,c,e]:Nat):Int)=4↔Up [a,b,c,e]=4:=by omega
  rw[this,h]
  simp only[kg,i6,jk,or_false,not_or,not_false_eq_true,sd,and_true]
  constructor
  ·rintro⟨⟨h1,h2,h3⟩,⟨h4,h5⟩,h6⟩
   exact⟨h1,h2,h3,h4,h5,h6⟩
  ·rintro⟨h1,h2,h3,h4,h5,h6⟩
   exact⟨⟨h1,h2,h3⟩,⟨h4,h5⟩,h6⟩
 unfold Uq ES
 constructor
 ·intro h
  simp only[km,k6,Bool.or_eq_false_iff,oh,decide_eq_true_eq,decide_eq_false_iff_not] at h
  exact⟨dd.mp h.1.1,h.1.2.1,h.1.2.2,h.2.1,h.2.2⟩
 ·rintro⟨h1,h2,h3,h4,h5⟩
  simp only[km,k6,Bool.or_eq_false_iff,oh,decide_eq_true_eq,decide_eq_false_iff_not]
  exact⟨⟨dd.mpr h1,h2,h3⟩,h4,h5⟩
noncomputable abbrev iB(ps:List (Int×Int))(a b c e:Int):List (Int×Int):=WY ps [(a,b),(c,e)] [(a,c),(b,e)]
noncomputable def Ki(N:Nat)(ps:List (Int×Int))(a b c e:Int):List (Int×Int):=Ma N (iB ps a b c e)
structure In4(N:Nat)(a b c e:Int):Prop where
 a:0≤a∧a< (N:Int)
 b:0≤b∧b< (N:Int)
 c:0≤c∧c< (N:Int)
 e:0≤e∧e< (N:Int)
theorem PY(hp:∀p∈ps,AU (N:Int) p):q∈iB ps a b c e↔(q∈ps∧q≠mm (a,b)∧q≠mm (c,e))∨q=mm (a,c)∨q=mm (b,e):=by
 rw[PV hp]
 simp only[jr,mP,i6,jk,or_false,not_or]
theorem US(hp:∀p∈ps,AU (N:Int) p)(i:In4 N a b c e)(x:Crs ps a b c e):∀q∈iB ps a b c e,AU (N:Int) q:=fun q h=>by
 rcases(PY hp).mp h with h|rfl|rfl
 ·exact hp q h.1
 ·exact eO i.a i.c x.nd.2.1
 ·exact eO i.b i.e x.nd.2.2.2.2.1
theorem DG(hp:∀p∈ps,AU (N:Int) p)(i:In4 N a b c e)(x:Crs ps a b c e):q∈Ki N ps a b c e↔(q∈ps∧q≠mm (a,b)∧q≠mm (c,e))∨q=mm (a,c)∨q=mm (b,e):=by
 unfold Ki
 rw[ID (US hp i x),PY hp]
theorem Mb(hp:∀p∈ps,AU (N:Int) p)(i:In4 N a b c e)(x:Crs ps a b c e):Crs (Ki N ps a b c e) a c b e:=by
 have nd:=x.nd
 refine⟨⟨nd.2.1,nd.1,nd.2.2.1,fun z=>nd.2.2.2.1 z.symm,nd.2.2.2.2.2,nd.2.2.2.2.1⟩,(DG hp i x).mpr (.inr (.inl rfl)),(DG hp i x).mpr (.inr (.inr rfl)),fun h=>?_,fun h=>?_⟩
 ·rcases(DG hp i x).mp h with h|h|h
  ·exact h.2.1 rfl
  ·rcases JO.mp h with h|h<;>omega
  ·rcases JO.mp h with h|h<;>omega
 ·rcases(DG hp i x).mp h with h|h|h
  ·exact h.2.2 rfl
  ·rcases JO.mp h with h|h<;>omega
  ·rcases JO.mp h with h|h<;>omega
theorem Ww(hp:∀p∈ps,AU (N:Int) p)(pw:ps.Pairwise CQ)(i:In4 N a b c e)(x:Crs ps a b c e):Ki N (Ki N ps a b c e) a c b e=ps:=by
 have i':In4 N a c b e:=⟨i.a,i.c,i.b,i.e⟩
 refine Kf Dv pw fun q=>?_
 show q∈Ki N (Ki N ps a b c e) a c b e↔_
 rw[DG (ps:=Ki N ps a b c e) (fun p h=>OD p h) i' (Mb hp i x),DG hp i x]
 constructor
 ·rintro(⟨h|h|h,h2,h3⟩|h|h)
  ·exact h.1
  ·exact absurd h h2
  ·exact absurd h h3
  ·rw[h];exact x.ab
  ·rw[h];exact x.ce
 ·intro h
  by_cases h1:q=mm (a,b)
  ·exact .inr (.inl h1)
  ·by_cases h2:q=mm (c,e)
   ·exact .inr (.inr h2)
   ·exact .inl ⟨.inl ⟨h,h1,h2⟩,fun z=>x.ac (z▸h),fun z=>x.be (z▸h)⟩
noncomputable def UT(i:Nat)(p:Int×Int):Bool:=decide (p.1=(i:Int))||decide (p.2=(i:Int))
noncomputable def BW(ps:List (Int×Int))(i:Nat):Nat:=(ps.filter (UT i)).length
theorem UU(i:Nat):(Ae ps i).length=BW ps i:=by
 unfold Ae BW
 induction ps with
 |nil=>rfl
 |cons p ps ih=>
  rw[lR,m7]
  unfold UT at ih ⊢
  by_cases h1:p.1=(i:Int)
  ·rw[if_pos h1,decide_eq_true h1]
   simp only[Bool.true_or,if_true,jm]
   exact congrArg (· +1) ih
  ·rw[if_neg h1,decide_eq_false h1]
   by_cases h2:p.2=(i:Int)
   ·rw[if_pos h2,decide_eq_true h2]
    simp only[Bool.or_true,if_true,jm]
    exact congrArg (· +1) ih
   ·rw[if_neg h2,decide_eq_false h2]
    simp only[sH,jt,if_false]
    exact ih
theorem Mc{i:Nat}(h:ps.Perm qs):BW ps i=BW qs i:=(h.filter _).length_eq
theorem PZ{i:Nat}:BW (ps++qs) i=BW ps i+BW qs i:=by
 unfold BW
 rw[pf,jf]
theorem Bd{i:Nat}:BW (q::ps) i=(if UT i q=true then 1 else 0)+BW ps i:=by
 unfold BW
 rw[m7]
 split
 ·rw[jm];omega
 ·omega
theorem Kj{i:Nat}{x y:Int}:UT i (mm (x,y))=(decide (x=(i:Int))||decide (y=(i:Int))):=by
 unfold UT mm
 simp only
 rw[lC,oY,oY,decide_eq_true_eq,decide_eq_true_eq,decide_eq_true_eq,decide_eq_true_eq]
 omega
theorem JP{i:Nat}(nd:ps.Nodup){x y:Int×Int}(hx:x∈ps)(hy:y∈ps)(ne:x≠y):BW ps i=BW (ps.filter fun q=>decide (q≠x)&&decide (q≠y)) i+((if UT i x=true then 1 else 0)+((if UT i y=true then 1 else 0))):=by
 have pm:ps.Perm ((ps.filter fun q=>decide (q≠x)&&decide (q≠y))++[x,y]):=by
  refine(oC nd ?_).mpr fun q=>?_
  ·refine kS.mpr ⟨nd.filter _,by simp[ne],fun u hu v hv z=>?_⟩
   have hu:=(jo.mp hu).2
   rw[km,decide_eq_true_eq,decide_eq_true_eq] at hu
   subst z
   simp only[i6,jk,or_false] at hv
   rcases hv with h|h
   ·exact hu.1 h
   ·exact hu.2 h
  ·rw[ju,jo,km,decide_eq_true_eq,decide_eq_true_eq]
   simp only[i6,jk,or_false]
   constructor
   ·intro h
    by_cases h1:q=x
    ·exact .inr (.inl h1)
    ·by_cases h2:q=y
     ·exact .inr (.inr h2)
     ·exact .inl ⟨h,h1,h2⟩
   ·rintro(h|rfl|rfl)
    ·exact h.1
    ·exact hx
    ·exact hy
 rw[Mc pm,PZ,Bd,Bd]
 rfl
theorem Md{i:Nat}{ds:List (Int×Int)}{f:Int×Int→Bool}(nd:ps.Nodup)(dn:ds.Nodup)(dis:∀q∈ds,q∉ps)(rd:qs.Nodup)(h:∀q,q∈qs↔(q∈ps∧f q=true)∨q∈ds):BW qs i=BW (ps.filter f) i+BW ds i:=by
 have pm:qs.Perm (ps.filter f++ds):=by
  refine(oC rd ?_).mpr fun q=>?_
  ·exact kS.mpr ⟨nd.filter _,dn,fun u hu v hv z=>dis v hv (z▸(jo.mp hu).1)⟩
  ·rw[ju,jo,h]
 rw[Mc pm,PZ]
theorem af(hp:∀p∈ps,AU (N:Int) p)(pw:ps.Pairwise CQ)(j:In4 N a b c e)(x:Crs ps a b c e){i:Nat}:BW (Ki N ps a b c e) i=BW ps i:=by
 have nd:=x.nd
 have ne:mm (a,b)≠mm (c,e):=fun h=>by rcases JO.mp h with h|h<;>omega
 have ne2:mm (a,c)≠mm (b,e):=fun h=>by rcases JO.mp h with h|h<;>omega
 rw[JP (JN pw) x.ab x.ce ne,Md (ps:=ps) (qs:=Ki N ps a b c e) (ds:=[mm (a,c),mm (b,e)]) (f:=fun q=>decide (q≠mm (a,b))&&decide (q≠mm (c,e))) (JN pw) (by simp[ne2]) (fun q hq=>by
  simp only[i6,jk,or_false] at hq
  rcases hq with rfl|rfl
  ·exact x.ac
  ·exact x.be) (JN Dv) fun q=>by
   rw[DG hp j x,km,decide_eq_true_eq,decide_eq_true_eq]
   simp only[i6,jk,or_false]]
 rw[Bd,Bd,Kj,Kj,Kj,Kj]
 have e0:BW [] i=0:=rfl
 rw[e0]
 have key:∀(p q:Prop) [Decidable p] [Decidable q],¬(p∧q)→(if(decide p||decide q)=true then 1 else 0)=(if p then 1 else 0)+(if q then(1:Nat) else 0):=by
  intro p q _ _ h
  by_cases hp:p<;>by_cases hq:q<;>simp_all
 rw[key (a=(i:Int)) (c=(i:Int)) (by omega),key (b=(i:Int)) (e=(i:Int)) (by omega),key (a=(i:Int)) (b=(i:Int)) (by omega),key (c=(i:Int)) (e=(i:Int)) (by omega)]
 omega
end
section
variable{N:Nat}{ps:List (Int×Int)}{p p' q:Int×Int}
noncomputable abbrev iC(N:Nat)(ps:List (Int×Int))(p p':Int×Int):List (Int×Int):=WY ps [(p.1,p.2),(p'.1,p'.2)] (Xu (N:Int) p.1 p.2 p'.1 p'.2)
noncomputable def EY(N:Nat)(ps:List (Int×Int))(p p':Int×Int):List (Int×Int):=Ma (N+2) (iC N ps p p')
noncomputable def Pa(N:Nat)(p p':Int×Int):List (Int×Int):=[(p.1,(N:Int)),(p.2,(N:Int)),(p'.1,(N:Int)+1),(p'.2,(N:Int)+1),((N:Int),(N:Int)+1)]
structure TwoT(N:Nat)(ps:List (Int×Int))(p p':Int×Int):Prop where
 hp:∀q∈ps,AU (N:Int) q
 pw:ps.Pairwise CQ
 h1:p∈ps
 h2:p'∈ps
 ne:p≠p'
theorem TwoT.b(t:TwoT N ps p p'):(0≤p.1∧p.1<p.2∧p.2< (N:Int))∧0≤p'.1∧p'.1<p'.2∧p'.2< (N:Int):=⟨t.hp p t.h1,t.hp p' t.h2⟩
theorem TwoT.up(t:TwoT N ps p p'):∀q∈ps,AU ((N+2:Nat):Int) q:=fun q h=>by
 have:=t.hp q h
 unfold AU at this ⊢
 omega
theorem eP(t:TwoT N ps p p'):(Xu (N:Int) p.1 p.2 p'.1 p'.2).map mm=Pa N p p':=by
 have b:=t.b
 unfold Xu Pa mm
 simp only[jr,mP]
 congr 1
 ·exact kW (by simp only;omega) (by simp only;omega)
 congr 1
 ·exact kW (by simp only;omega) (by simp only;omega)
 congr 1
 ·exact kW (by simp only;omega) (by simp only;omega)
 congr 1
 ·exact kW (by simp only;omega) (by simp only;omega)
 congr 1
 exact kW (by simp only;omega) (by simp only;omega)
theorem Pb(t:TwoT N ps p p'):q∈iC N ps p p'↔(q∈ps∧q≠p∧q≠p')∨q∈Pa N p p':=by
 rw[PV t.up,eP t]
 simp only[jr,mP,i6,jk,or_false,not_or]
 rw[show mm (p.1,p.2)=p from Di (t.hp p t.h1),show mm (p'.1,p'.2)=p' from Di (t.hp p' t.h2)]
theorem Wx(t:TwoT N ps p p'):∀q∈Pa N p p',AU ((N+2:Nat):Int) q∧(N:Int)≤q.2:=fun q h=>by
 have b:=t.b
 unfold Pa at h
 simp only[i6,jk,or_false] at h
 unfold AU
 rcases h with rfl|rfl|rfl|rfl|rfl<;>simp only<;>omega
theorem Xy(t:TwoT N ps p p'):∀q∈iC N ps p p',AU ((N+2:Nat):Int) q:=fun q h=>by
 rcases(Pb t).mp h with h|h
 ·exact t.up q h.1
 ·exact(Wx t q h).1
theorem CA(t:TwoT N ps p p'):q∈EY N ps p p'↔(q∈ps∧q≠p∧q≠p')∨q∈Pa N p p':=by
 unfold EY
 rw[ID (Xy t),Pb t]
theorem UV(t:TwoT N ps p p'){i:Nat}:BW (EY N ps p p') i=BW (ps.filter fun q=>decide (q≠p)&&decide (q≠p')) i+BW (Pa N p p') i:=
 Md (JN t.pw) (by
  have b:=t.b
  unfold Pa
  simp only[kg,i6,jk,or_false,not_or,not_false_eq_true,sd,and_true,oT,not_and]
  omega) (fun q hq h=>by
  have h1:=(Wx t q hq).2
  have h2:=t.hp q h
  unfold AU at h2
  omega) (JN Dv) fun q=>by
   rw[CA t,km,decide_eq_true_eq,decide_eq_true_eq]
theorem Dj{i:Nat}{x y:Int}:UT i (x,y)=(decide (x=(i:Int))||decide (y=(i:Int))):=rfl
theorem EU{P Q:Prop} [Decidable P] [Decidable Q](h:¬(P∧Q)):(if(decide P||decide Q)=true then 1 else 0)=(if P then 1 else 0)+(if Q then(1:Nat) else 0):=by
 by_cases hp:P<;>by_cases hq:Q<;>simp_all
theorem UW(t:TwoT N ps p p'){i:Nat}:BW (Pa N p p') i=((if p.1=(i:Int) then 1 else 0)+(if(N:Int)=i then 1 else 0))+(((if p.2=(i:Int) then 1 else 0)+(if(N:Int)=i then 1 else 0))+(((if p'.1=(i:Int) then 1 else 0)+(if(N:Int)+1=i then 1 else 0))+(((if p'.2=(i:Int) then 1 else 0)+(if(N:Int)+1=i then 1 else 0))+((if(N:Int)=i then 1 else 0)+(if(N:Int)+1=i then 1 else 0))))):=by
 have b:=t.b
 unfold Pa
 rw[Bd,Bd,Bd,Bd,Bd]
 have e0:BW [] i=0:=rfl
 rw[e0,Dj,Dj,Dj,Dj,Dj,EU (by omega),EU (by omega),EU (by omega),EU (by omega),EU (by omega)]
 omega
theorem Wy(t:TwoT N ps p p'){i:Nat}(h:i<N):BW (EY N ps p p') i=BW ps i:=by
 have b:=t.b
 rw[JP (JN t.pw) t.h1 t.h2 t.ne,UV t,UW t]
 have e1:UT i p=(decide (p.1=(i:Int))||decide (p.2=(i:Int))):=rfl
 have e2:UT i p'=(decide (p'.1=(i:Int))||decide (p'.2=(i:Int))):=rfl
 rw[e1,e2,EU (by omega),EU (by omega),if_neg (show¬(N:Int)=i by omega),if_neg (show¬(N:Int)+1=i by omega)]
 omega
theorem UX(t:TwoT N ps p p'){i:Nat}(h:N≤i){f:Int×Int→Bool}:BW (ps.filter f) i=0:=by
 unfold BW
 rw[List.filter_eq_nil_iff.mpr fun q hq=>?_]
 ·rfl
 ·have:=t.hp q (jo.mp hq).1
  unfold AU at this
  unfold UT
  rw[decide_eq_false (by omega),decide_eq_false (by omega)]
  exact i5
theorem Pc(t:TwoT N ps p p'){i:Nat}(h:i=N∨i=N+1):BW (EY N ps p p') i=3:=by
 have b:=t.b
 rw[UV t,UX t (by omega),UW t,if_neg (show¬p.1=(i:Int) by omega),if_neg (show¬p.2=(i:Int) by omega),if_neg (show¬p'.1=(i:Int) by omega),if_neg (show¬p'.2=(i:Int) by omega)]
 rcases h with rfl|rfl
 ·rw[if_pos rfl,if_neg (by omega)]
 ·rw[if_neg (by omega),if_pos (by omega)]
theorem GQ{xs ys:List Int}(h1:xs.Pairwise (· < ·))(h2:ys.Pairwise (· < ·))(h:∀v,v∈xs↔v∈ys):xs=ys:=by
 have n1:xs.Nodup:=lX.mpr (h1.imp fun h=>by omega)
 have n2:ys.Nodup:=lX.mpr (h2.imp fun h=>by omega)
 exact Wr ((oC n1 n2).mpr h) (h1.imp fun h=>by omega) h2
theorem Me{M:Nat}{qs:List (Int×Int)}(hp:∀q∈qs,AU (M:Int) q){i:Nat}{v:Int}:v∈Ae qs i↔((i:Int),v)∈qs∨(v,(i:Int))∈qs:=by
 unfold Ae
 rw[ml]
 constructor
 ·rintro⟨q,hq,e⟩
  by_cases h1:q.1=(i:Int)
  ·rw[if_pos h1] at e
   cases e
   exact .inl (by rw[←h1];exact hq)
  ·rw[if_neg h1] at e
   by_cases h2:q.2=(i:Int)
   ·rw[if_pos h2] at e
    cases e
    exact .inr (by rw[←h2];exact hq)
   ·rw[if_neg h2] at e
    cases e
 ·rintro(h|h)
  ·exact⟨_,h,by rw[if_pos rfl]⟩
  ·have:=hp _ h
   unfold AU at this
   simp only at this
   exact⟨_,h,by rw[if_neg (by simp only;omega),if_pos rfl]⟩
theorem Pd:∀q∈EY N ps p p',AU ((N+2:Nat):Int) q:=fun q h=>OD q h
theorem UY:(EY N ps p p').Pairwise CQ:=Dv
theorem Pe(t:TwoT N ps p p'):Ai (EY N ps p p') N (N+1)=[p.1,p.2]:=by
 have b:=t.b
 unfold Ai
 refine GQ ((IB Pd UY).filter _) (by simp only[ni,i6,jk,or_false,forall_eq,false_implies,implies_true,mF,and_true];omega) fun v=>?_
 rw[jo,Me (M:=N+2) Pd,CA t,CA t]
 simp only[k6,decide_eq_false_iff_not,i6,jk,or_false,Pa,oT]
 constructor
 ·rintro⟨(h|h)| (h|h),h3⟩
  ·have:=t.hp _ h.1
   unfold AU at this
   simp only at this
   omega
  ·omega
  ·have:=t.hp _ h.1
   unfold AU at this
   simp only at this
   omega
  ·omega
 ·rintro(rfl|rfl)
  ·exact⟨.inr (.inr (by first|omega|simp)),by omega⟩
  ·exact⟨.inr (.inr (by first|omega|simp)),by omega⟩
theorem Pf(t:TwoT N ps p p'):Ai (EY N ps p p') (N+1) N=[p'.1,p'.2]:=by
 have b:=t.b
 unfold Ai
 refine GQ ((IB Pd UY).filter _) (by simp only[ni,i6,jk,or_false,forall_eq,false_implies,implies_true,mF,and_true];omega) fun v=>?_
 rw[jo,Me (M:=N+2) Pd,CA t,CA t]
 simp only[k6,decide_eq_false_iff_not,i6,jk,or_false,Pa,oT]
 constructor
 ·rintro⟨(h|h)| (h|h),h3⟩
  ·have:=t.hp _ h.1
   unfold AU at this
   simp only at this
   omega
  ·omega
  ·have:=t.hp _ h.1
   unfold AU at this
   simp only at this
   omega
  ·omega
 ·rintro(rfl|rfl)
  ·exact⟨.inr (.inr (by first|omega|simp)),by omega⟩
  ·exact⟨.inr (.inr (by first|omega|simp)),by omega⟩
theorem eQ(t:TwoT N ps p p'):p∉EY N ps p p'∧p'∉EY N ps p p':=by
 have b:=t.b
 constructor
 ·intro h
  rcases(CA t).mp h with h|h
  ·exact h.2.1 rfl
  ·have:=(Wx t p h).2
   omega
 ·intro h
  rcases(CA t).mp h with h|h
  ·exact h.2.2 rfl
  ·have:=(Wx t p' h).2
   omega
theorem Xz(t:TwoT N ps p p'):((N:Int),(N:Int)+1)∈EY N ps p p':=(CA t).mpr (.inr (by unfold Pa;simp))
theorem YA(t:TwoT N ps p p'):[p.1,p.2]≠[p'.1,p'.2]:=fun h=>t.ne (by
 injection h with h1 h2
 injection h2 with h2 _
 exact kW h1 h2)
theorem eS(t:TwoT N ps p p'):PP (EY N ps p p') N (N+1)=true:=by
 have n:=eQ t
 unfold PP ES
 rw[Pe t,Pf t]
 have e1:mm (((N:Nat):Int),((N+1:Nat):Int))=((N:Int),(N:Int)+1):=by
  unfold mm
  exact kW (by simp only;omega) (by simp only;omega)
 have e2:mm ((DO [p.1,p.2]).1,(DO [p.1,p.2]).2)=p:=Di (t.hp p t.h1)
 have e3:mm ((DO [p'.1,p'.2]).1,(DO [p'.1,p'.2]).2)=p':=Di (t.hp p' t.h2)
 rw[e1,e2,e3,decide_eq_true (Xz t),decide_eq_false n.1,decide_eq_false n.2,decide_eq_false (YA t)]
 rfl
theorem eT(t:TwoT N ps p p'):PP (EY N ps p p') (N+1) N=true:=by
 have n:=eQ t
 unfold PP ES
 rw[Pe t,Pf t]
 have e1:mm (((N+1:Nat):Int),((N:Nat):Int))=((N:Int),(N:Int)+1):=by
  unfold mm
  exact kW (by simp only;omega) (by simp only;omega)
 have e2:mm ((DO [p.1,p.2]).1,(DO [p.1,p.2]).2)=p:=Di (t.hp p t.h1)
 have e3:mm ((DO [p'.1,p'.2]).1,(DO [p'.1,p'.2]).2)=p':=Di (t.hp p' t.h2)
 rw[e1,e2,e3,decide_eq_true (Xz t),decide_eq_false n.1,decide_eq_false n.2,decide_eq_false (p:=[p'.1,p'.2]=[p.1,p.2]) fun h=>YA t h.symm]
 rfl
theorem YB{x y:Nat}(hx:N≤x)(hy:N≤y)(ne:x≠y)(h:AU (N:Int) q):mm (Wt x y q)=q:=by
 have h':=h
 unfold AU at h
 have e1:=Kb ne q.1.toNat
 have e2:=Kb ne q.2.toNat
 rw[if_neg (by omega),if_neg (by omega)] at e1 e2
 have:Wt x y q=q:=by
  unfold Wt
  exact kW (by simp only;omega) (by simp only;omega)
 rw[this]
 exact Di h'
theorem UZ(t:TwoT N ps p p'){x y:Nat}(h:(x=N∧y=N+1)∨(x=N+1∧y=N)):(q∈EY N ps p p'∧kB x y q=true)↔q∈ps∧q≠p∧q≠p':=by
 have b:=t.b
 rw[CA t]
 unfold kB
 rw[km,Kc,Kc]
 constructor
 ·rintro⟨h1|h1,h2⟩
  ·exact h1
  ·exfalso
   unfold Pa at h1
   simp only[i6,jk,or_false] at h1
   rcases h1 with rfl|rfl|rfl|rfl|rfl<;>simp only at h2<;>omega
 ·intro h1
  have:=t.hp q h1.1
  unfold AU at this
  exact⟨.inl h1,by omega,by omega⟩
theorem Wz(t:TwoT N ps p p'){x y:Nat}(h:(x=N∧y=N+1)∨(x=N+1∧y=N)){rs:List (Int×Int)}(pw:rs.Pairwise CQ)(m:∀q,q∈rs↔q∈((Bt (EY N ps p p') x y).map (Wt x y)).map mm):rs=ps:=by
 refine Kf pw t.pw fun q=> (m q).trans ?_
 have mem:∀z,z∈Bt (EY N ps p p') x y↔z∈ps:=fun z=>by
  unfold Bt
  rw[ju,jo,UZ t h]
  have e:z∈[DO (Ai (EY N ps p p') x y),DO (Ai (EY N ps p p') y x)]↔z=p∨z=p':=by
   rcases h with⟨rfl,rfl⟩| ⟨rfl,rfl⟩
   ·rw[Pe t,Pf t]
    show z∈[(p.1,p.2),(p'.1,p'.2)]↔_
    simp
   ·rw[Pe t,Pf t]
    show z∈[(p'.1,p'.2),(p.1,p.2)]↔_
    simp only[i6,jk,or_false]
    exact Or.comm
  rw[e]
  constructor
  ·rintro(h|rfl|rfl)
   ·exact h.1
   ·exact t.h1
   ·exact t.h2
  ·intro hz
   by_cases h1:z=p
   ·exact .inr (.inl h1)
   ·by_cases h2:z=p'
    ·exact .inr (.inr h2)
    ·exact .inl ⟨hz,h1,h2⟩
 have hx:N≤x∧N≤y∧x≠y:=by omega
 rw[kv,jl]
 constructor
 ·rintro⟨z,hz,rfl⟩
  have hz:=(mem z).mp hz
  show mm (Wt x y z)∈ps
  rw[YB hx.1 hx.2.1 hx.2.2 (t.hp z hz)]
  exact hz
 ·intro hq
  exact⟨q,(mem q).mpr hq,YB hx.1 hx.2.1 hx.2.2 (t.hp q hq)⟩
end
end K58
namespace HT
open PySem PySem.Spec PyProof.Rows
noncomputable def Ay:List Int→List Int→Bool
 | [],_=>false
 |_::_,[]=>true
 |x::xs,y::ys=>if x=y then Ay xs ys else decide (y<x)
theorem EV(x y:Int)(xs ys:List Int):Ay (x::xs) (y::ys)=if x=y then Ay xs ys else decide (y<x):=rfl
theorem ED:Ay [] []=false:=rfl
theorem IE(y:Int)(ys:List Int):Ay [] (y::ys)=false:=rfl
theorem IF(x:Int)(xs:List Int):Ay (x::xs) []=true:=rfl
theorem Ua(A:js)(s:c9)(a:Int)(t:Tok)(c:Int)(u:Tok)(prog:Program)(w:World)(E:Value→c9→Prop)(Q:Value→c9→Prop)(h:Q (.bool (decide (c<a))) s):
  wpAny (model prog w) A (tF .Gt (.int a t) (.int c u)) Q E s:=
 (PyProof.Rows.gt_int h:wpAny (model prog w) A (kR .Gt (.int a t) (.int c u)) Q E s)
section
open PySem.SeqAt
open PySem.AutoSeq1 (wpAny_loadPart')
open PySem.MeetsSeq PySem.MeetsSeq2 PySem.MeetsSeq3
theorem IV(l b:Addr)(items items2:Array Value)(n n2:Nat)(dd dd2:Option Addr)(sl sl2:Array (Option Value))(ns ms:List Int)(hi:mQ items.toList ns)(hj:mQ items2.toList ms):
  Meets (Builtin.«tuple.__gt__» ⟨[.ref l,.ref b],[]⟩)
   (fun _ R s=>s.heap.get? l=some {cls:=.type "tuple",dict:=dd,data:=.seq items n,slots:=sl}∧s.heap.get? b=some {cls:=.type "tuple",dict:=dd2,data:=.seq items2 n2,slots:=sl2}∧
    R (.ok (.ret (.bool (Ay ns ms)))) s):=
 .of_wp fun prog w A R s h=>by
  obtain⟨hp,g,d,tk,os⟩:=s;obtain⟨hl,hb,h⟩:=h
  have f2:=oV
  have z1:items.size=ns.length:=by rw[←hi.length];simp
  have z2:items2.size=ms.length:=by rw[←hj.length];simp
  wp_walk using nz hl,nz hb,oF _ (fun rest b s'=>b.1=none∧s'=⟨hp,g,d,tk,os⟩∧∃(vs ws:List Value) (ns' ms':List Int),rest=vs.zip ws∧
   mQ vs ns'∧mQ ws ms'∧ns'.length+items2.size=ms'.length+items.size∧R (.ok (.ret (.bool (Ay ns' ms')))) ⟨hp,g,d,tk,os⟩) _
  case turn=>
   rintro⟨y,x⟩ rest b s' ⟨hb',rfl,vs,ws,ns',ms',hz,hvi,hwi,hlen,hR⟩
   cases hvi with
   |nil=>rw[List.zip_nil_left] at hz;cases hz
   |cons a t hvi'=>
    cases hwi with
    |nil=>rw[List.zip_nil_right] at hz;cases hz
    |cons c u hwi'=>
     rw[n9] at hz
     injection hz with hyx hrest
     injection hyx with hy hx
     subst hy hx
     rw[EV] at hR
     simp only[jm] at hlen
     obtain⟨e,he,hiff⟩:=LA A.in1 ⟨hp,g,d,tk,os⟩ a t c u
     refine b6 (he prog w _ _ ?_)
     cases e with
     |true=>
      rw[if_pos (hiff.mp rfl)] at hR
      wp_walk
      exact⟨rfl,rfl,_,_,_,_,hrest,hvi',hwi',by omega,hR⟩
     |false=>
      rw[if_neg (fun q=>absurd (hiff.mpr q) i5)] at hR
      have hri:=Ua A.in1 ⟨hp,g,d,tk,os⟩ a t c u prog w
      wp_walk using hri
      exact⟨_,rfl,by simpa using hR⟩
  case fin=>
   rintro⟨b1,b2⟩ s' ⟨hb',rfl,vs,ws,ns',ms',hz,hvi,hwi,hlen,hR⟩
   simp only at hb'
   subst hb'
   have hv:Ay ns' ms'=decide (items2.size<items.size):=by
    cases hvi with
    |nil=>
     cases hwi with
     |nil=>
      simp only[lB] at hlen
      rw[ED]
      exact(decide_eq_false (by omega)).symm
     |cons c u hw=>
      simp only[lB,jm] at hlen
      rw[IE]
      exact(decide_eq_false (by omega)).symm
    |cons a t hv=>
     cases hwi with
     |nil=>
      simp only[lB,jm] at hlen
      rw[IF]
      exact(decide_eq_true (by omega)).symm
     |cons c u hw=>
      rw[n9] at hz
      cases hz
   rw[hv] at hR
   wp_walk
   exact⟨_,rfl,by simpa[Builtin.Tuple.tupleCompareSizes] using hR⟩
  case h=>
   exact⟨rfl,rfl,items.toList,items2.toList,ns,ms,rfl,hi,hj,by omega,h⟩
end
section
variable{prog:Program}{w:World}{A:js}{E:Value→c9→Prop}{s:c9}
theorem OE{l b:Addr}{items items2:Array Value}{ns ms:List Int}{Q:Value→c9→Prop}(hl:IsTup s.heap l items)(hb:IsTup s.heap b items2)(hi:mQ items.toList ns)(hj:mQ items2.toList ms)
  (hu:A.units<cLine) (h:Q (.bool (Ay ns ms)) s):wpAny (model prog w) A (kR .Gt (.ref l) (.ref b)) Q E s:=by
 obtain⟨⟨cls,dd,data,sl⟩,ho,hc,n,hd⟩:=id hl
 obtain⟨⟨cls2,dd2,data2,sl2⟩,ho2,hc2,n2,hd2⟩:=id hb
 simp only at hc hd hc2 hd2
 subst hc hd hc2 hd2
 exact richCompare_meets_room (op:=.Gt) ⟨_,ho,rfl⟩ ⟨_,ho2,rfl⟩ PySem.F.slot_tuple_gt PySem.F.entry_tuple_gt (PySem.F.args_tuple_gt_2 _ _) (IV l b items items2 n n2 dd dd2 sl sl2 ns ms hi hj)
  ⟨ho,ho2,show o8 (Ay ns ms)≠Value.notImplemented∧Q (.bool (Ay ns ms)) s from⟨(fun x=>nomatch x),h⟩⟩ hu
end
end HT
namespace L2
open PySem PySem.Spec PyProof.Rows
noncomputable def eU(K:b9):R2:=fun x y H Q=>∃(a b:Addr) (ns ms:List Int),x=.ref a∧y=.ref b∧DN K H a (ns.map V.int)∧DN K H b (ms.map V.int)∧Q (.bl (HT.Ay ns ms)) H
theorem Ub{X:Cx}(hu:X.A.units<cLine):Cb X (kR .Gt) (eU X.K):=by
 intro pins s σ H x y v u Q I rx ry h
 obtain⟨a,b,ns,ms,rfl,rfl,ha,hb,q⟩:=h
 cases rx;cases ry
 obtain⟨its,r1,p1,_⟩:=I.tuple ha
 obtain⟨its2,r2,p2,_⟩:=I.tuple hb
 exact HT.OE p1 p2 (Bj r1) (Bj r2) hu ⟨.bl _,H,I,rfl,q⟩
end L2
namespace L2.TL
open PySem PySem.Spec PyProof.Rows
section
variable{Z:Zx}{ρ:List (Option T)}{O:AM}{a b:Expr}{pos:Pos}{ns ms:List Int}
theorem Uc{K:b9}:RP K (eU K) (.tup (ns.map T.int)) (.tup (ms.map T.int)) O (.bl (HT.Ay ns ms)):=fun Φ p H v w Q ok r1 r2 q=>by
 obtain⟨a,xs,rfl,h1,r1⟩:=r1.tup_inv
 obtain⟨b,ys,rfl,h2,r2⟩:=r2.tup_inv
 cases r1.ints
 cases r2.ints
 exact⟨a,b,ns,ms,rfl,rfl,.inl (.inl h1),.inl (.inl h2),q _ H _ O p (.refl ok) (.bl _)⟩
theorem ag(hu:Z.X.A.units<cLine)(ha:ET Z ρ O a (.tup (ns.map T.int)))(hb:ET Z ρ O b (.tup (ms.map T.int))):ET Z ρ O (.Compare a [.Gt] [b] pos) (.bl (HT.Ay ns ms)):=FW (Ub hu) (Ac _) Uc ha hb
theorem ah(hu:Z.X.A.units<cLine)(ha:ET Z ρ O a (.tup (ns.map T.int)))(hb:ET Z ρ O b (.tup (ms.map T.int))):EB Z ρ O (.Compare a [.Gt] [b] pos) (HT.Ay ns ms):=Af (Ub hu) (Ac _) Uc ha hb
end
end L2.TL
namespace L2
open PySem PySem.Spec PyProof.Rows
section
variable{X:Cx}{pos:Pos}
end
end L2
namespace L2.TL
open PySem PySem.Spec PyProof.Rows
section
variable{Z:Zx}{ρ:List (Option T)}{O:AM}{Ψ:Es}
theorem iD{K:b9}{O:AM}{H:Hp}{vs:List V}{t u v:T}(r:Reps K O H vs [t,u,v]):∃a b c,vs=[a,b,c]∧Rep K O H a t∧Rep K O H b u∧Rep K O H c v:=by
 obtain⟨a,vs',rfl,h1,r'⟩:=Reps.cons_inv r
 obtain⟨b,c,rfl,h2,h3⟩:=r'.two_inv
 exact⟨a,b,c,rfl,h1,h2,h3⟩
variable{k:Nat}{x y z x2:Str}{ta tb tc td:T}{p1 p2 p3 p4 pos:Pos}
theorem Kl(i j m l:Nat){n:Nat}(hc:Z.X.calm=true)(hN:Z.X.N.Nodup)(hni:i<n)(hnj:j<n)(hnm:m<n)(hnl:l<n)(hi:Z.X.N[i]?=some x:=by rfl)(hj:Z.X.N[j]?=some y:=by rfl)(hm:Z.X.N[m]?=some z:=by rfl)(hl':Z.X.N[l]?=some x2:=by rfl)
  (hx:Mi Z.X.env.scope x:=by first|exact pJ rfl|exact oN rfl) (hy:Mi Z.X.env.scope y:=by first|exact pJ rfl|exact oN rfl) (hz:Mi Z.X.env.scope z:=by first|exact pJ rfl|exact oN rfl) (hx2:Mi Z.X.env.scope x2:=by first|exact pJ rfl|exact oN rfl)
  (hf:Z.X.fn x=true∨Z.X.env.scope.names.lookup x=some .local:=by first|exact .inl rfl|exact .inr rfl) (hf2:Z.X.fn y=true∨Z.X.env.scope.names.lookup y=some .local:=by first|exact .inl rfl|exact .inr rfl) (hf3:Z.X.fn z=true∨Z.X.env.scope.names.lookup z=some .local:=by first|exact .inl rfl|exact .inr rfl) (hf4:Z.X.fn x2=true∨Z.X.env.scope.names.lookup x2=some .local:=by first|exact .inl rfl|exact .inr rfl)
  (hs:(kz [.Name x p1,.Name y p2,.Name z p3,.Name x2 p4] Z.X.env).map (·.2)=assign (.Name x p1) Z.X.env::(kz [.Name y p2,.Name z p3,.Name x2 p4] Z.X.env).map (·.2):=by rfl) (hs2:(kz [.Name y p2,.Name z p3,.Name x2 p4] Z.X.env).map (·.2)=assign (.Name y p2) Z.X.env::(kz [.Name z p3,.Name x2 p4] Z.X.env).map (·.2):=by rfl) (hs3:(kz [.Name z p3,.Name x2 p4] Z.X.env).map (·.2)=assign (.Name z p3) Z.X.env::(kz [.Name x2 p4] Z.X.env).map (·.2):=by rfl) (hs4:(kz [.Name x2 p4] Z.X.env).map (·.2)=assign (.Name x2 p4) Z.X.env::(kz [] Z.X.env).map (·.2):=by rfl)
  (hl:(kz [.Name x p1,.Name y p2,.Name z p3,.Name x2 p4] Z.X.env).length=4:=by rfl) (hst:(kz [.Name x p1,.Name y p2,.Name z p3,.Name x2 p4] Z.X.env).findIdx? (·.1)=none:=by rfl):
  WG Z n ρ O (.Tuple [.Name x p1,.Name y p2,.Name z p3,.Name x2 p4] k pos) (.tup [ta,tb,tc,td]) ((((ρ.set i (some ta)).set j (some tb)).set m (some tc)).set l (some td)):=
 PG.weak (RD hc (Bn (Bw hN hi hx hf) (Bn (Bw hN hj hy hf2) (Bn (Bw hN hm hz hf3) (Bn (Bw hN hl' hx2 hf4) JT hs4) hs3) hs2) hs) hl hst) fun v σ H Q q=>by
  obtain⟨q1,q2,q3⟩:=q
  obtain⟨a,xs,rfl,h1,r⟩:=q2.tup_inv
  obtain⟨v,xs',rfl,r1,r⟩:=Reps.cons_inv r
  obtain⟨w,u,t,rfl,r2,r3,r4⟩:=iD r
  exact⟨a,_,rfl,.inl (.inl h1),rfl,v,_,rfl,w,_,rfl,u,_,rfl,t,_,rfl,rfl,q3 _ ⟨(((q1.rl.set r1).set r2).set r3).set r4,q1.fr⟩ ⟨by simp,fun m hm=>by rw[jx (by omega),jx (by omega),jx (by omega),jx (by omega)]⟩⟩
end
end L2.TL
namespace K58
open PySem L2 L2.TL PySem.Spec PyProof.Rows
theorem WebS.r{n:Int}{ps:List (Int×Int)}(h:WebS n ps):WebR n ps:=⟨h.n,h.pw,h.n0,by have:=h.n1;omega⟩
noncomputable def Km(ps:List (Int×Int)):Int:=match Mj ps with
 |none=>17
 |some k=>k
noncomputable def CB(n:Int)(ps:List (Int×Int)):List Int:=[Km ps,-(IA n ps)]
noncomputable def Pg(N:Nat)(a:Int):List Int:=(j6 ((N:Int)- (a+1)).toNat).map fun(i:Nat)=>a+1+(i:Int)
theorem Ph{N:Nat}{a v:Int}:v∈Pg N a↔a+1≤v∧v<N:=by
 unfold Pg
 rw[jl]
 constructor
 ·rintro⟨i,hi,rfl⟩
  have:=ke.mp hi
  omega
 ·intro h
  exact⟨(v- (a+1)).toNat,ke.mpr (by omega),by omega⟩
noncomputable def eV(N:Nat)(ps:List (Int×Int))(a b c:Int):List (List Int):=((Pg N a).filter fun e=>Uq ps a b c e).map fun e=> [a,b,c,e]
noncomputable def eW(N:Nat)(ps:List (Int×Int))(a b:Int)(cs:List Int):List (List Int):=cs.flatMap fun c=>eV N ps a b c
noncomputable def eX(N:Nat)(ps qs:List (Int×Int)):List (List Int):=qs.flatMap fun p=>eW N ps p.1 p.2 (Pg N p.1)
noncomputable abbrev Mf(N:Nat)(ps:List (Int×Int)):List (List Int):=eX N ps ps
theorem Kn{N:Nat}{a:Int}(h:0≤a):(Pg N a).length≤N:=by
 unfold Pg
 rw[e7,lG]
 omega
theorem Pi{N:Nat}{ps:List (Int×Int)}{a b c:Int}(h:0≤a):(eV N ps a b c).length≤N:=by
 unfold eV
 rw[e7]
 exact kG (lz ..) (Kn h)
theorem Ko{α β:Type}{f:α→List β}{m:Nat}:∀{xs:List α},(∀x∈xs,(f x).length≤m)→(xs.flatMap f).length≤xs.length*m
 | [],_=>by simp
 |x::xs,h=>by
  rw[qO,jf,jm,Nat.succ_mul]
  have:=Ko (f:=f) (xs:=xs) fun y hy=>h y (by simp[hy])
  have:=h x (by simp)
  omega
theorem Pj{N:Nat}{ps:List (Int×Int)}{a b:Int}{cs:List Int}(h:0≤a):(eW N ps a b cs).length≤cs.length*N:=Ko fun c _=>Pi h
theorem Pk{N:Nat}{ps qs:List (Int×Int)}(n1:N≤16)(hp:∀p∈qs,AU (N:Int) p):(eX N ps qs).length≤qs.length*256:=Ko fun p hq=>by
 have:=hp p hq
 unfold AU at this
 refine kG (Pj (by omega)) ?_
 have:=Kn (N:=N) (a:=p.1) (by omega)
 exact r9 (kG this n1) n1
structure Quad(N:Nat)(ps:List (Int×Int))(q:List Int)(a b c e:Int):Prop where
 eq:q=[a,b,c,e]
 inn:In4 N a b c e
 crs:Crs ps a b c e
theorem IG{N:Nat}{ps:List (Int×Int)}(hp:∀p∈ps,AU (N:Int) p){q:List Int}(h:q∈Mf N ps):∃a b c e,Quad N ps q a b c e:=by
 obtain⟨p,hpm,h⟩:=nU.mp h
 obtain⟨c,hc,h⟩:=nU.mp h
 obtain⟨e,he,rfl⟩:=jl.mp h
 have he:=jo.mp he
 have h1:=Ph.mp hc
 have h2:=Ph.mp he.1
 have hP:=hp p hpm
 unfold AU at hP
 exact⟨p.1,p.2,c,e,rfl,⟨by omega,by omega,by omega,by omega⟩,PX.mp he.2⟩
noncomputable def IW(N:Nat)(ps:List (Int×Int))(q:List Int):List (Int×Int):=Ki N ps (q.getD 0 0) (q.getD 1 0) (q.getD 2 0) (q.getD 3 0)
noncomputable def Qy(N:Nat)(ps:List (Int×Int)):Option (List Int):=(Mf N ps).find? fun q=>HT.Ay (CB N (IW N ps q)) (CB N ps)
theorem Pl{N:Nat}{ps:List (Int×Int)}{q:List Int}(h:Qy N ps=some q):q∈Mf N ps∧HT.Ay (CB N (IW N ps q)) (CB N ps)=true:=⟨List.mem_of_find?_eq_some h,by have:=List.find?_some h;exact this⟩
theorem OF{x y u v:Int}:HT.Ay [x,y] [u,v]=true↔u<x∨(u=x∧v<y):=by
 rw[HT.EV,HT.EV,HT.ED]
 by_cases h:x=u
 ·rw[if_pos h]
  by_cases h2:y=v
  ·rw[if_pos h2]
   exact⟨(fun z=>by cases z),fun z=>by omega⟩
  ·rw[if_neg h2,decide_eq_true_eq]
   omega
 ·rw[if_neg h,decide_eq_true_eq]
  omega
theorem OG{n:Int}{ps:List (Int×Int)}(wr:WebR n ps):0≤IA n ps∧IA n ps≤160000:=by
 unfold IA
 cases e:Mj ps with
 |none=>exact⟨me _,by show(0:Int)≤_;decide⟩
 |some m=>
  obtain⟨k,rfl,h3,hkn,_⟩:=Gp wr.wn.hw e
  have hl:((Hz n ps (k:Int)).length:Int)≤160000:=by
   have hle:∀M,GrR.Ring (Gr.Adj ps) M→k≤M.length:=by
    obtain⟨k',e',_,_,hl,_⟩:=Gp wr.wn.hw e
    have:k'=k:=by omega
    subst this
    exact hl
   have:=GrR.Lw (f:=fun(i:Nat)=>GrR.Lx (Gr.Adj ps) (Ag ps) k (i:Int)) (m:=8000) (xs:=j6 n.toNat) fun i hi=>by
    have hi:=ke.mp hi
    exact KZ wr hle (p:=(i:Int)) (by omega) (k-1) (by omega)
   rw[lG] at this
   have n1:=wr.n1
   have e2:(Hz n ps (k:Int)).length≤n.toNat*8000:=by
    unfold Hz GrR.dN
    rw[kH]
    exact this
   omega
  have h1:(((Hz n ps (k:Int)).length:Int)/ (2*(k:Int)))≤((Hz n ps (k:Int)).length:Int):=Int.ediv_le_self _ (by omega)
  have h2:0≤(((Hz n ps (k:Int)).length:Int)/ (2*(k:Int))):=Int.ediv_nonneg (by omega) (by omega)
  show 0≤((Hz n ps (k:Int)).length:Int)/ (2*(k:Int))∧((Hz n ps (k:Int)).length:Int)/ (2*(k:Int))≤_
  omega
theorem Kq{n:Int}{ps:List (Int×Int)}(wr:WebR n ps)(n1:n≤16):3≤Km ps∧Km ps≤17:=by
 unfold Km
 cases e:Mj ps with
 |none=>exact⟨by show(3:Int)≤17;decide,me _⟩
 |some m=>
  obtain⟨k,rfl,h3,hkn,_⟩:=Gp wr.wn.hw e
  show 3≤(k:Int)∧(k:Int)≤17
  omega
noncomputable def IX(n:Int)(ps:List (Int×Int)):Nat:=((17-Km ps)*160001+IA n ps).toNat
theorem ai{n:Int}{ps qs:List (Int×Int)}(wr:WebR n ps)(wq:WebR n qs)(n1:n≤16)(h:HT.Ay (CB n qs) (CB n ps)=true):IX n qs<IX n ps:=by
 have a1:=OG wr
 have a2:=OG wq
 have b1:=Kq wr n1
 have b2:=Kq wq n1
 unfold CB at h
 have h:=OF.mp h
 unfold IX
 omega
theorem XA{n:Int}{ps qs:List (Int×Int)}(h:HT.Ay (CB n qs) (CB n ps)=true):HT.Ay (CB n ps) (CB n qs)=false:=by
 unfold CB at h ⊢
 have h:=OF.mp h
 cases e:HT.Ay [Km ps,-IA n ps] [Km qs,-IA n qs] with
 |false=>rfl
 |true=>
  have:=OF.mp e
  omega
section
variable{P:Program}{w:World}{K:b9}{mg:Str→Option Value}{base:Heap}
noncomputable def Ud:Bp:=EX fun ts r=>∃n ps,ts=[AI n ps]∧WebR n ps∧r=.tup ((CB n ps).map T.int)
theorem YC:FnScope ["web","size"] ["web"] (AA Nk):=⟨rfl,rfl,rfl,by decide+kernel,rfl,by decide+kernel,by decide+kernel⟩
theorem aj{f:Addr}{fd:jv}(F:Fun K "merit_of" "merit_of" Nk f fd)(Tx:Txt mg)(Gs:FnT P w K mg base "shortest" 3 ["web"] KW)(Gm:FnT P w K mg base "shortest_many" 4 ["web"] PJ):FnOk P w K mg base (CXe P w) 5 f fd ["web"] (CC K Ud):=by
 refine AS F YC ?_ ?_
 ·rintro ts O Φ Ξ ⟨r,⟨n,ps,rfl,_⟩,_⟩
  rfl
 ·rintro cdv A outer s H E O Ξ hr xf _ Φ ⟨_,⟨n,ps,rfl,wr,rfl⟩,q⟩
  refine AE (AN 1 (ET.we (AJ Gs (hr.mono (by decide)) xf (AD (ev 0) AB) ⟨n,ps,rfl,wr.wn,rfl⟩) ?_) YC.nd)
  refine AG (AK (ET.we (t:=.tup ((CB n ps).map T.int)) (Ba (ts:=[.int (Km ps),.int (-(IA n ps))]) (AD ?_ (AD (NS (AJ Gm hr xf (AD (ev 0) AB) ⟨n,ps,rfl,wr,rfl⟩)) AB)) (by show 2≤sizeLine;decide)) q))
  unfold Km
  cases e:Mj ps with
  |none=>exact ET.cast (Hb (x:=true) (ta:=.int (16+1)) (tb:=.non) (EB.cast (De (t:=.non) rfl (ET.cast (ev 1) rfl)) rfl) (fun _=>BB (GL Tx.iMP) AC) (fun h=>by cases h)) rfl
  |some k=>exact ET.cast (Hb (x:=false) (ta:=.non) (tb:=.int k) (EB.cast (De (t:=.int k) rfl (ET.cast (ev 1) rfl)) rfl) (fun h=>by cases h) (fun _=>ET.cast (ev 1) rfl)) rfl
noncomputable def YD:Bp:=EX fun ts r=>∃n ps qs,ts=[AI n ps,AI n qs]∧WebR n ps∧WebR n qs∧n≤16∧r=.bl (HT.Ay (CB n ps) (CB n qs))
theorem eY:FnScope ["one","other"] ["one","other"] (AA GV):=⟨rfl,rfl,rfl,by decide+kernel,rfl,by decide+kernel,by decide+kernel⟩
theorem ak{f:Addr}{fd:jv}(F:Fun K "is_better" "is_better" GV f fd)(Gw:FnT P w K mg base "web_good" 4 ["thing"] aU)(Gm:FnT P w K mg base "merit_of" 5 ["web"] Ud):FnOk P w K mg base (CXe P w) 6 f fd ["one","other"] (CC K YD):=by
 refine AS F eY ?_ ?_
 ·rintro ts O Φ Ξ ⟨r,⟨n,ps,qs,rfl,_⟩,_⟩
  rfl
 ·rintro cdv A outer s H E O Ξ hr xf _ Φ ⟨_,⟨n,ps,qs,rfl,w1,w2,n1,rfl⟩,q⟩
  have hu:(A.deeper (m9 "is_better" (AA GV) s.heap.objs.size f cdv)).units<cLine:=by have:=hr.un;omega
  refine AE (Ad (k:=false) (EW.eb (EW.cast (Bh (x:=false) (y:=false) (EB.cast (BH (k:=true) (Bg (AJ Gw (hr.mono (by decide)) xf (AD (ev 0) AB) ⟨n,ps,rfl,w1,n1,rfl⟩))) rfl) fun _=>EW.cast (Bh (x:=false) (y:=false) (EB.cast (BH (k:=true) (Bg (AJ Gw (hr.mono (by decide)) xf (AD (ev 1) AB) ⟨n,qs,rfl,w2,n1,rfl⟩))) rfl) fun _=>Bm (EB.cast (DV (AR (t:=.int n) (ev 0) AC) (AR (t:=.int n) (ev 1) AC)) (by simp))) rfl) rfl)) (fun h=>by cases h) fun _=>AZ ?_)
  exact AG (AK (ET.we (ag hu (AJ Gm hr xf (AD (ev 0) AB) ⟨n,ps,rfl,w1,rfl⟩) (AJ Gm hr xf (AD (ev 1) AB) ⟨n,qs,rfl,w2,rfl⟩)) q))
noncomputable def Pm:Bp:=EX fun ts r=>∃n u,ts=[.tup [.int n,u]]∧n≤8∧r=.non
theorem eZ:FnScope ["web"] ["web"] (AA Zm):=⟨rfl,rfl,rfl,by decide+kernel,rfl,by decide+kernel,by decide+kernel⟩
theorem ao{f:Addr}{fd:jv}(F:Fun K "need_few_to_cross" "need_few_to_cross" Zm f fd)(Tx:Txt mg):FnOk P w K mg base (CXe P w) 1 f fd ["web"] (CC K Pm):=by
 refine AS F eZ ?_ ?_
 ·rintro ts O Φ Ξ ⟨r,⟨n,u,rfl,_⟩,_⟩
  rfl
 ·rintro cdv A outer s H E O Ξ hr xf _ Φ ⟨_,⟨n,u,rfl,n1,rfl⟩,q⟩
  exact AG (Ad (k:=false) (EB.cast (Xc (AR (t:=.int n) (ev 0) AC) (GL Tx.iMC)) (decide_eq_false (by omega))) (fun h=>by cases h) fun _=>AZ q)
noncomputable def aq:Bp:=EX fun ts r=>∃(N:Nat) (ps:List (Int×Int)),ts=[AI (N:Int) ps]∧WebS (N:Int) ps∧r=.lst ((Mf N ps).map AW)
noncomputable def iW:List Str:=["web","found","a","b","c"]
theorem XB:FnScope iW ["web"] (AA Ox):=⟨rfl,rfl,rfl,by decide+kernel,rfl,by decide+kernel,by decide+kernel⟩
theorem ef:(Ak ["e"] [(("a" :Str),2),(("b" :Str),3),(("c" :Str),4),(("web" :Str),0)]).Nodup:=by decide+kernel
theorem fA{f:Addr}{fd:jv}(F:Fun K "all_crossings" "all_crossings" Ox f fd)(Tx:Txt mg)(G:FnT P w K mg base "can_cross" 2 ["web","a","b","c","e"] TR):FnOk P w K mg base (CXe P w) 3 f fd ["web"] (CC K aq):=by
 refine AS F XB ?_ ?_
 ·rintro ts O Φ Ξ ⟨r,⟨N,ps,rfl,_⟩,_⟩
  rfl
 ·rintro cdv A outer s H E O Ξ hr xf _ Φ ⟨_,⟨N,ps,rfl,ws,rfl⟩,q⟩
  have sb:=Ck
  have n1:=ws.n1
  have hl:=ws.hl
  refine AE (AN 1 (Cy (BL ⟨kN _,fun l hlo=>?_⟩)) XB.nd)
  refine AE (Bc Ao.own rfl (EI.wi (DA (AR (t:=.tup (ps.map AF)) (ev 0) AC)) ⟨fun i ρ' O'=>∃v2 v3 v4:Option T,ρ'=[some (AI (N:Int) ps),some (.raw (.ref l)),v2,v3,v4]∧O'=Ap O l ((eX N ps (ps.take i)).map AW),⟨none,none,none,rfl,rfl⟩,?_,?_⟩))
  ·rintro i t _ _ e ⟨v2,v3,v4,rfl,rfl⟩
   rw[e9] at e
   cases ep:ps[i]? with
   |none=>rw[ep] at e;cases e
   |some p=>
    rw[ep] at e
    cases e
    have hP:=ws.hp p (i9 ep)
    unfold AU at hP
    have tl:=Pk (N:=N) (ps:=ps) (qs:=ps.take i) (by omega) fun z hz=>ws.hp z (oD hz)
    rw[j8] at tl
    have gl:=Kn (N:=N) (a:=p.1) hP.1
    refine⟨[some (AI (N:Int) ps),some (.raw (.ref l)),some (.int p.1),some (.int p.2),v4],Bb 2 3 rfl XB.nd (by show 2<5;decide) (by show 3<5;decide),?_⟩
    refine AG (Bc Ao.own rfl (EI.wi (EI.cast (Fc Tx.nRange (BB (ev 2) AC) (AR (t:=.int (N:Int)) (ev 0) AC) ⟨by omega,by omega,by omega,by omega⟩) (show _=(Pg N p.1).map T.int by unfold GD Pg;rw[kv];rfl)) ⟨fun j ρ' O'=>∃v4:Option T,ρ'=[some (AI (N:Int) ps),some (.raw (.ref l)),some (.int p.1),some (.int p.2),v4]∧O'=Ap O l ((eX N ps (ps.take i)++eW N ps p.1 p.2 ((Pg N p.1).take j)).map AW),⟨v4,rfl,by unfold eW;simp⟩,?_,?_⟩))
    ·rintro j t _ _ e ⟨v4,rfl,rfl⟩
     rw[e9] at e
     cases ec:(Pg N p.1)[j]? with
     |none=>rw[ec] at e;cases e
     |some c=>
      rw[ec] at e
      cases e
      have cl:=Pj (N:=N) (ps:=ps) (a:=p.1) (b:=p.2) (cs:=(Pg N p.1).take j) hP.1
      rw[j8] at cl
      have cl2:min j (Pg N p.1).length*N≤16*16:=r9 (by omega) (by omega)
      have el:=Pi (N:=N) (ps:=ps) (a:=p.1) (b:=p.2) (c:=c) hP.1
      refine⟨[some (AI (N:Int) ps),some (.raw (.ref l)),some (.int p.1),some (.int p.2),some (.int c)],AV 4 XB.nd (by show 4<5;decide),?_⟩
      refine AG (BC (JA (ET.we (ev 1) ⟨l,rfl,⟨_,AH⟩,ET.we (t:=.lst ((eV N ps p.1 p.2 c).map AW)) (ET.cast (Dc ["e"] [("a",2),("b",3),("c",4),("web",0)] (Pg N p.1) T.int (fun e=>AW [p.1,p.2,c,e]) (fun e=>Uq ps p.1 p.2 c e) rfl (BV (AA Ox) iW (by decide+kernel)) (EI.cast (Fc Tx.nRange (BB (ev 2) AC) (AR (t:=.int (N:Int)) (ev 0) AC) ⟨by omega,by omega,by omega,by omega⟩) (by unfold GD Pg;rw[kv];rfl)) (by omega) fun e he=> ⟨[some (.int e),some (.int p.1),some (.int p.2),some (.int c),some (AI (N:Int) ps)],fun X' Oe He is O'=>?_⟩) (by unfold eV;rw[kv];rfl)) ⟨_,_,rfl,AH,by simp only[e7,jf];omega,_,rfl,?_⟩⟩)))
      ·obtain⟨cl,s',H',fp,rfl⟩:=is
       exact⟨AV 0 ef (by decide),Bg (AJ G hr By (AD (ev 4) (AD (ev 1) (AD (ev 2) (AD (ev 3) (AD (ev 0) AB))))) ⟨(N:Int),ps,p.1,p.2,c,e,rfl,rfl⟩),fun _=>Ba (ts:=[.int p.1,.int p.2,.int c,.int e]) (AD (ev 1) (AD (ev 2) (AD (ev 3) (AD (ev 0) AB)))) (by show 4≤sizeLine;decide)⟩
      ·rw[BS,←jX,k4,kO,ec]
       unfold eW
       rw[oP]
       congr 4
       simp
    ·rintro _ _ ⟨v4,rfl,rfl⟩
     refine⟨_,_,_,rfl,?_⟩
     rw[e7,kI,kO,ep]
     unfold eX
     rw[oP]
     congr 3
     simp
  ·rintro _ _ ⟨v2,v3,v4,rfl,rfl⟩
   rw[e7,kI]
   refine Bq (p:=l) (n:=1) AH hlo rfl ?_
   rw[BG hlo]
   exact AG (AK (ET.we (ev 1) q))
theorem iE:FnScope ["web"] ["web"] (AA Nl):=⟨rfl,rfl,rfl,by decide+kernel,rfl,by decide+kernel,by decide+kernel⟩
noncomputable def ar:Bp:=EX fun ts r=>∃(N:Nat) (ps:List (Int×Int)),ts=[AI (N:Int) ps]∧WebS (N:Int) ps∧N≤8∧r=.lst ((Mf N ps).map AW)
theorem fB{f:Addr}{fd:jv}(F:Fun K "crossings_of" "crossings_of" Nl f fd)(Gf:FnT P w K mg base "need_few_to_cross" 1 ["web"] Pm)(G:FnT P w K mg base "all_crossings" 3 ["web"] aq):FnOk P w K mg base (CXe P w) 4 f fd ["web"] (CC K ar):=by
 refine AS F iE ?_ ?_
 ·rintro ts O Φ Ξ ⟨r,⟨N,ps,rfl,_⟩,_⟩
  rfl
 ·rintro cdv A outer s H E O Ξ hr xf _ Φ ⟨_,⟨N,ps,rfl,ws,n1,rfl⟩,q⟩
  exact AE (BC (ET.we (AJ Gf (hr.mono (by decide)) xf (AD (ev 0) AB) ⟨(N:Int),_,rfl,by omega,rfl⟩) (AG (AK (ET.we (AJ G hr xf (AD (ev 0) AB) ⟨N,ps,rfl,ws,rfl⟩) q)))))
end
section
variable{P:Program}{w:World}{K:b9}{mg:Str→Option Value}{base:Heap}
noncomputable def fD(N:Nat)(ps:List (Int×Int)):Option (List Int)→T
 |none=> .non
 |some q=> .tup [AW q,AI (N:Int) (IW N ps q)]
noncomputable def au:Bp:=EX fun ts r=>∃(N:Nat) (ps:List (Int×Int)),ts=[AI (N:Int) ps]∧WebS (N:Int) ps∧r=fD N ps (Qy N ps)
noncomputable def jV:List Str:=["web","merit","a","b","c","e","other"]
theorem XC:FnScope jV ["web"] (AA KH):=⟨rfl,rfl,rfl,by decide+kernel,rfl,by decide+kernel,by decide+kernel⟩
theorem Qr{α:Type}{f:α→Bool}{L:List α}{i:Nat}{x:α}(h:L[i]?=some x)(no:∀y∈L.take i,f y=false)(hx:f x=true):L.find? f=some x:=by
 have e:L=L.take i++x::L.drop (i+1):=by
  rw[←kU i L]
  have hl:=(jc.mp h).1
  congr 1
  ·rw[kU]
  ·rw[kU,mJ hl,(jc.mp h).2]
 rw[e,List.find?_append,pe.mpr fun y hy=>by rw[no y hy];exact i5,List.find?_cons,hx]
 rfl
theorem fE{f:Addr}{fd:jv}(F:Fun K "first_better" "first_better" KH f fd)(Gm:FnT P w K mg base "merit_of" 5 ["web"] Ud)(Ga:FnT P w K mg base "all_crossings" 3 ["web"] aq)(Ge:FnT P w K mg base "exchanged" 3 ["web","a","b","c","e"] Nq):FnOk P w K mg base (CXe P w) 6 f fd ["web"] (CC K au):=by
 refine AS F XC ?_ ?_
 ·rintro ts O Φ Ξ ⟨r,⟨N,ps,rfl,_⟩,_⟩
  rfl
 ·rintro cdv A outer s H E O Ξ hr xf _ Φ ⟨_,⟨N,ps,rfl,ws,rfl⟩,q⟩
  have hu:(A.deeper (m9 "first_better" (AA KH) s.heap.objs.size f cdv)).units<cLine:=by have:=hr.un;omega
  have n0:=ws.n0
  have n1:=ws.n1
  have wr:=ws.r
  refine AE (AN 1 (ET.we (AJ Gm hr xf (AD (ev 0) AB) ⟨(N:Int),ps,rfl,wr,rfl⟩) ?_) XC.nd)
  refine AE (Bc Ao.own rfl (EI.wi (Am (AJ Ga (hr.mono (by decide)) xf (AD (ev 0) AB) ⟨N,ps,rfl,ws,rfl⟩)) ⟨fun i ρ' O'=>∃v2 v3 v4 v5 v6:Option T,ρ'=[some (AI (N:Int) ps),some (.tup ((CB (N:Int) ps).map T.int)),v2,v3,v4,v5,v6]∧O=O'∧∀y∈(Mf N ps).take i,HT.Ay (CB N (IW N ps y)) (CB N ps)=false,⟨none,none,none,none,none,rfl,rfl,by simp⟩,?_,?_⟩))
  ·rintro i t _ _ e ⟨v2,v3,v4,v5,v6,rfl,rfl,no⟩
   rw[e9] at e
   cases ex:(Mf N ps)[i]? with
   |none=>rw[ex] at e;cases e
   |some x=>
    rw[ex] at e
    cases e
    obtain⟨a,b,c,d,rfl,inn,crs⟩:=IG ws.hp (i9 ex)
    refine⟨[some (AI (N:Int) ps),some (.tup ((CB (N:Int) ps).map T.int)),some (.int a),some (.int b),some (.int c),some (.int d),v6],Kl 2 3 4 5 rfl XC.nd (by show 2<7;decide) (by show 3<7;decide) (by show 4<7;decide) (by show 5<7;decide),?_⟩
    refine AE (AN 6 (Al Ge (hr.mono (by decide)) xf (EA.wa (AD (ev 0) (AD (ev 2) (AD (ev 3) (AD (ev 4) (AD (ev 5) AB))))) ⟨(N:Int),ps,a,b,c,d,rfl,ws.hl,ws.a.inb,?_,fun rs r1 r2 _=>?_⟩)) XC.nd)
    ·intro z hz
     simp only[i6,jk,or_false] at hz
     have:=inn.a
     have:=inn.b
     have:=inn.c
     have:=inn.e
     rcases hz with rfl|rfl|rfl|rfl<;>omega
    ·have e2:rs=IW N ps [a,b,c,d]:=Kg (US ws.hp inn crs) r1 r2
     subst e2
     have ws':WebS (N:Int) (IW N ps [a,b,c,d]):=Kh (by omega) (by omega)
     refine AG (Ad (k:=HT.Ay (CB N (IW N ps [a,b,c,d])) (CB N ps)) (ah hu (AJ Gm hr xf (AD (ev 6) AB) ⟨(N:Int),_,rfl,ws'.r,rfl⟩) (ev 1)) (fun h=>?_) (fun h=>AZ ?_))
     ·have e3:Qy N ps=some [a,b,c,d]:=Qr ex no h
      rw[e3] at q
      exact AG (AK (ET.we (Ba (ts:=[AW [a,b,c,d],AI (N:Int) (IW N ps [a,b,c,d])]) (AD (Ba (ts:=[.int a,.int b,.int c,.int d]) (AD (ev 2) (AD (ev 3) (AD (ev 4) (AD (ev 5) AB)))) (by show 4≤sizeLine;decide)) (AD (ev 6) AB)) (by show 2≤sizeLine;decide)) q))
     ·refine⟨_,_,_,_,_,rfl,rfl,fun y hy=>?_⟩
      rw[kO,ex] at hy
      rcases ju.mp hy with hy|hy
      ·exact no y hy
      ·have:y=[a,b,c,d]:=by simpa using hy
       rw[this]
       exact h
  ·rintro _ _ ⟨v2,v3,v4,v5,v6,rfl,rfl,no⟩
   rw[e7,kI] at no
   have e3:Qy N ps=none:=pe.mpr fun y hy=>by rw[no y hy];exact i5
   rw[e3] at q
   exact AG (AK (ET.we EK q))
noncomputable def fF:Option (List Int)→T
 |none=> .non
 |some q=>AW q
noncomputable def fG:Bp:=EX fun ts r=>∃(N:Nat) (ps:List (Int×Int)),ts=[AI (N:Int) ps]∧WebS (N:Int) ps∧N≤8∧r=fF (Qy N ps)
theorem fH:FnScope ["web","found"] ["web"] (AA Sy):=⟨rfl,rfl,rfl,by decide+kernel,rfl,by decide+kernel,by decide+kernel⟩
theorem fI{f:Addr}{fd:jv}(F:Fun K "better_crossing" "better_crossing" Sy f fd)(Gf:FnT P w K mg base "need_few_to_cross" 1 ["web"] Pm)(G:FnT P w K mg base "first_better" 6 ["web"] au):FnOk P w K mg base (CXe P w) 7 f fd ["web"] (CC K fG):=by
 refine AS F fH ?_ ?_
 ·rintro ts O Φ Ξ ⟨r,⟨N,ps,rfl,_⟩,_⟩
  rfl
 ·rintro cdv A outer s H E O Ξ hr xf _ Φ ⟨_,⟨N,ps,rfl,ws,n1,rfl⟩,q⟩
  refine AE (BC (ET.we (AJ Gf (hr.mono (by decide)) xf (AD (ev 0) AB) ⟨(N:Int),_,rfl,by omega,rfl⟩) ?_))
  refine AE (AN 1 (ET.we (AJ G hr xf (AD (ev 0) AB) ⟨N,ps,rfl,ws,rfl⟩) ?_) fH.nd)
  cases e:Qy N ps with
  |none=>
   rw[e] at q
   exact AG (AK (ET.we (ET.cast (Hb (x:=true) (ta:=.non) (tb:=.non) (EB.cast (De (t:=.non) rfl (ev 1)) rfl) (fun _=>EK) (fun h=>by cases h)) rfl) q))
  |some x=>
   rw[e] at q
   exact AG (AK (ET.we (ET.cast (Hb (x:=false) (ta:=.non) (tb:=AW x) (EB.cast (De (t:=.tup [AW x,AI (N:Int) (IW N ps x)]) rfl (ev 1)) rfl) (fun h=>by cases h) (fun _=>AR (t:=AW x) (ev 1) AC)) rfl) q))
noncomputable def iF(N:Nat)(W:List (List (Int×Int))):Prop:=∀i x y,W[i]?=some x→W[i+1]?=some y→∃q,Qy N x=some q∧y=IW N x q
structure Clm(N:Nat)(ps:List (Int×Int))(W:List (List (Int×Int)))(cur:List (Int×Int)):Prop where
 hd:W.head?=some ps
 lst:W.getLast?=some cur
 pa:iF N W
 ok:∀x∈W,WebS (N:Int) x
theorem OH{N:Nat}{ps:List (Int×Int)}(ws:WebS (N:Int) ps){q:List Int}(h:Qy N ps=some q):WebS (N:Int) (IW N ps q)∧IX (N:Int) (IW N ps q)<IX (N:Int) ps:=by
 have n0:=ws.n0
 have n1:=ws.n1
 obtain⟨hm,hg⟩:=Pl h
 have w':WebS (N:Int) (IW N ps q):=Kh (by omega) (by omega)
 exact⟨w',ai ws.r w'.r n1 hg⟩
theorem Clm.more{N:Nat}{ps cur:List (Int×Int)}{W:List (List (Int×Int))}(c:Clm N ps W cur){q:List Int}(h:Qy N cur=some q):Clm N ps (W++[IW N cur q]) (IW N cur q):=by
 have wc:=c.ok cur (lJ c.lst)
 refine⟨?_,List.getLast?_concat ..,fun i x y hx hy=>?_,fun x hx=>?_⟩
 ·rw[pP,c.hd]
  rfl
 ·by_cases hi:i+1<W.length
  ·rw[jz (by omega)] at hx
   rw[jz hi] at hy
   exact c.pa i x y hx hy
  ·have hl:=(jc.mp hy).1
   rw[jf,ow] at hl
   have e:i+1=W.length:=by omega
   rw[e,List.getElem?_concat_length] at hy
   rw[jz (by omega)] at hx
   have hc:=c.lst
   rw[List.getLast?_eq_getElem?,show W.length-1=i by omega,hx] at hc
   cases hc
   cases hy
   exact⟨q,h,rfl⟩
 ·rcases ju.mp hx with hx|hx
  ·exact c.ok x hx
  ·rw[jd.mp hx]
   exact(OH wc h).1
theorem av{n:Int}{ps:List (Int×Int)}(wr:WebR n ps)(n1:n≤16):IX n ps≤2500000:=by
 have:=OG wr
 have:=Kq wr n1
 unfold IX
 omega
noncomputable def YE:Bp:=fun ts O Φ _=>∃(N:Nat) (ps:List (Int×Int)),ts=[AI (N:Int) ps]∧WebS (N:Int) ps∧N≤8∧∀W cur,Clm N ps W cur→Qy N cur=none→W.length≤3000000→Φ (.lst (W.map (AI (N:Int)))) O
theorem Pn:FnScope ["web","webs","found"] ["web"] (AA Nm):=⟨rfl,rfl,rfl,by decide+kernel,rfl,by decide+kernel,by decide+kernel⟩
theorem aw{f:Addr}{fd:jv}(F:Fun K "climbed" "climbed" Nm f fd)(Gf:FnT P w K mg base "need_few_to_cross" 1 ["web"] Pm)(G:FnT P w K mg base "first_better" 6 ["web"] au):FnOk P w K mg base (CXe P w) 7 f fd ["web"] (CC K YE):=by
 refine AS F Pn ?_ ?_
 ·rintro ts O Φ Ξ ⟨N,ps,rfl,_⟩
  rfl
 ·rintro cdv A outer s H E O Ξ hr xf _ Φ ⟨N,ps,rfl,ws,n1,q⟩
  have sb:=Ck
  have m0:=av ws.r (by omega)
  refine AE (BC (ET.we (AJ Gf (hr.mono (by decide)) xf (AD (ev 0) AB) ⟨(N:Int),_,rfl,by omega,rfl⟩) ?_))
  refine AE (AN 1 (Cy (EA.wa (AD (ev 0) AB) ⟨by show 1≤sizeLine;decide,fun l hl=>?_⟩)) Pn.nd)
  refine AE (AN 2 (ET.we (AJ G hr xf (AD (ev 0) AB) ⟨N,ps,rfl,ws,rfl⟩) ?_) Pn.nd)
  refine AE (Lq Ao.own (fun m ρ' O'=>∃(W:List (List (Int×Int))) (cur:List (Int×Int)),m=IX (N:Int) cur∧Clm N ps W cur∧W.length+IX (N:Int) cur≤IX (N:Int) ps+1∧ρ'=[some (AI (N:Int) ps),some (.raw (.ref l)),some (fD N cur (Qy N cur))]∧O'=Ap O l (W.map (AI (N:Int)))) ⟨_,[ps],ps,rfl,⟨rfl,rfl,(fun i x y _ hy=>by cases hy),(fun x hx=>by rw[jd.mp hx];exact ws)⟩,by rw[ow];omega,rfl,rfl⟩ ?_)
  rintro m _ _ ⟨W,cur,rfl,c,hb,rfl,rfl⟩
  have wc:=c.ok cur (lJ c.lst)
  cases e:Qy N cur with
  |none=>
   refine(EB.cast (GZ (t:=.non) rfl (ev 2)) rfl:EB _ _ _ _ false) _ (Rb ?_)
   refine Bq (p:=l) (n:=1) AH hl rfl ?_
   rw[BG hl]
   exact AG (AK (ET.we (ev 1) (q W cur c e (by omega))))
  |some x=>
   have fw:=OH wc e
   refine(EB.cast (GZ (t:=.tup [AW x,AI (N:Int) (IW N cur x)]) rfl (ev 2)) rfl:EB _ _ _ _ true) _ (JX ?_)
   refine AE (BC (Cg (ET.we (ev 1) ⟨l,rfl,⟨_,AH⟩,ET.we (AR (t:=AI (N:Int) (IW N cur x)) (ev 2) AC) ⟨_,AH,by rw[e7];omega,?_⟩⟩)))
   refine AG (AN 2 (ET.we (AJ G hr xf (AD (AR (t:=AI (N:Int) (IW N cur x)) (ev 2) AC) AB) ⟨N,IW N cur x,rfl,fw.1,rfl⟩) ?_) Pn.nd)
   exact⟨_,fw.2,W++[IW N cur x],IW N cur x,rfl,c.more e,by rw[jf,ow];omega,rfl,by rw[BS,jX];rfl⟩
end
end K58
namespace ZpT
open PySem PySem.Spec PyProof.Rows
section
variable{prog:Program}{w:World}{A:js}{E:Value→c9→Prop}{s:c9}
theorem Qs{t u:Addr}{xs ys:Array Value}{Q:Value→c9→Prop}(ht:s.heap.IsList t xs)(hu:s.heap.IsList u ys)
  (h:∀h' n,n=s.heap.objs.size→IsZip h' (n+4) (n+2) (n+3) .none→mW h' (n+2) (.ref n) (.ref (n+1))→mW h' (n+3) .none .none→h'.IsListIter n t 0→h'.IsListIter (n+1) u 0→
   (∀c o,s.heap.get? c=some o→h'.get? c=some o)→Q (.ref (n+4)) {s with heap:=h'}):wpAny (model prog w) A (call (.type "zip") [.ref t,.ref u]) Q E s:=by
 have M:Meets (Builtin.«zip.__new__» ⟨[.type "zip",.ref t,.ref u],[]⟩) (fun _ R s=>s.heap.IsList t xs∧s.heap.IsList u ys∧
   ∀h',h'=((((s.heap.push {cls:=.type "list_iterator",data:=.fields #[.ref t,.int 0 0]}).push {cls:=.type "list_iterator",data:=.fields #[.ref u,.int 0 0]}).push {cls:=.type "tuple",data:=.seq #[.ref s.heap.objs.size,.ref (s.heap.objs.size+1)]}).push {cls:=.type "tuple",data:=.seq #[.none,.none]}).push
     {cls:=.type "zip",data:=.fields #[.none,.bool false,.bool false,.ref (s.heap.objs.size+2),.ref (s.heap.objs.size+3)]}→R (.ok (.ret (.ref (s.heap.objs.size+4)))) {s with heap:=h'}):=
  .of_wp fun prog w A R s h=>by
   obtain⟨hp,g,d,tk,os⟩:=s
   obtain⟨hl1,hl2,h⟩:=h
   have hsub:=sub_zip
   have hL1:Heap.IsList (rX ⟨hp,g,d,tk,os⟩) t xs:=hl1
   have hL2:Heap.IsList (rX ⟨hp.push {cls:=.type "list_iterator",data:=.fields #[.ref t,.int 0 0]},g,d,tk,os⟩) u ys:=hl2.at fun o e=>e8 _ e
   wp_walk using nE hL1,nE hL2
   simp only[k7] at h ⊢
   exact⟨_,rfl,h _ rfl⟩
 refine callType_new PySem.F.called_zip (by decide) (PySem.F.typeCall_zip_2 _ _) (PySem.F.newCall_zip_2 _ _) (fun obj=>PySem.F.args_object_init_3 obj _ _) PySem.F.entry_zip_new M ⟨ht,hu,?_⟩
 rintro h' rfl
 have sz:∀(h:Heap) (o:Obj),(h.push o).objs.size=h.objs.size+1:=fun h o=>k7 ..
 have up:∀{h:Heap} {c:Addr} {o o':Obj},h.get? c=some o→(h.push o').get? c=some o:=fun e=>e8 _ e
 have g0:∀(h:Heap) (o:Obj) (n:Nat),h.objs.size=n→o.isFreed=false→(h.push o).get? n=some o:=fun h o n e f=>by rw[←e];exact jq _ f
 refine⟨⟨_,g0 _ _ _ (by simp[sz]) rfl,rfl⟩,h _ _ rfl (g0 _ _ _ (by simp[sz]) rfl) (up (up (g0 _ _ _ (by simp[sz]) rfl))) (up (g0 _ _ _ (by simp[sz]) rfl)) ⟨_,up (up (up (up (g0 _ _ _ rfl rfl)))),rfl,rfl⟩ ⟨_,up (up (up (g0 _ _ _ (by simp[sz]) rfl))),rfl,rfl⟩ fun c o e=>up (up (up (up (up e))))⟩
end
end ZpT
namespace L2
open PySem PySem.Spec PyProof.Rows
theorem Cn{h:Heap}{a:Addr}{its:Array Value}(p:PlainL h a its):h.IsList a its:=by
 obtain⟨o,n,e1,e2,_,e3⟩:=p
 exact⟨o,e1,e2,n,e3⟩
noncomputable def ay(K:b9)(t u:Addr):It:=⟨fun i H=>∃xs ys x y,CM K H t xs∧CM K H u ys∧xs[i]?=some x∧ys[i]?=some y,
 fun i H v H'=>∃p x y,H p=none∧v=.ref p∧H'=upd H p (.tup [x,y])∧(∀xs,CM K H t xs→xs[i]?=some x)∧∀ys,CM K H u ys→ys[i]?=some y,fun i H=>∃xs ys,CM K H t xs∧CM K H u ys∧(xs.length≤i∨ys.length≤i)⟩
section
variable{X:Cx}
theorem Qt{P:Program}{w:World}{K:b9}{es:List Expr}{k:Nat}{pos:Pos}{z TI TO i1 i2 t u:Addr}(D:rW z TI TO i1 i2 t u):
  Turn P w K (.Tuple es k pos) (ay K t u) [z,TI,TO,i1,i2] z (fun i h=>IsZip h z TI TO .none∧mW h TI (.ref i1) (.ref i2)∧(∃a b,mW h TO a b)∧h.IsListIter i1 t i∧h.IsListIter i2 u i) where
 mem:=by simp
 obj:=fun i h st b hb=>by
  obtain⟨s1,s2,⟨a,c,s3⟩,⟨o4,e4,c4,d4⟩,⟨o5,e5,c5,d5⟩⟩:=st
  simp only[i6,jk,or_false] at hb
  rcases hb with rfl|rfl|rfl|rfl|rfl
  ·exact⟨_,s1,fun v q=>by have q:tI _=qA v:=q;cases q⟩
  ·exact⟨_,s2,fun v q=>by have q:tm _ _=qA v:=q;cases q⟩
  ·exact⟨_,s3,fun v q=>by have q:tm _ _=qA v:=q;cases q⟩
  ·exact⟨o4,e4,fun v q=>by rw[d4] at q;cases q⟩
  ·exact⟨o5,e5,fun v q=>by rw[d5] at q;cases q⟩
 keep:=fun i h h' st kk=>by
  obtain⟨s1,s2,⟨a,c,s3⟩,s4,s5⟩:=st
  exact⟨kk z (by simp) _ s1,kk TI (by simp) _ s2,⟨a,c,kk TO (by simp) _ s3⟩,s4.at fun o e=>kk i1 (by simp) o e,s5.at fun o e=>kk i2 (by simp) o e⟩
 item:=by
  intro X hP hw hK hc i pins s σ H E I hf st hg
  subst hP hw hK
  obtain⟨xs,ys,x,y,hq1,hq2,hx,hy⟩:=hg
  obtain⟨its,rv,p,hz⟩:=I.list hq1
  have p:=Cn p
  obtain⟨its2,rv2,p2,hz2⟩:=I.list hq2
  have p2:=Cn p2
  obtain⟨a,ha,ra⟩:=rv.get hx
  obtain⟨b,hb,rb⟩:=rv2.get hy
  obtain⟨s1,s2,⟨c,d,s3⟩,s4,s5⟩:=st
  refine ZpT.Dl D (ZpT.GK i1 t D.l1i1 its.toArray) (ZpT.GK i2 u D.l2i2 its2.toArray) s1 s2 s3 ⟨s4,p⟩ ⟨s5,p2⟩ (by simpa using ha) (by simpa using hb) fun h1 z1 to1 a1 a2 n1 k1=>?_
  refine⟨_,rfl,wpAny_letOwnedTupleGo_zip (s:={s with heap:=h1}) z1 fun h2 z2 sb2=>?_⟩
  have hlt:∀v o,s.heap.get? v=some o→v≠s.heap.objs.size:=fun v o e=>jY (je e)
  have zs:z≠s.heap.objs.size:=hlt z _ s1
  have up2:∀v o,v≠z→h1.get? v=some o→h2.get? v=some o:=fun v o hv e=> (sb2.2 v hv).trans e
  have hT:H s.heap.objs.size=none:=I.hok.fresh (jb _)
  have kk:∀v o,v∉[z,TI,TO,i1,i2]→s.heap.get? v=some o→h2.get? v=some o:=fun v o hv e=>by
   simp only[i6,jk,or_false,not_or] at hv
   exact up2 v o hv.1 (k1 v o hv.1 hv.2.2.1 hv.2.2.2.1 hv.2.2.2.2 e)
  have I1:Inv X pins σ (upd H s.heap.objs.size (.tup [x,y])) {s with heap:=h2}:=by
   have ne:∀v o,s.heap.get? v=some o→upd H s.heap.objs.size (.tup [x,y]) v=H v:=fun v o e=>AO (hlt v o e)
   refine I.call' (s':={s with heap:=h2}) (ch:=[z,TI,TO,i1,i2]) rfl ⟨fun v o e _ _ hv=>kk v o hv e,fun v o e _ _ hv=> ⟨o.slots,kk v o hv e⟩,fun v o e n _=>by rw[ne v o e];exact n,fun v o e hv=> ⟨o,kk v o hv e⟩,fun v xs e=>?_,fun v o xs e=>?_,fun v ps e=>?_⟩ ?_ I.bare fun v hv=>?_
   ·rw[AO (AL e hT)];exact e
   ·rw[AO (AL e hT)];exact e
   ·exact⟨#[],by rw[AO (AL e hT),e];simp⟩
   ·intro v o e
    by_cases hv:v=s.heap.objs.size
    ·subst hv
     rw[AY] at e;cases e
     exact⟨by show 2≤sizeLine;decide,[a,b],.cons ra (.cons rb .nil),⟨_,up2 _ _ (Ne.symm zs) n1,rfl,_,rfl⟩⟩
    ·rw[AO hv] at e
     refine(I.hok v o e).stay (fun c w' hc' q=>kk c w' (fun hm=>?_) q) (fun c q=>by rw[AO (AL q hT)];exact q) fun c xs q=>by rw[AO (AL q hT)];exact q
     have hn:=(hf c hm).1
     rcases hc' with rfl|hc'
     ·rw[e] at hn;cases hn
     ·rw[hc'] at hn;cases hn
   ·obtain⟨_,q2,q3,q4,q5,q6⟩:=hf v hv
    exact⟨q4,q2,q5,q6⟩
  refine⟨.ref s.heap.objs.size,_,I1,rfl,⟨_,x,y,hT,rfl,rfl,fun xs' q=>by rw[I.list_inj q hq1];exact hx,fun ys' q=>by rw[I.list_inj q hq2];exact hy⟩,⟨z2,up2 TI _ D.TIz (k1 TI _ D.TIz D.TITO D.TIi1 D.TIi2 s2),⟨_,_,up2 TO _ D.TOz to1⟩,a1.1.at fun o e=>up2 i1 o D.i1z e,a2.1.at fun o e=>up2 i2 o D.i2z e⟩,fun v hv=>?_⟩
  have hvo:∃o,s.heap.get? v=some o:=by
   simp only[i6,jk,or_false] at hv
   rcases hv with rfl|rfl|rfl|rfl|rfl
   ·exact⟨_,s1⟩
   ·exact⟨_,s2⟩
   ·exact⟨_,s3⟩
   ·obtain⟨o,e,_⟩:=s4;exact⟨o,e⟩
   ·obtain⟨o,e,_⟩:=s5;exact⟨o,e⟩
  obtain⟨o,e⟩:=hvo
  rw[AO (hlt v o e)]
  exact(hf v hv).1
 done:=by
  intro X hP hw hK hc i pins s σ H E I hf st hg
  subst hP hw hK
  obtain⟨xs,ys,hq1,hq2,hl⟩:=hg
  obtain⟨its,rv,p,hz⟩:=I.list hq1
  have p:=Cn p
  obtain⟨its2,rv2,p2,hz2⟩:=I.list hq2
  have p2:=Cn p2
  have l1:=rv.length
  have l2:=rv2.length
  obtain⟨s1,s2,⟨c,d,s3⟩,s4,s5⟩:=st
  refine ZpT.Ei (I.ok.hd hc) D (ZpT.GK i1 t D.l1i1 its.toArray) (ZpT.GK i2 u D.l2i2 its2.toArray) s1 s2 s3 ⟨s4,p⟩ ⟨s5,p2⟩ (hl.imp (fun q=>by simp;omega) fun q=>by simp;omega) fun h' k1=> ⟨rfl,I.turns (t':=s.toks) hf fun v o hv e=>?_⟩
  simp only[i6,jk,or_false,not_or] at hv
  exact k1 v o hv.1 hv.2.2.1 hv.2.2.2.1 hv.2.2.2.2 e
 self:=fun _ _ _ _ _ st h=>pU st.1 h
noncomputable def fJ(K:b9)(ta:TA):TI:=fun σ H R=>ta σ H fun vs H1=>∃t u,vs=[.ref t,.ref u]∧(∃xs,CM K H1 t xs)∧(∃ys,CM K H1 u ys)∧R (ay K t u) H1
theorem XD{a b:Expr}{ta:TA}{p pos tpos:Pos}{es:List Expr}{k:Nat}(hg:Gl X "zip")(hm:X.mg "zip" =none)(ha:PA X [a,b] ta)(hs:i7 [a,b] X.env=[(false,eval a X.env),(false,eval b X.env)]:=by rfl)(hs2:i7 [b] X.env=[(false,eval b X.env)]:=by rfl):
  PI X (.Tuple es k tpos) (.Call (.Name "zip" p) [a,b] [] pos) (fJ X.K ta):=by
 intro pins s σ H R I h
 refine Call_ (DQ I hg hm LZ (my (Az (ha pos pins s σ H _ I h) fun us s1 ⟨vs,H1,I1,r1,q1⟩=>?_) (by rw[hs,hs2]) (by rw[hs2];rfl)))
 obtain⟨t,u,rfl,⟨xs,h1⟩,⟨ys,h2⟩,q⟩:=q1
 obtain⟨v1,v2,rfl,e1,e2⟩:=Ia r1
 cases e1;cases e2
 obtain⟨its,rv,p1,_⟩:=I1.list h1
 have p1:=Cn p1
 obtain⟨its2,rv2,p2,_⟩:=I1.list h2
 have p2:=Cn p2
 have a1:t<s1.heap.objs.size:=by obtain⟨_,e,_⟩:=p1;exact je e
 have a2:u<s1.heap.objs.size:=by obtain⟨_,e,_⟩:=p2;exact je e
 refine ZpT.Qs (xs:=its.toArray) (ys:=its2.toArray) p1 p2 fun h' n hn z1 z2 z3 z4 z5 kp=>?_
 subst hn
 refine pU z1 ?_
 refine⟨_,_,_,_,H1,rfl,I1.kept (t':=s1.toks) kp,Qt (zipApart_new a1 a2),⟨z1,z2,⟨_,_,z3⟩,z4,z5⟩,fun b hb=>?_,q⟩
 have hge:s1.heap.objs.size≤b:=by
  simp only[i6,jk,or_false] at hb
  rcases hb with rfl|rfl|rfl|rfl|rfl<;>omega
 exact I1.fpOk hge (I1.hok.fresh hge)
end
end L2
namespace L2.TL
open PySem PySem.Spec PyProof.Rows
section
variable{Z:Zx}{ρ:List (Option T)}{O:AM}{e a b c:Expr}{es:List Expr}{Φ:Bf}{pos p p2:Pos}{t ta tb:T}{ts us:List T}{i j:Int}{x:Str}{lo hi:Expr}
theorem Qu{K:b9}{H:Hp}{l m:Addr}{xs ys:List V}(ok:OwnOk K O H)(h1:H l=some (.lst xs))(h2:H m=some (.lst ys))(o1:O l=none)(o2:O m=none)(r1:Reps K O H xs ts)(r2:Reps K O H ys us):Lk K (ay K l m) O H (Er ts us):=fun O' H' k ok'=>by
 have g1:CM K H' l xs:=.inl (.inl (k.lst h1 o1).1)
 have g2:CM K H' m ys:=.inl (.inl (k.lst h2 o2).1)
 have q1:=r1.kp k ok
 have q2:=r2.kp k ok
 have hl:(Er ts us).length=min ts.length us.length:=by simp[Er]
 refine⟨fun i hi=>?_,fun i x H'' y t e=>?_,fun i hi=> ⟨xs,ys,g1,g2,?_⟩⟩
 ·rw[hl] at hi
  obtain⟨v,e1,_⟩:=q1.get (i:=i) (t:=ts[i]'(by omega)) (by simp)
  obtain⟨w,e2,_⟩:=q2.get (i:=i) (t:=us[i]'(by omega)) (by simp)
  exact⟨xs,ys,v,w,g1,g2,e1,e2⟩
 ·obtain⟨p,v,w,hp,rfl,rfl,a1,a2⟩:=y
  unfold Er at e
  rw[pT] at e
  cases et:ts[i]? with
  |none=>rw[et] at e;cases e
  |some t1=>
   cases eu:us[i]? with
   |none=>rw[et,eu] at e;cases e
   |some t2=>
    rw[et,eu] at e
    have e:T.tup [t1,t2]=t:=ki.inj e
    subst e
    obtain⟨v',e1,rv⟩:=q1.get et
    obtain⟨w',e2,rw'⟩:=q2.get eu
    have z1:=a1 xs g1
    have z2:=a2 ys g2
    rw[e1] at z1;cases z1
    rw[e2] at z2;cases z2
    exact⟨.new ok' hp,.tup AY ((Reps.cons rv (.one rw')).kp (BZ ok' hp) ok')⟩
 ·rw[hl] at hi
  rw[r1.length,r2.length]
  omega
theorem XE{tes:List Expr}{tk:Nat}{tpos:Pos}(hm:Z.X.mg "zip" =none)(h1:ET Z ρ O a (.lst ts))(h2:ET Z ρ O b (.lst us))(hg:Gl Z.X "zip":=by rfl)(hs:i7 [a,b] Z.X.env=[(false,eval a Z.X.env),(false,eval b Z.X.env)]:=by rfl)(hs2:i7 [b] Z.X.env=[(false,eval b Z.X.env)]:=by rfl):EI Z ρ O (.Tuple tes tk tpos) (.Call (.Name "zip" p) [a,b] [] pos) (Er ts us):=fun Φ q=>
 PI.weak (XD hg hm (AQ h1 (AQ h2 AB hs2) (by rw[hs,hs2]) (fun vs O'=>vs=[.lst ts,.lst us]∧O'=O) ⟨rfl,rfl⟩) hs hs2) fun σ H R k=> ⟨k.1,by
  rintro vs H' _ _ ⟨rfl,rfl⟩ f r
  obtain⟨v,w,rfl,r1,r2⟩:=r.two_inv
  obtain⟨l,xs,rfl,g1,o1,r1⟩:=r1.lst_inv
  obtain⟨m,ys,rfl,g2,o2,r2⟩:=r2.lst_inv
  exact⟨l,m,rfl,⟨xs,.inl (.inl g1)⟩,⟨ys,.inl (.inl g2)⟩,k.2 _ H' _ _ q f (Qu f.ok g1 g2 o1 o2 r1 r2)⟩⟩
end
end L2.TL
namespace K58
open PySem L2 L2.TL PySem.Spec PyProof.Rows
section
variable{P:Program}{w:World}{K:b9}{mg:Str→Option Value}{base:Heap}
noncomputable def CK(N:Nat)(ps:List (Int×Int)):List Int:=(j6 N).map fun(i:Nat)=> (BW ps i:Int)
noncomputable def Po:Bp:=EX fun ts r=>∃(N:Nat) (ps:List (Int×Int)),ts=[AI (N:Int) ps]∧WebS (N:Int) ps∧r=.lst ((CK N ps).map T.int)
theorem fK:FnScope ["_law_web"] ["_law_web"] (AA GW):=⟨rfl,rfl,rfl,by decide+kernel,rfl,by decide+kernel,by decide+kernel⟩
theorem fL:(Ak ["_law_place"] [(("_law_web" :Str),0)]).Nodup:=by decide+kernel
theorem az{f:Addr}{fd:jv}(F:Fun K "_law_counts" "_law_counts" GW f fd)(Tx:Txt mg)(G:FnT P w K mg base "near_of" 4 ["web","place"] aT):FnOk P w K mg base (CXe P w) 5 f fd ["_law_web"] (CC K Po):=by
 refine AS F fK ?_ ?_
 ·rintro ts O Φ Ξ ⟨r,⟨N,ps,rfl,_⟩,_⟩
  rfl
 ·rintro cdv A outer s H E O Ξ hr xf _ Φ ⟨_,⟨N,ps,rfl,ws,rfl⟩,q⟩
  have sb:=AX
  have n1:=ws.n1
  refine AG (AK (ET.we (t:=.lst ((CK N ps).map T.int)) (ET.cast (BM ["_law_place"] [("_law_web",0)] (j6 N) (fun(i:Nat)=>T.int ((i:Nat):Int)) (fun(i:Nat)=> .int (BW ps i:Int)) rfl (BV (AA GW) ["_law_web"] (by decide+kernel)) (EI.cast (BF Tx.nRange (AR (t:=.int (N:Int)) (ev 0) AC) ⟨by omega,by omega⟩) (by unfold GD;simp)) (by rw[lG];omega) fun x hx=> ⟨[some (.int (x:Int)),some (AI (N:Int) ps)],fun X' Oe He is O'=>?_⟩) (by unfold CK;rw[kv];rfl)) q))
  obtain⟨cl,s',H',fp,rfl⟩:=is
  have hx:=ke.mp hx
  exact⟨AV 0 fL (by decide),ET.cast (Ep Tx.nLen (AJ G hr By (AD (ev 1) (AD (ev 0) AB)) ⟨(N:Int),ps,x,rfl,ws.n,by omega,rfl⟩)) (by rw[e7,UU])⟩
theorem Ue{N:Nat}{ps:List (Int×Int)}{p p':Int×Int}(t:TwoT N ps p p'):CK (N+2) (EY N ps p p')=CK N ps++[3,3]:=by
 unfold CK
 rw[rN,rN,jX,jX,k4]
 congr 1
 ·exact nQ fun i hi=>by rw[Wy t (ke.mp hi)]
 ·simp only[jr,mP,oK,List.nil_append]
  rw[Pc t (.inl rfl),Pc t (.inr rfl)]
  rfl
theorem Mh{N:Nat}{ps:List (Int×Int)}:Bv (N:Int) ps=CK N ps:=by
 unfold Bv CK
 rw[kH]
 exact nQ fun i _=>by rw[UU]
theorem Ug{cs:List Int}(h:kr (dT (Tc cs)) (dT (.int 3))=true):∀c∈cs,c=3:=by
 unfold Tc at h
 by_cases e:cs.all (fun c=>decide (c=cs.headD 0))=true
 ·rw[if_pos e] at h
  have h3:cs.headD 0=3:=by
   have h:(cs.headD 0==(3:Int))=true:=h
   exact eq_of_beq h
  intro c hc
  have:=of_decide_eq_true (lP.mp e c hc)
  omega
 ·rw[if_neg e] at h
  cases h
theorem bA{c:Int}{cs:List Int}(h:∀x∈c::cs,x=3):Tc (c::cs)=.int 3:=by
 have h0:=h c (by simp)
 subst h0
 show(if((3::cs).all fun c=>decide (c=3))=true then T.int 3 else T.non)=_
 rw[if_pos (lP.mpr fun x hx=>decide_eq_true (h x hx))]
theorem YF{cs:List Int}:Be (Tc cs)=true∧(dT (Tc cs)).depth≤100:=by
 unfold Tc
 split
 ·exact⟨by rw[Be],by show 0≤100;decide⟩
 ·exact⟨by rw[Be],by show 0≤100;decide⟩
theorem IH{A B:List Int}:kr (dT (.lst (A.map T.int))) (dT (.lst (B.map T.int)))=decide (A=B):=by
 show mz _ _=_
 exact Fo
theorem Dw{A:List Int}:Be (.lst (A.map T.int))=true:=by unfold Be;exact Cm
theorem Kr{A:List Int}:(dT (.lst (A.map T.int))).depth≤100:=by
 show ko _+1≤100
 rw[Gq]
 decide
theorem Co{n:Int}{ps:List (Int×Int)}:(dT (AI n ps)).depth≤100:=by
 have:∀{ps:List (Int×Int)},ko (dTs (ps.map AF))≤2:=fun{ps}=>by
  induction ps with
  |nil=>simp[dTs,ko]
  |cons p ps ih=>
   simp only[jr,dTs,ko,AF,dT,j5.depth]
   omega
 have:=this (ps:=ps)
 simp only[AI,dT,dTs,j5.depth,ko]
 omega
theorem bB{K:b9}{O:AM}{n:Int}{ps qs:List (Int×Int)}:RP K (rD K kr) (AI n ps) (AI n qs) O (.bl (decide (ps=qs))):=by
 have h:=EN (K:=K) (O:=O) (g:=kr) (t:=AI n ps) (u:=AI n qs) Dd Dd Co
 rw[GR,decide_eq_true (rfl:n=n),qb] at h
 exact h
theorem Pp{K:b9}{O:AM}{n:Int}{ps:List (Int×Int)}:RP K (rD K kr) (AI n ps) (AI n ps) O (.bl true):=by
 have h:=bB (K:=K) (O:=O) (n:=n) (ps:=ps) (qs:=ps)
 rw[decide_eq_true rfl] at h
 exact h
noncomputable def fM:Bp:=fun ts O Φ _=>∃(p:Addr) (xs:List T) (N:Nat) (ps:List (Int×Int)),ts=[.raw (.ref p),AI (N:Int) ps]∧O p=some xs∧KM xs∧WebS (N:Int) ps∧N≤14∧ps≠[]∧∀O',PO O p O'→Φ (.bl true) O'
noncomputable def fO:List Str:=["_law_pen","_law_web","_law_one","_law_other","_law_more"]
theorem bD:FnScope fO ["_law_pen","_law_web"] (AA Fw):=⟨rfl,rfl,rfl,by decide+kernel,rfl,by decide+kernel,by decide+kernel⟩
theorem fP:(Ak ["_law_tie"] [(("_law_pen" :Str),0),(("_law_web" :Str),1)]).Nodup:=by decide+kernel
theorem XF{α:Type}{l:List α}(h:l≠[]):0<l.length:=List.length_pos_iff.mpr h
theorem fQ{f:Addr}{fd:jv}(F:Fun K "_law_splice_right" "_law_splice_right" Fw f fd)(Tx:Txt mg)(Gd:FnT P w K mg base "_law_draw" 2 ["_law_pen","_law_many"] DE)(Gs:FnT P w K mg base "spliced" 5 ["web","a","b","c","e"] Xw)(Gw:FnT P w K mg base "web_good" 4 ["thing"] aU)(Gc:FnT P w K mg base "_law_counts" 5 ["_law_web"] Po)(Ge:FnT P w K mg base "even_by" 2 ["web"] Td)(Gu:FnT P w K mg base "unspliced" 7 ["web","x","y"] Xx):
  FnOk P w K mg base (CXe P w) 8 f fd ["_law_pen","_law_web"] (CC K fM):=by
 refine AS F bD ?_ ?_
 ·rintro ts O Φ Ξ ⟨p,xs,N,ps,rfl,_⟩
  rfl
 ·rintro cdv A outer s H E O Ξ hr xf _ Φ ⟨pn,xs,N,ps,rfl,hp,px,ws,n14,nn,q⟩
  have sb:=AX
  have hl:=ws.hl
  have n0:=ws.n0
  have l0:=XF nn
  have hu:(A.deeper (m9 "_law_splice_right" (AA Fw) s.heap.objs.size f cdv)).units+101<cLine:=by have:=hr.un;omega
  refine AE (NX (n:=5) (Sd (nc:=["_law_tie"]) (cap:=[("_law_pen",0),("_law_web",1)]) rfl (BV (AA Fw) fO (by decide+kernel)) (EI.wi (BF (k:=2) Tx.nRange AC ⟨by decide,by decide⟩) ?_)))
  refine⟨fun i acc O'=>i≤2∧∃L:List (Int×Int),acc=L.map AF∧L.length=i∧(∀z∈L,z∈ps)∧PO O pn O',⟨by omega,[],rfl,rfl,(fun _ h=>by cases h),PO.start hp px⟩,?_,?_⟩
  ·rintro j t acc O' c e ⟨_,L,rfl,hL,hm,po⟩ hc
   obtain⟨hj,rfl⟩:=DX e
   have hj:j<2:=hj
   refine⟨[some (.int (0+(j:Int))),some (.raw (.ref pn)),some (AI (N:Int) ps)],fun X' Oe He is=> ⟨?_,GN (JX fun X' Oe He is=>?_)⟩⟩
   ·obtain⟨cl,s',H',fp,rfl⟩:=is
    exact AV 0 fP (by decide)
   ·obtain⟨cl,s',H',fp,rfl⟩:=is
    refine Ol RV (fun _ _=>rfl) (ET.we (AR (t:=.tup (ps.map AF)) (ev 2) AC) (MA Gd (hr.mono (by decide)) By po hc (ev 1) (Ep Tx.nLen (AR (t:=.tup (ps.map AF)) (ev 2) AC)) (by rw[e7];omega) (by rw[e7];omega) fun r O3 r0 r1 po3 hc3=>?_))
    rw[e7] at r1
    obtain⟨k,rfl⟩:=j7 r0
    have hk:k<ps.length:=by omega
    refine SW (t:=AF ps[k]) (BP (by rw[e9,i8 hk];rfl)) _ ?_
    refine⟨O3,rfl,hc3,by rw[e7];omega,by omega,L++[ps[k]],by rw[jX];rfl,by rw[jf,hL];rfl,fun z hz=>?_,po3⟩
    rcases ju.mp hz with hz|hz
    ·exact hm z hz
    ·rw[jd.mp hz]
     exact kT hk
  ·rintro acc O' ⟨_,L,rfl,hL,hm,po⟩
   rw[BX] at hL
   have hL:L.length=2:=hL
   match L,hL,hm with
   | [p,p'],_,hm=>
    have h1:=hm p (by simp)
    have h2:=hm p' (by simp)
    have b1:=ws.hp p h1
    have b2:=ws.hp p' h2
    unfold AU at b1 b2
    refine⟨[some (.raw (.ref pn)),some (AI (N:Int) ps),some (AF p),some (AF p'),none],Vs 2 3 rfl bD.nd (by show 2<5;decide) (by show 3<5;decide),?_⟩
    refine AE (Ad (k:=decide (p=p')) (EB.cast (Af (EM hu) (Ac _) (EN (Eu p) (Eu p') (EO _)) (ev 2) (ev 3)) (by rw[Hl])) (fun _=>AG (AK (ET.we Iw (q O' po)))) (fun h=>AZ ?_))
    have ne:=of_decide_eq_false h
    have t:TwoT N ps p p':=⟨ws.hp,ws.pw,h1,h2,ne⟩
    have i4:∀z∈[p.1,p.2,p'.1,p'.2],0≤z∧z< (N:Int):=fun z hz=>by
     simp only[i6,jk,or_false] at hz
     rcases hz with rfl|rfl|rfl|rfl<;>omega
    have sB:eH ps p.1 p.2 p'.1 p'.2=true:=by
     unfold eH ES
     rw[show mm (p.1,p.2)=p from Di (ws.hp p h1),show mm (p'.1,p'.2)=p' from Di (ws.hp p' h2),decide_eq_true h1,decide_eq_true h2,decide_eq_false ne]
     rfl
    have ws':WebS ((N:Int)+2) (EY N ps p p'):=Kh (N:=N+2) (by omega) (by omega)
    refine AE (AN 4 (Al Gs (hr.mono (by decide)) xf (EA.wa (AD (ev 1) (AD (AR (t:=.int p.1) (ev 2) AC) (AD (AR (t:=.int p.2) (ev 2) AC) (AD (AR (t:=.int p'.1) (ev 3) AC) (AD (AR (t:=.int p'.2) (ev 3) AC) AB))))) ⟨(N:Int),ps,p.1,p.2,p'.1,p'.2,rfl,ws,fun z hz=>by simp only[i6,jk,or_false] at hz;rcases hz with rfl|rfl|rfl|rfl<;>omega,sB,by omega,fun rs r1 r2 _=>?ok⟩)) bD.nd)
    case ok=>
     have e1:rs=EY N ps p p':=Kg (Xy t) r1 r2
     subst e1
     have n2:(((N+2:Nat):Int))=(N:Int)+2:=by omega
     have cl:(CK N ps).length≤16:=by unfold CK;rw[e7,lG];omega
     refine AE (Ad (k:=false) (EW.eb (EW.cast (Bh (x:=false) (y:=false) (EB.cast (BH (k:=true) (Bg (AJ Gw (hr.mono (by decide)) xf (AD (ev 4) AB) ⟨_,_,rfl,ws'.r,by omega,rfl⟩))) rfl) fun _=>Bm (EB.cast (Af (DD hu) (Ac _) (EN (t:=.lst ((CK N ps++[3,3]).map T.int)) (u:=.lst ((CK N ps++[3,3]).map T.int)) Dw Dw Kr) (ET.cast (AJ Gc (hr.mono (by decide)) xf (AD (ev 4) AB) ⟨N+2,EY N ps p p',by rw[n2],by rw[n2];exact ws',rfl⟩) (by rw[Ue t])) (ET.cast (DB (AJ Gc (hr.mono (by decide)) xf (AD (ev 1) AB) ⟨N,ps,rfl,ws,rfl⟩) (Au (ts:=[.int 3,.int 3]) (AD AC (AD AC AB)) (by show 2≤sizeLine;decide)) (by rw[e7];show _+2≤_;omega)) (by rw[jX];rfl))) (by rw[IH,decide_eq_true rfl];rfl))) rfl)) (fun h=>by cases h) (fun _=>AZ ?_))
     have ce:Bv ((N:Int)+2) (EY N ps p p')=CK N ps++[3,3]:=by rw[←n2,Mh,Ue t]
     have c0:∃c cs,CK N ps++[3,3]=c::cs:=by
      cases e:CK N ps with
      |nil=>exact⟨_,_,rfl⟩
      |cons c cs=>exact⟨_,_,rfl⟩
     refine AE (Ad (k:=false) (EW.eb (EW.cast (FZ (x:=kr (dT (Tc (Bv (N:Int) ps))) (dT (.int 3))) (y:=false) (Af (EM hu) (Ac _) (EN (u:=.int 3) YF.1 (by rw[Be]) YF.2) (AJ Ge (hr.mono (by decide)) xf (AD (ev 1) AB) ⟨(N:Int),ps,rfl,ws.n,n0,rfl⟩) AC) fun h=>Dp ?_) (by simp))) (fun h=>by cases h) (fun _=>AZ ?_))
     ·have all3:=Ug h
      rw[Mh] at all3
      obtain⟨c,cs,e⟩:=c0
      have e3:Tc (Bv ((N:Int)+2) (EY N ps p p'))=.int 3:=by
       rw[ce,e]
       refine bA fun x hx=>?_
       rw[←e] at hx
       rcases ju.mp hx with hx|hx
       ·exact all3 x hx
       ·simpa using hx
      exact EB.cast (DV (i:=3) (j:=3) (ET.cast (AJ Ge (hr.mono (by decide)) xf (AD (ev 4) AB) ⟨_,_,rfl,ws'.n,by omega,rfl⟩) e3) AC) rfl
     ·have un:∀{x y:Nat} {e1 e2:Expr} {pp pos:Pos},((x=N∧y=N+1)∨(x=N+1∧y=N))→ET (zB P w K mg base fO "_law_splice_right" (AA Fw) f cdv A outer s H E O Ξ) [some (.raw (.ref pn)),some (AI (N:Int) ps),some (AF p),some (AF p'),some (AI ((N:Int)+2) (EY N ps p p'))] O' e1 (.int (x:Int))→ET (zB P w K mg base fO "_law_splice_right" (AA Fw) f cdv A outer s H E O Ξ) [some (.raw (.ref pn)),some (AI (N:Int) ps),some (AF p),some (AF p'),some (AI ((N:Int)+2) (EY N ps p p'))] O' e2 (.int (y:Int))→Av e1=true→Av e2=true→∀{p4:Pos},ET (zB P w K mg base fO "_law_splice_right" (AA Fw) f cdv A outer s H E O Ξ) [some (.raw (.ref pn)),some (AI (N:Int) ps),some (AF p),some (AF p'),some (AI ((N:Int)+2) (EY N ps p p'))] O' (.Call (.Name "unspliced" pp) [.Name "_law_more" p4,e1,e2] [] pos) (AI (N:Int) ps):=by
       intro x y e1 e2 pp pos hxy h1 h2 s1 s2 p4
       have hB:PP (EY N ps p p') x y=true:=by
        rcases hxy with⟨rfl,rfl⟩| ⟨rfl,rfl⟩
        ·exact eS t
        ·exact eT t
       refine Bx Gu hr xf (AD (ev 4) (AD h1 (AD h2 AB s2) s1)) (fun Φ' q'=> ⟨(N:Int)+2,EY N ps p p',x,y,rfl,ws',by omega,by omega,hB,fun rs r1 r2 _=>?_⟩) (he:=Ax rfl) (hpl:=by rw[Ax s1,Ax s2];rfl)
       have e3:=Wz t hxy r1 r2
       subst e3
       have e4:(N:Int)+2-2=N:=by omega
       rw[e4]
       exact q'
      refine AG (AK (ET.we (t:=.bl true) (ET.cast (Le (x:=true) (y:=true) (EM hu) (EM hu) Pp (fun _=>Pp) (un (.inl ⟨rfl,rfl⟩) (AR (t:=.int (N:Int)) (ev 1) AC) (ET.cast (BB (AR (t:=.int (N:Int)) (ev 1) AC) AC) (by congr 1)) rfl rfl) (ev 1) (fun _=>un (.inr ⟨rfl,rfl⟩) (ET.cast (BB (AR (t:=.int (N:Int)) (ev 1) AC) AC) (by congr 1)) (AR (t:=.int (N:Int)) (ev 1) AC) rfl rfl) (by with_unfolding_all rfl)) rfl) (q O' po)))
end
end K58
namespace L2.TL
open PySem PySem.Spec PyProof.Rows
section
variable{Z:Zx}{ρ:List (Option T)}{O:AM}{e lo:Expr}{p2 pos:Pos}{ts:List T}{i:Int}
theorem XG(h:ET Z ρ O e (.lst ts))(h2:ET Z ρ O lo (.int i)):ET Z ρ O (.Subscript e (.Slice (some lo) none none p2) pos) (.lst (Fd ts (some i) none)):=fun Φ k=>by
 refine PE.weak (Ec OT (BU (ρ:=ρ)) (Eb (BU (ρ:=ρ))) JV) fun σ H0 Q q=>?_
 refine⟨O,_,h (fun t O'=>t=.lst ts∧O'=O) ⟨rfl,rfl⟩,q.1,?_⟩
 rintro v H1 _ _ ⟨rfl,rfl⟩ f1 r1
 refine⟨_,_,h2 (fun t O'=>t=.int i∧O'=_) ⟨rfl,rfl⟩,q.1.step f1,?_⟩
 rintro v2 H2 _ _ ⟨rfl,rfl⟩ f2 r2
 obtain⟨a,xs,rfl,h1,_,r1⟩:=(r1.kp f2.kp f1.ok).lst_inv
 have ff:=f1.trans f2
 exact⟨i,r2.int_inv,a,xs,rfl,.inl (.inl h1),fun l hl=>q.2 _ _ _ _ k (ff.trans (.new ff.ok hl)) (.lst AY (ff.ok.none_of hl) ((r1.cut).kp (BZ ff.ok hl) ff.ok))⟩
theorem Uh{ts:List T}{k:Nat}:Fd ts (some (k:Int)) none=ts.drop k:=by
 unfold Fd
 rw[HT.LB,HT.OP]
 rcases Nat.le_total k ts.length with h|h
 ·rw[Nat.min_eq_left h,oa (by rw[mN];exact jb _)]
 ·rw[Nat.min_eq_right h,sX,pL,List.drop_of_length_le h]
end
end L2.TL
namespace K58
open PySem L2 L2.TL PySem.Spec PyProof.Rows Gr
section
variable{P:Program}{w:World}{K:b9}{mg:Str→Option Value}{base:Heap}{CN CE CP CL:Addr}
end
section
variable{P:Program}{w:World}{K:b9}{mg:Str→Option Value}{base:Heap}
theorem Ui{N:Nat}{ps:List (Int×Int)}{a b c e:Int}(ws:WebS (N:Int) ps)(i:In4 N a b c e)(x:Crs ps a b c e):CK N (Ki N ps a b c e)=CK N ps:=by
 unfold CK
 exact nQ fun j _=>by rw[af ws.hp ws.pw i x]
theorem OI{Z:Zx}{ρ:List (Option T)}{O:AM}{e0 e1 e2 e3 e4:Expr}{N:Nat}{ps:List (Int×Int)}{a b c e:Int}{p pos:Pos}(G:FnT Z.X.prog Z.X.w Z.X.K Z.X.mg Z.X.base "crossed" 5 ["web","a","b","c","e"] PU)(hr:Room 5 Z.X.A)(xf:XFly Z.X Z.W)(ws:WebS (N:Int) ps)(i:In4 N a b c e)(x:Crs ps a b c e)
  (h0:ET Z ρ O e0 (AI (N:Int) ps)) (h1:ET Z ρ O e1 (.int a)) (h2:ET Z ρ O e2 (.int b)) (h3:ET Z ρ O e3 (.int c)) (h4:ET Z ρ O e4 (.int e)) (s0:Av e0=true) (s1:Av e1=true) (s2:Av e2=true) (s3:Av e3=true) (s4:Av e4=true) (hg:Gl Z.X "crossed":=by rfl):
  ET Z ρ O (.Call (.Name "crossed" p) [e0,e1,e2,e3,e4] [] pos) (AI (N:Int) (Ki N ps a b c e)):=by
 refine Bx G hr xf (AD h0 (AD h1 (AD h2 (AD h3 (AD h4 AB s4) s3) s2) s1) s0) (fun Φ q=> ⟨(N:Int),ps,a,b,c,e,rfl,ws.a,fun z hz=>?_,PX.mpr x,fun rs r1 r2 _=>?_⟩) (hg:=hg) (he:=Ax s0) (hpl:=by rw[Ax s1,Ax s2,Ax s3,Ax s4];rfl)
 ·have:=i.a
  have:=i.b
  have:=i.c
  have:=i.e
  simp only[i6,jk,or_false] at hz
  rcases hz with rfl|rfl|rfl|rfl<;>omega
 ·have e1:rs=Ki N ps a b c e:=Kg (US ws.hp i x) r1 r2
  subst e1
  exact q
noncomputable def fR:Bp:=EX fun ts r=>∃(N:Nat) (ps:List (Int×Int)),ts=[AI (N:Int) ps]∧WebS (N:Int) ps∧N≤8∧r=.bl true
noncomputable def jW:List Str:=["_law_web","_law_found","_law_one","_law_other","_law_a","_law_b","_law_c","_law_e"]
theorem XH:FnScope jW ["_law_web"] (AA WK):=⟨rfl,rfl,rfl,by decide+kernel,rfl,by decide+kernel,by decide+kernel⟩
theorem XI{L:List T}{t:T}(h:L.getLast?=some t):atI L (-1)=some t:=by
 obtain⟨M,rfl⟩:=l7.mp h
 exact LD _ _
theorem XJ{N:Nat}{ps cur:List (Int×Int)}{W:List (List (Int×Int))}(c:Clm N ps W cur):0<W.length:=by
 have:=c.hd
 cases W with
 |nil=>cases this
 |cons x W=>simp
theorem fS{f:Addr}{fd:jv}(F:Fun K "_law_climb_right" "_law_climb_right" WK f fd)(Tx:Txt mg)(Gl':FnT P w K mg base "climbed" 7 ["web"] YE)(Gb:FnT P w K mg base "better_crossing" 7 ["web"] fG)(Gx:FnT P w K mg base "crossed" 5 ["web","a","b","c","e"] PU)(Gi:FnT P w K mg base "is_better" 6 ["one","other"] YD)(Gc:FnT P w K mg base "_law_counts" 5 ["_law_web"] Po)(Go:FnT P w K mg base "crossings_of" 4 ["web"] ar):
  FnOk P w K mg base (CXe P w) 8 f fd ["_law_web"] (CC K fR):=by
 refine AS F XH ?_ ?_
 ·rintro ts O Φ Ξ ⟨r,⟨N,ps,rfl,_⟩,_⟩
  rfl
 ·rintro cdv A outer s H E O Ξ hr xf _ Φ ⟨_,⟨N,ps,rfl,ws,n8,rfl⟩,q⟩
  have sb:=AX
  have hu2:(A.deeper (m9 "_law_climb_right" (AA WK) s.heap.objs.size f cdv)).units+102<cLine:=by have:=hr.un;omega
  have hu:=Nat.lt_of_succ_lt hu2
  refine AE (AN 1 (Al Gl' hr xf (EA.wa (AD (ev 0) AB) ⟨N,ps,rfl,ws,n8,fun W cur c fin hl=>?_⟩)) XH.nd)
  have l0:=XJ c
  have wc:=c.ok cur (lJ c.lst)
  have e0:atI (W.map (AI (N:Int))) 0=some (AI (N:Int) ps):=BP (j:=0) (by rw[e9,←pO,c.hd];rfl)
  have e1:atI (W.map (AI (N:Int))) (-1)=some (AI (N:Int) cur):=XI (by rw[List.getLast?_map,c.lst];rfl)
  refine AE (Ad (k:=false) (EW.eb (EW.cast (Bh (x:=false) (y:=false) (EB.cast (Af (DD hu) (Ac _) (EN Dd Dd Co) (CJ (t:=AI (N:Int) ps) (ev 1) AC e0) (ev 0)) (by rw[GR,decide_eq_true rfl,decide_eq_true rfl];rfl)) fun _=>Bm (EB.cast (GZ (t:=.non) rfl (ET.cast (AJ Gb hr xf (AD (CJ (t:=AI (N:Int) cur) (ev 1) (NS AC) e1) AB) ⟨N,cur,rfl,wc,n8,rfl⟩) (by rw[fin];rfl))) rfl)) rfl)) (fun h=>by cases h) (fun _=>AZ ?_))
  refine AE (Bc Ao.own rfl (EI.wi (XE Tx.nZip (ev 1) (XG (ev 1) AC)) ⟨fun i ρ' O'=>∃v2 v3 v4 v5 v6 v7:Option T,ρ'=[some (AI (N:Int) ps),some (.lst (W.map (AI (N:Int)))),v2,v3,v4,v5,v6,v7]∧O=O',⟨none,none,none,none,none,none,rfl,rfl⟩,?_,?_⟩))
  ·rintro i t _ _ e ⟨v2,v3,v4,v5,v6,v7,rfl,rfl⟩
   obtain⟨x,y,hx,hy,rfl⟩:∃x y,W[i]?=some x∧W[i+1]?=some y∧t=.tup [AI (N:Int) x,AI (N:Int) y]:=by
    have e':(Er (W.map (AI (N:Int))) ((W.map (AI (N:Int))).drop 1))[i]?=some t:=by
     have cd:=Uh (ts:=W.map (AI (N:Int))) (k:=1)
     have cd:Fd (W.map (AI (N:Int))) (some 1) none=(W.map (AI (N:Int))).drop 1:=cd
     rw[cd] at e
     exact e
    unfold Er at e'
    rw[pT,lx,e9,e9] at e'
    cases hx:W[i]? with
    |none=>rw[hx] at e';cases e'
    |some x=>
     cases hy:W[1+i]? with
     |none=>rw[hx,hy] at e';cases e'
     |some y=>
      rw[hx,hy] at e'
      exact⟨x,y,rfl,by rw[Nat.add_comm];exact hy,(ki.inj e').symm⟩
   obtain⟨q4,hq,rfl⟩:=c.pa i x y hx hy
   have wx:=c.ok x (i9 hx)
   obtain⟨hm,hgt⟩:=Pl hq
   obtain⟨a,b,c',e',rfl,inn,crs⟩:=IG wx.hp hm
   have wy:WebS (N:Int) (Ki N x a b c' e'):=(OH wx hq).1
   have hgt:HT.Ay (CB N (Ki N x a b c' e')) (CB N x)=true:=hgt
   refine⟨[some (AI (N:Int) ps),some (.lst (W.map (AI (N:Int)))),some (AI (N:Int) x),some (AI (N:Int) (Ki N x a b c' e')),v4,v5,v6,v7],Bb 2 3 rfl XH.nd (by show 2<8;decide) (by show 3<8;decide),?_⟩
   refine AE (NX (n:=8) (ET.we (t:=AW [a,b,c',e']) (ET.cast (AJ Gb hr xf (AD (ev 2) AB) ⟨N,x,rfl,wx,n8,rfl⟩) (by rw[hq];rfl)) ⟨[some (AI (N:Int) ps),some (.lst (W.map (AI (N:Int)))),some (AI (N:Int) x),some (AI (N:Int) (Ki N x a b c' e')),some (.int a),some (.int b),some (.int c'),some (.int e')],Kl 4 5 6 7 rfl XH.nd (by show 4<8;decide) (by show 5<8;decide) (by show 6<8;decide) (by show 7<8;decide),?_⟩))
   refine AE (Ad (k:=false) (EW.eb (EW.cast (Bh (x:=false) (y:=false) (EB.cast (Af (DD hu) (Ac _) (EN Dd Dd Co) (OI Gx (hr.mono (by decide)) xf wx inn crs (ev 2) (ev 4) (ev 5) (ev 6) (ev 7) rfl rfl rfl rfl rfl) (ev 3)) (by rw[GR,decide_eq_true rfl,decide_eq_true rfl];rfl)) fun _=>EW.cast (Bh (x:=false) (y:=false) (EB.cast (BH (k:=true) (EB.cast (Bg (AJ Gi (hr.mono (by decide)) xf (AD (ev 3) (AD (ev 2) AB)) ⟨(N:Int),_,_,rfl,wy.r,wx.r,by omega,rfl⟩)) hgt)) rfl) fun _=>Bm (EB.cast (Bg (AJ Gi (hr.mono (by decide)) xf (AD (ev 2) (AD (ev 3) AB)) ⟨(N:Int),_,_,rfl,wx.r,wy.r,by omega,rfl⟩)) (XA hgt))) rfl) rfl)) (fun h=>by cases h) (fun _=>AZ ?_))
   refine AG (Ad (k:=false) (EW.eb (EW.cast (Bh (x:=false) (y:=false) (EB.cast (Af (DD hu) (Ac _) (EN (t:=.lst ((CK N x).map T.int)) (u:=.lst ((CK N x).map T.int)) Dw Dw Kr) (AJ Gc (hr.mono (by decide)) xf (AD (ev 2) AB) ⟨N,x,rfl,wx,rfl⟩) (ET.cast (AJ Gc (hr.mono (by decide)) xf (AD (ev 3) AB) ⟨N,_,rfl,wy,rfl⟩) (by rw[Ui wx inn crs]))) (by rw[IH,decide_eq_true rfl];rfl)) fun _=>Bm (EB.cast (Af (Jx hu2) rfl (Nb (t:=AW [a,b,c',e']) (us:=(Mf N x).map AW) MJ Fm MK) (Ba (ts:=[.int a,.int b,.int c',.int e']) (AD (ev 4) (AD (ev 5) (AD (ev 6) (AD (ev 7) AB)))) (by show 4≤sizeLine;decide)) (AJ Go (hr.mono (by decide)) xf (AD (ev 2) AB) ⟨N,x,rfl,wx,n8,rfl⟩)) (by rw[JH,decide_eq_true hm];rfl))) rfl)) (fun h=>by cases h) (fun _=>AZ ?_))
   exact⟨_,_,_,_,_,_,rfl,rfl⟩
  ·rintro _ _ ⟨v2,v3,v4,v5,v6,v7,rfl,rfl⟩
   exact AG (AK (ET.we Iw q))
end
theorem bE{ts:List T}{k:Nat}:Fd ts none (some (k:Int))=ts.take k:=by
 unfold Fd
 rw[HT.LB,HT.OP,sf,Nat.sub_zero]
 rcases Nat.le_total k ts.length with h|h
 ·rw[Nat.min_eq_left h]
 ·rw[Nat.min_eq_right h,kI,oa h]
noncomputable def fT(i:Nat):Stmt:=(BQ Qd).getD i (.Pass ⟨0,0,0,0⟩)
noncomputable def iG:Stmt→Expr
 | .For _ e _ _ _=>e
 |_=> .Constant .none 0 ⟨0,0,0,0⟩
noncomputable def XM:Stmt→List Stmt
 | .For _ _ b _ _=>b
 |_=> []
noncomputable def bF:List Str:=["_law_script","_law_cell","_law_pen","_law_web","_law_small","_law_some","_law_a","_law_b","_law_c","_law_e","_law_later"]
theorem II:FnScope bF ["_law_script"] (AA Qd):=⟨rfl,rfl,rfl,by decide+kernel,rfl,by decide+kernel,by decide+kernel⟩
section
variable{P:Program}{w:World}{K:b9}{mg:Str→Option Value}{base:Heap}{f:Addr}{cdv:Value}{A:js}{outer:List Env}{s:c9}{H:Hp}{E:XK}
noncomputable abbrev zL(P:Program)(w:World)(K:b9)(mg:Str→Option Value)(base:Heap)(f:Addr)(cdv:Value)(A:js)(outer:List Env)(s:c9)(H:Hp)(E:XK):Zx:=zB P w K mg base bF "law" (AA Qd) f cdv A outer s H E Xg (fun _ _=>False)
structure Has(P:Program)(w:World)(K:b9)(mg:Str→Option Value)(base:Heap):Prop where
 tx:Txt mg
 gp:FnT P w K mg base "_law_pen_of" 1 ["_law_cell"] Xl
 gd:FnT P w K mg base "_law_draw" 2 ["_law_pen","_law_many"] DE
 gs:FnT P w K mg base "_law_some_web" 3 ["_law_pen","_law_most"] Tt
 gr:FnT P w K mg base "_law_splice_right" 8 ["_law_pen","_law_web"] fM
 gc:FnT P w K mg base "_law_climb_right" 8 ["_law_web"] fR
 go:FnT P w K mg base "crossings_of" 4 ["web"] ar
 gx:FnT P w K mg base "crossed" 5 ["web","a","b","c","e"] PU
 gn:FnT P w K mg base "_law_counts" 5 ["_law_web"] Po
noncomputable def Pq(K:b9):Sp:=fun vs H Q _=>∃(a:Addr) (ns:List Int),vs=[.ref a]∧CM K H a (ns.map V.int)∧ns.length≤63∧∀H',Q (.bl true) H'
noncomputable def iH:Bf:=fun t _=>t=.bl true
noncomputable abbrev IY(a:Addr)(v1 v2 v3 v4 v5 v6 v7 v8 v9 v10:Option T):List (Option T):=[some (.raw (.ref a)),v1,v2,v3,v4,v5,v6,v7,v8,v9,v10]
theorem Uj{ρ:List (Option T)}{a:Addr}{ns:List Int}{Φ:Bf}{fC:Addr}{fdC:jv}(hr:Room 8 (zL P w K mg base f cdv A outer s H E).X.A)(xf:XFly (zL P w K mg base f cdv A outer s H E).X (zL P w K mg base f cdv A outer s H E).W)(hS:CM K H a (ns.map V.int))(hn:ns.length≤63)(hρ:ρ[0]?=some (some (.raw (.ref a))))
  (FC:FnOk P w K mg base (CXe P w) 1 fC fdC ["_law_script","_law_k"] (Hq K)) (mC:mg "_law_cell_at" =some (.ref fC)) (kC:nh K (.ref fC)=true) (bC:Binds K fdC ["_law_script","_law_k"] [])
  (k:∀ms:List Int,ms.length≤64→Φ (.lst (ms.map T.int)) Xg):HWE (zL P w K mg base f cdv A outer s H E) ρ Xg (iG (fT 0)) Φ:=by
 have sb:=AX
 refine⟨?_⟩
 refine Em Mt ?_
 refine SQ (Hk (Si FC mC kC bC (hr.mono (by decide)) xf (AD (ev 0 hρ) (AD AC AB)) ?_))
 intro σ H1 vs Q as r acc
 obtain⟨v,u,rfl,r1,r2⟩:=r.two_inv
 cases r1.raw_inv
 cases r2.int_inv
 refine⟨a,ns,rfl,Xh as.fr.kp hS,fun c=>acc _ _ _ _ ?_ (.refl as.ok) (.int c)⟩
 refine BL ⟨by show 1≤sizeLine;decide,?_⟩
 refine Zg rfl hS (ev 0 hρ) AC AC fun ms hm=>?_
 exact Jv (ts:=[T.int c]) (us:=ms.map T.int) (by simp;omega) _ (k (c::ms) (by simp;omega))
theorem Qv{O O1:AM}{a p:Addr}{v1 v3 v5 v6 v7 v8 v9 v10:Option T}{N:Nat}{ps:List (Int×Int)}{Φ:Bf}{Nx Bk Ct:Li}(B:Has P w K mg base)(hr:Room 8 (zL P w K mg base f cdv A outer s H E).X.A)(xf:XFly (zL P w K mg base f cdv A outer s H E).X (zL P w K mg base f cdv A outer s H E).W)(po:PO O p O1)(ws:WebS (N:Int) ps)(n8:N≤8)
  (k:∀v5 v6 v7 v8 v9 v10 O',Nx (IY a v1 (some (.raw (.ref p))) v3 (some (AI (N:Int) ps)) v5 v6 v7 v8 v9 v10) O'):
  HS (zL P w K mg base f cdv A outer s H E) (IY a v1 (some (.raw (.ref p))) v3 (some (AI (N:Int) ps)) v5 v6 v7 v8 v9 v10) O1 ((XM (fT 0)).drop 4) {nx:=Nx,rt:=Φ,bk:=Bk,ct:=Ct}:=by
 have sb:=Ck
 have hu:(zL P w K mg base f cdv A outer s H E).X.A.units+101<cLine:=by have:=hr.un;omega
 have al:(Mf N ps).length≤ps.length*256:=Pk (by omega) ws.hp
 have hl:=ws.hl
 refine Dr (AN 5 (ET.we (AJ B.go (hr.mono (by decide)) xf (AD (ev 4) AB) ⟨N,ps,rfl,ws,n8,rfl⟩) ?_) II.nd)
 have dp:(dT (.lst ((Mf N ps).map AW))).depth≤100:=by
  have:∀{L:List (List Int)},ko (dTs (L.map AW))≤2:=fun{L}=>by
   induction L with
   |nil=>simp[dTs,ko]
   |cons x L ih=>
    have h2:=Gq (A:=x)
    simp only[jr,dTs,ko,AW,dT,j5.depth]
    omega
  have:=this (L:=Mf N ps)
  show ko _+1≤100
  omega
 have rd:Be (.lst ((Mf N ps).map AW))=true:=by rw[Be];exact Fm
 by_cases nn:Mf N ps=[]
 ·rw[nn] at rd dp ⊢
  exact NY (Ad (k:=false) (EB.cast (Af (DD hu) (Ac _) (EN (t:=.lst []) (u:=.lst []) rd rd dp) (ev 5) (Au (ts:=[]) AB (kN _))) rfl) (fun h=>by cases h) fun _=>AZ (k _ _ _ _ _ _ _))
 ·have l0:=List.length_pos_iff.mpr nn
  refine NY (Ad (k:=true) (EB.cast (Af (DD hu) (Ac _) (EN (t:=.lst ((Mf N ps).map AW)) (u:=.lst []) rd (by rw[Be];rfl) dp) (ev 5) (Au (ts:=[]) AB (kN _))) ?_) (fun _=>?_) fun h=>by cases h)
  ·cases e:Mf N ps with
   |nil=>exact absurd e nn
   |cons x L=>rfl
  refine AE (NX (n:=11) (Ol Ed (fun _ _=>rfl) (ET.we (ev 5) (Bz B.gd (hr.mono (by decide)) xf po (ev 2) (GO B.tx.nLen (ev 5)) (by rw[e7];omega) (by rw[e7];omega) fun r O2 r0 r1 po2=>?_))))
  rw[e7] at r1
  obtain⟨j,rfl⟩:=j7 r0
  have hj:j< (Mf N ps).length:=by omega
  have hm:=kT hj
  obtain⟨x,y,u,v,eq,inn,crs⟩:=IG ws.hp hm
  refine NV (t:=AW [x,y,u,v]) (BP (by rw[e9,i8 hj,eq];rfl)) _ ?_
  refine⟨IY a v1 (some (.raw (.ref p))) v3 (some (AI (N:Int) ps)) (some (.lst ((Mf N ps).map AW))) (some (.int x)) (some (.int y)) (some (.int u)) (some (.int v)) v10,Kl 6 7 8 9 rfl II.nd (by show 6<11;decide) (by show 7<11;decide) (by show 8<11;decide) (by show 9<11;decide),?_⟩
  have n0:=ws.n0
  have wy:WebS (N:Int) (Ki N ps x y u v):=Kh (by omega) (by omega)
  have i':In4 N x u y v:=⟨inn.a,inn.c,inn.b,inn.e⟩
  refine AE (AN 10 (ET.we (OI B.gx (hr.mono (by decide)) xf ws inn crs (ev 4) (ev 6) (ev 7) (ev 8) (ev 9) rfl rfl rfl rfl rfl) ?_) II.nd)
  exact AG (Ad (k:=false) (EW.eb (EW.cast (Bh (x:=false) (y:=false) (EB.cast (Af (DD hu) (Ac _) (EN (t:=.lst ((CK N ps).map T.int)) (u:=.lst ((CK N ps).map T.int)) Dw Dw Kr) (ET.cast (AJ B.gn (hr.mono (by decide)) xf (AD (ev 10) AB) ⟨N,_,rfl,wy,rfl⟩) (by rw[Ui ws inn crs])) (AJ B.gn (hr.mono (by decide)) xf (AD (ev 4) AB) ⟨N,ps,rfl,ws,rfl⟩)) (by rw[IH,decide_eq_true rfl];rfl)) fun _=>Bm (EB.cast (Af (DD hu) (Ac _) (EN Dd Dd Co) (ET.cast (OI B.gx (hr.mono (by decide)) xf wy i' (Mb ws.hp inn crs) (ev 10) (ev 6) (ev 8) (ev 7) (ev 9) rfl rfl rfl rfl rfl) (by rw[Ww ws.hp ws.pw inn crs])) (ev 4)) (by rw[GR,decide_eq_true rfl,decide_eq_true rfl];rfl))) rfl)) (fun h=>by cases h) fun _=>AZ (k _ _ _ _ _ _ _))
end
section
variable{P:Program}{w:World}{K:b9}{mg:Str→Option Value}{base:Heap}{f:Addr}{cdv:Value}{A:js}{outer:List Env}{s:c9}{H:Hp}{E:XK}
theorem Qw{O O1:AM}{a p:Addr}{v1 v3 v5 v6 v7 v8 v9 v10:Option T}{N:Nat}{ps:List (Int×Int)}{Φ:Bf}{Nx Bk Ct:Li}(B:Has P w K mg base)(hr:Room 8 (zL P w K mg base f cdv A outer s H E).X.A)(xf:XFly (zL P w K mg base f cdv A outer s H E).X (zL P w K mg base f cdv A outer s H E).W)(po:PO O p O1)(ws:WebS (N:Int) ps)(n8:N≤8)
  (k:∀v5 v6 v7 v8 v9 v10 O',Nx (IY a v1 (some (.raw (.ref p))) v3 (some (AI (N:Int) ps)) v5 v6 v7 v8 v9 v10) O'):
  HS (zL P w K mg base f cdv A outer s H E) (IY a v1 (some (.raw (.ref p))) v3 (some (AI (N:Int) ps)) v5 v6 v7 v8 v9 v10) O1 ((XM (fT 0)).drop 3) {nx:=Nx,rt:=Φ,bk:=Bk,ct:=Ct}:=by
 have w12:WebS (N:Int) (ps.take 12):=⟨ws.n0,ws.n1,fun q hq=>ws.hp q (oD hq),ws.pw.sublist (nH ..),by have:=ws.hl;rw[j8];omega⟩
 exact Dr (Ad (k:=false) (BH (k:=true) (Bg (AJ B.gc hr xf (AD (ET.cast (Ba (AD (AR (t:=.int (N:Int)) (ev 4) AC) (AD (ZZ (AR (t:=.tup (ps.map AF)) (ev 4) AC) AC) AB))) (show _=AI (N:Int) (ps.take 12) by rw[show(12:Int)=((12:Nat):Int) from rfl,bE];unfold AI;rw[List.map_take])) AB) ⟨N,_,rfl,w12,n8,rfl⟩))) (fun h=>by cases h) fun _=>AZ (Qv B hr xf po ws n8 k))
theorem Uk{O:AM}{a:Addr}{v2 v3 v4 v5 v6 v7 v8 v9 v10:Option T}{c:Int}{Φ:Bf}{Nx Bk Ct:Li}(B:Has P w K mg base)(hr:Room 8 (zL P w K mg base f cdv A outer s H E).X.A)(xf:XFly (zL P w K mg base f cdv A outer s H E).X (zL P w K mg base f cdv A outer s H E).W)
  (k:∀v2 v3 v4 v5 v6 v7 v8 v9 v10 O',Nx (IY a (some (.int c)) v2 v3 v4 v5 v6 v7 v8 v9 v10) O'):HS (zL P w K mg base f cdv A outer s H E) (IY a (some (.int c)) v2 v3 v4 v5 v6 v7 v8 v9 v10) O (XM (fT 0)) {nx:=Nx,rt:=Φ,bk:=Bk,ct:=Ct}:=by
 have hu:(zL P w K mg base f cdv A outer s H E).X.A.units+101<cLine:=by have:=hr.un;omega
 refine Dr (AN 2 (Al B.gp (hr.mono (by decide)) xf (EA.wa (AD (ev 1) AB) ⟨c,rfl,fun p xs hp px=>?_⟩)) II.nd)
 refine Dr (Zk 3 4 rfl II.nd (Hk (Al B.gs (hr.mono (by decide)) xf (EA.wa (AD (ev 2) (AD AC AB)) ⟨p,xs,14,rfl,by decide,by decide,AH,px,fun n ps O1 n0 n1 hP pw hl po=>?_⟩))))
 obtain⟨ys,hy,py⟩:=po.at
 refine Hk (Al B.gs (hr.mono (by decide)) xf (EA.wa (AD (ev 2) (AD AC AB)) ⟨p,ys,8,rfl,by decide,by decide,hy,py,fun m qs O2 m0 m1 hQ pv hm po2=>BL ⟨_,_,rfl,?_⟩⟩))
 obtain⟨N,rfl⟩:=j7 (show 0≤n by omega)
 obtain⟨M,rfl⟩:=j7 (show 0≤m by omega)
 have ws:WebS (N:Int) ps:=⟨by omega,by omega,hP,pw,hl⟩
 have wq:WebS (M:Int) qs:=⟨by omega,by omega,hQ,pv,hm⟩
 have fin:∀O3,PO O1 p O3→HS (zL P w K mg base f cdv A outer s H E) (IY a (some (.int c)) (some (.raw (.ref p))) (some (AI (N:Int) ps)) (some (AI (M:Int) qs)) v5 v6 v7 v8 v9 v10) O3 ((XM (fT 0)).drop 3) {nx:=Nx,rt:=Φ,bk:=Bk,ct:=Ct}:=fun O3 po3=>Qw B hr xf po3 wq (by omega) fun _ _ _ _ _ _ _=>k _ _ _ _ _ _ _ _ _ _
 have rd:Be (.tup (ps.map AF))=true:=by unfold Be;exact Ci
 have dd:(dT (.tup (ps.map AF))).depth≤100:=by
  have:=Co (n:=(N:Int)) (ps:=ps)
  simp only[AI,dT,dTs,j5.depth,ko] at this ⊢
  omega
 refine Dr (SY (WW.wt (SV (EB.wt (Af (DD hu) (Ac _) (EN (t:=.tup (ps.map AF)) (u:=.tup []) rd (by rw[Be];rfl) dd) (AR (t:=.tup (ps.map AF)) (ev 3) AC) (Ba (ts:=[]) AB (kN _))) ?_))))
 cases ps with
 |nil=>exact AZ (fin _ po2)
 |cons x ps=>
  obtain⟨zs,hz,pz⟩:=po2.at
  exact Om (SU (Lf (Al B.gr hr xf (EA.wa (AD (ev 2) (AD (ev 3) AB)) ⟨p,zs,N,_,rfl,hz,pz,ws,by omega,by simp,fun O3 po3=> ⟨true,rfl,AZ (fin _ (po2.trans po3))⟩⟩))))
theorem Ul{a:Addr}{ns:List Int}{fC:Addr}{fdC:jv}(B:Has P w K mg base)(hr:Room 8 (zL P w K mg base f cdv A outer s H E).X.A)(xf:XFly (zL P w K mg base f cdv A outer s H E).X (zL P w K mg base f cdv A outer s H E).W)(hS:CM K H a (ns.map V.int))(hn:ns.length≤63)
  (FC:FnOk P w K mg base (CXe P w) 1 fC fdC ["_law_script","_law_k"] (Hq K)) (mC:mg "_law_cell_at" =some (.ref fC)) (kC:nh K (.ref fC)=true) (bC:Binds K fdC ["_law_script","_law_k"] []):HS (zL P w K mg base f cdv A outer s H E) (Fe bF [.raw (.ref a)]) Xg (BQ Qd) {nx:=fun _ O'=>iH .non O',rt:=iH}:=by
 refine Dr (Vn Ao.own rfl (Uj hr xf hS hn rfl FC mC kC bC fun ms hm=> ⟨ms.map T.int,rfl,fun i ρ' O'=>∃v1 v2 v3 v4 v5 v6 v7 v8 v9 v10,ρ'=IY a v1 v2 v3 v4 v5 v6 v7 v8 v9 v10,⟨none,none,none,none,none,none,none,none,none,none,rfl⟩,?_,?_⟩) (by intro _;rfl))
 ·rintro i t _ O1 e ⟨v1,v2,v3,v4,v5,v6,v7,v8,v9,v10,rfl⟩
  rw[e9] at e
  cases ec:ms[i]? with
  |none=>rw[ec] at e;cases e
  |some c=>
   rw[ec] at e
   cases e
   exact⟨IY a (some (.int c)) v2 v3 v4 v5 v6 v7 v8 v9 v10,AV 1 II.nd (by show 1<11;decide),Uk B hr xf fun _ _ _ _ _ _ _ _ _ _=> ⟨_,_,_,_,_,_,_,_,_,_,rfl⟩⟩
 ·rintro _ _ ⟨v1,v2,v3,v4,v5,v6,v7,v8,v9,v10,rfl⟩
  exact NY (AK (ET.we Iw rfl))
theorem bG{fd:jv}{fC:Addr}{fdC:jv}(F:Fun K "law" "law" Qd f fd)(B:Has P w K mg base)
  (FC:FnOk P w K mg base (CXe P w) 1 fC fdC ["_law_script","_law_k"] (Hq K)) (mC:mg "_law_cell_at" =some (.ref fC)) (kC:nh K (.ref fC)=true) (bC:Binds K fdC ["_law_script","_law_k"] []):
  FnOk P w K mg base (CXe P w) 9 f fd ["_law_script"] (Pq K):=by
 refine dF F II (fun vs H Q E h=>?_) (fun cdv A outer s H vs Q E hr h=>?_)
 ·obtain⟨a,ns,rfl,_⟩:=h
  rfl
 ·obtain⟨a,ns,rfl,hS,hn,k⟩:=h
  refine⟨[.raw (.ref a)],Xg,iH,fun _ _=>False,.cons (.raw _) .nil,Sk,fun xf=>Ul B hr xf hS hn FC mC kC bC,fun v H' t O' p f r=>?_,fun cls O' H' z=>z.elim⟩
  have p:t=T.bl true:=p
  subst p
  cases r.bl_inv
  exact k H'
end
theorem bH{l:rM}{w:World}{K:b9}{h:Heap}{mg:Str→Option Value}{fa:Addr}{tMOST_PLACES tMOST_TO_CROSS:Tok}(X:K.In h)(G:h.Ns lQ mg)(hfa:mg "law" =some (.ref fa))
  (H0:Fx K "is_whole" Nh) (H1:Fx K "is_rising" FJ) (H2:Fx K "least_told" KL) (H3:Fx K "web_good" aN) (H4:Fx K "ties_good" MV) (H5:Fx K "is_pair" PK) (H6:Fx K "ties_of" Ey) (H7:Fx K "is_place" Ni) (H8:Fx K "need_place" Sw) (H9:Fx K "are_tied" Ow) (H10:Fx K "nears_of" KO) (H11:Fx K "near_of" TU) (H12:Fx K "fars_from" JG) (H13:Fx K "even_by" PB) (H14:Fx K "ring_by_tie" WN) (H15:Fx K "shortest" KI) (H16:Fx K "shortest_rings_from" Zo) (H17:Fx K "rows_longer" WM) (H18:Fx K "shortest_many" KJ) (H19:Fx K "need_places" Nj) (H20:Fx K "retied" Ez) (H21:Fx K "can_cross" Zl) (H22:Fx K "exchanged" Sx) (H23:Fx K "crossed" Hn) (H24:Fx K "spliced" WL) (H25:Fx K "others_near" GX) (H26:Fx K "can_unsplice" JF) (H27:Fx K "unspliced" Nn) (H28:Fx K "merit_of" Nk) (H29:Fx K "is_better" GV) (H30:Fx K "need_few_to_cross" Zm) (H31:Fx K "all_crossings" Ox) (H32:Fx K "first_better" KH) (H33:Fx K "crossings_of" Nl) (H34:Fx K "better_crossing" Sy) (H35:Fx K "climbed" Nm) (H36:Fx K "_law_cell_at" TB) (H37:Fx K "_law_next" TC) (H38:Fx K "_law_pen_of" Zp) (H39:Fx K "_law_draw" TF) (H40:Fx K "_law_web_of" Ho) (H41:Fx K "_law_round" KG) (H42:Fx K "_law_some_web" DM) (H43:Fx K "_law_counts" GW) (H44:Fx K "_law_splice_right" Fw) (H45:Fx K "_law_climb_right" WK) (H46:Fx K "law" Qd)
  (zint:Zn K "int") (zbool:Zn K "bool") (ztuple:Zn K "tuple") (zlist:Zn K "list") (zset:Zn K "set") (zrange:Zn K "range") (zisinstance:Zn K "isinstance") (zmax:Zn K "max") (zmin:Zn K "min") (zlen:Zn K "len") (zall:Zn K "all") (zsorted:Zn K "sorted") (zrepr:Zn K "repr") (zValueError:Zn K "ValueError") (zenumerate:Zn K "enumerate") (zzip:Zn K "zip") (zsum:Zn K "sum") (zany:Zn K "any") (vMOST_PLACES:oH K lQ "MOST_PLACES" =some (some (.int 16 tMOST_PLACES))) (vMOST_TO_CROSS:oH K lQ "MOST_TO_CROSS" =some (some (.int 8 tMOST_TO_CROSS)))
  :∃fd:jv,(∀(s:c9) (v:Value),tq s fd ⟨[v],[]⟩ [("_law_script",v)])∧∀base:Heap,K.In base→base.Ns lQ mg→FnOk l.prog w K mg base (CXe l.prog w) 9 fa fd ["_law_script"] (Pq K):=by
 obtain⟨f0,d0,h0⟩:=H0
 obtain⟨f1,d1,h1⟩:=H1
 obtain⟨f2,d2,h2⟩:=H2
 obtain⟨f3,d3,h3⟩:=H3
 obtain⟨f4,d4,h4⟩:=H4
 obtain⟨f5,d5,h5⟩:=H5
 obtain⟨f6,d6,h6⟩:=H6
 obtain⟨f7,d7,h7⟩:=H7
 obtain⟨f8,d8,h8⟩:=H8
 obtain⟨f9,d9,h9⟩:=H9
 obtain⟨f10,d10,h10⟩:=H10
 obtain⟨f11,d11,h11⟩:=H11
 obtain⟨f12,d12,h12⟩:=H12
 obtain⟨f13,d13,h13⟩:=H13
 obtain⟨f14,d14,h14⟩:=H14
 obtain⟨f15,d15,h15⟩:=H15
 obtain⟨f16,d16,h16⟩:=H16
 obtain⟨f17,d17,h17⟩:=H17
 obtain⟨f18,d18,h18⟩:=H18
 obtain⟨f19,d19,h19⟩:=H19
 obtain⟨f20,d20,h20⟩:=H20
 obtain⟨f21,d21,h21⟩:=H21
 obtain⟨f22,d22,h22⟩:=H22
 obtain⟨f23,d23,h23⟩:=H23
 obtain⟨f24,d24,h24⟩:=H24
 obtain⟨f25,d25,h25⟩:=H25
 obtain⟨f26,d26,h26⟩:=H26
 obtain⟨f27,d27,h27⟩:=H27
 obtain⟨f28,d28,h28⟩:=H28
 obtain⟨f29,d29,h29⟩:=H29
 obtain⟨f30,d30,h30⟩:=H30
 obtain⟨f31,d31,h31⟩:=H31
 obtain⟨f32,d32,h32⟩:=H32
 obtain⟨f33,d33,h33⟩:=H33
 obtain⟨f34,d34,h34⟩:=H34
 obtain⟨f35,d35,h35⟩:=H35
 obtain⟨f36,d36,h36⟩:=H36
 obtain⟨f37,d37,h37⟩:=H37
 obtain⟨f38,d38,h38⟩:=H38
 obtain⟨f39,d39,h39⟩:=H39
 obtain⟨f40,d40,h40⟩:=H40
 obtain⟨f41,d41,h41⟩:=H41
 obtain⟨f42,d42,h42⟩:=H42
 obtain⟨f43,d43,h43⟩:=H43
 obtain⟨f44,d44,h44⟩:=H44
 obtain⟨f45,d45,h45⟩:=H45
 obtain⟨f46,d46,h46⟩:=H46
 have e:=hfa.symm.trans (PySem.W.mg_of X G h46.a)
 cases e
 have mm:∀{x:Str} {v:Value},oH K lQ x=some (some v)→mg x=some v:=fun e=>PySem.W.mg_of X G e
 have nn:∀{x:Str},Zn K x→mg x=none:=fun e=>PySem.W.mg_none_of X G e
 have Tx:Txt mg:=⟨nn zint,nn zbool,nn ztuple,nn zlist,nn zset,nn zrange,nn zisinstance,nn zmax,nn zmin,nn zlen,nn zall,nn zsorted,nn zrepr,nn zValueError,nn zenumerate,nn zzip,nn zsum,nn zany,⟨tMOST_PLACES,mm vMOST_PLACES⟩,⟨tMOST_TO_CROSS,mm vMOST_TO_CROSS⟩⟩
 refine⟨d46,fun s v=>?_,fun base _ _=>?_⟩
 ·obtain⟨⟨_,_,_,_,_,_,_,_,_,rfl,_⟩,_⟩:=h46.F
  exact .of_eq rfl
 have M:Mg l.prog w K mg base:=⟨mm⟩
 have G0:=h0.t M (Sz h0.F Tx) (h0.b3 rfl fun _ _ _ _ _ _ _ _ _=>rfl)
 have G1:=h1.t M (eD h1.F Tx) (h1.b1 rfl fun _ _ _ _ _ _ _=>rfl)
 have G2:=h2.t M (Tf h2.F Tx) (h2.b1 rfl fun _ _ _ _ _ _ _=>rfl)
 have G5:=h5.t M (eB h5.F Tx G0) (h5.b2 rfl fun _ _ _ _ _ _ _ _=>rfl)
 have G4:=h4.t M (eF h4.F Tx G5 (G1.mono (by decide))) (h4.b2 rfl fun _ _ _ _ _ _ _ _=>rfl)
 have G3:=h3.t M (eG h3.F Tx (G0.mono (by decide)) G4) (h3.b1 rfl fun _ _ _ _ _ _ _=>rfl)
 have G6:=h6.t M (Np h6.F Tx) (h6.b1 rfl fun _ _ _ _ _ _ _=>rfl)
 have G7:=h7.t M (TN h7.F G0) (h7.b2 rfl fun _ _ _ _ _ _ _ _=>rfl)
 have G8:=h8.t M (dw h8.F G7) (h8.b2 rfl fun _ _ _ _ _ _ _ _=>rfl)
 have G9:=h9.t M (WX h9.F Tx) (h9.b3 rfl fun _ _ _ _ _ _ _ _ _=>rfl)
 have G10:=h10.t M (TV h10.F Tx) (h10.b1 rfl fun _ _ _ _ _ _ _=>rfl)
 have G11:=h11.t M (dy h11.F Tx G8 G10) (h11.b2 rfl fun _ _ _ _ _ _ _ _=>rfl)
 have G12:=h12.t M (Ta h12.F) (h12.b2 rfl fun _ _ _ _ _ _ _ _=>rfl)
 have G13:=h13.t M (Wc h13.F Tx G10) (h13.b1 rfl fun _ _ _ _ _ _ _=>rfl)
 have G14:=h14.t M (aD h14.F Tx G12) (h14.b3 rfl fun _ _ _ _ _ _ _ _ _=>rfl)
 have G15:=h15.t M (Tz h15.F G10 G14 G2) (h15.b1 rfl fun _ _ _ _ _ _ _=>rfl)
 have G17:=h17.t M (aJ h17.F) (h17.b4 rfl fun _ _ _ _ _ _ _ _ _ _=>rfl)
 have G16:=h16.t M (aM h16.F Tx G12 G17) (h16.b3 rfl fun _ _ _ _ _ _ _ _ _=>rfl)
 have G18:=h18.t M (UE h18.F Tx G15 G10 G16) (h18.b1 rfl fun _ _ _ _ _ _ _=>rfl)
 have G19:=h19.t M (aX h19.F G8) (h19.b2 rfl fun _ _ _ _ _ _ _ _=>rfl)
 have G20:=h20.t M (Qe h20.F G6) (h20.b3 rfl fun _ _ _ _ _ _ _ _ _=>rfl)
 have G21:=h21.t M (Zw h21.F Tx G9) (h21.b5 rfl fun _ _ _ _ _ _ _ _ _ _ _=>rfl)
 have G22:=h22.t M (WZ h22.F G20) (h22.b5 rfl fun _ _ _ _ _ _ _ _ _ _ _=>rfl)
 have G23:=h23.t M (aY h23.F G19 (G21.mono (by decide)) (G22.mono (by decide))) (h23.b5 rfl fun _ _ _ _ _ _ _ _ _ _ _=>rfl)
 have G24:=h24.t M (aZ h24.F Tx G19 G9 G6 G20) (h24.b5 rfl fun _ _ _ _ _ _ _ _ _ _ _=>rfl)
 have G25:=h25.t M (Wu h25.F Tx G11) (h25.b3 rfl fun _ _ _ _ _ _ _ _ _=>rfl)
 have G26:=h26.t M (Ws h26.F Tx G25 G9) (h26.b3 rfl fun _ _ _ _ _ _ _ _ _=>rfl)
 have G27:=h27.t M (aa h27.F Tx G19 G26 G25 G6) (h27.b3 rfl fun _ _ _ _ _ _ _ _ _=>rfl)
 have G28:=h28.t M (aj h28.F Tx G15 G18) (h28.b1 rfl fun _ _ _ _ _ _ _=>rfl)
 have G29:=h29.t M (ak h29.F G3 G28) (h29.b2 rfl fun _ _ _ _ _ _ _ _=>rfl)
 have G30:=h30.t M (ao h30.F Tx) (h30.b1 rfl fun _ _ _ _ _ _ _=>rfl)
 have G31:=h31.t M (fA h31.F Tx G21) (h31.b1 rfl fun _ _ _ _ _ _ _=>rfl)
 have G32:=h32.t M (fE h32.F G28 G31 G22) (h32.b1 rfl fun _ _ _ _ _ _ _=>rfl)
 have G33:=h33.t M (fB h33.F G30 G31) (h33.b1 rfl fun _ _ _ _ _ _ _=>rfl)
 have G34:=h34.t M (fI h34.F G30 G32) (h34.b1 rfl fun _ _ _ _ _ _ _=>rfl)
 have G35:=h35.t M (aw h35.F G30 G32) (h35.b1 rfl fun _ _ _ _ _ _ _=>rfl)
 have W36:FnOk l.prog w K mg base (CXe l.prog w) 1 f36 _ _ (Hq K):=WQ h36.F Tx
 have G37:=h37.t M (WR h37.F) (h37.b1 rfl fun _ _ _ _ _ _ _=>rfl)
 have G38:=h38.t M (Zr h38.F Tx) (h38.b1 rfl fun _ _ _ _ _ _ _=>rfl)
 have G39:=h39.t M (WU h39.F G37) (h39.b2 rfl fun _ _ _ _ _ _ _ _=>rfl)
 have G40:=h40.t M (Qj h40.F Tx) (h40.b2 rfl fun _ _ _ _ _ _ _ _=>rfl)
 have G41:=h41.t M (Ti h41.F Tx) (h41.b3 rfl fun _ _ _ _ _ _ _ _ _=>rfl)
 have G42:=h42.t M (MN h42.F Tx G39 G41 G40) (h42.b2 rfl fun _ _ _ _ _ _ _ _=>rfl)
 have G43:=h43.t M (az h43.F Tx G11) (h43.b1 rfl fun _ _ _ _ _ _ _=>rfl)
 have G44:=h44.t M (fQ h44.F Tx G39 G24 G3 G43 G13 G27) (h44.b2 rfl fun _ _ _ _ _ _ _ _=>rfl)
 have G45:=h45.t M (fS h45.F Tx G35 G34 G23 G29 G43 G33) (h45.b1 rfl fun _ _ _ _ _ _ _=>rfl)
 exact bG h46.F ⟨Tx,G38,G39,G42,G44,G45,G33,G23,G43⟩ W36 (mm h36.a) h36.F.kp (h36.b2 rfl fun _ _ _ _ _ _ _ _=>rfl)
theorem walk{l:rM}{q:Program}{loose:List Str}{XP:(Str→Option Value)→Heap→Prop}{YP:World→Heap→Prop}{d:DefRec}{K:Params→b9}(hn:l.most=some 63)(hdf:d.params.defaults=[])
  (hY:∀(w:World) (h:Heap),YP w h→(K w.params).In h)
  (F:∀(w:World) (mg:Str→Option Value) (fa:Addr) (h:Heap),(K w.params).In h→h.Ns lQ mg→mg d.name=some (.ref fa)→
   ∃fd:jv,(∀(s:c9) (u:Value),tq s fd ⟨[u],[]⟩ [("_law_script",u)])∧∀base:Heap,(K w.params).In base→base.Ns lQ mg→FnOk l.prog w (K w.params) mg base (CXe l.prog w) 9 fa fd ["_law_script"] (Pq (K w.params))):
  PySem.W.WalkO q loose XP YP l.row.toRowW d [] (fun f vs=>PySem.call f vs):=
 L2.VJ (n:=63) (k:=9) (x:="_law_script") (CX:=fun w=>CXe l.prog w) (sp:=fun w=>Pq (K w.params)) hn (by decide) hdf ⟨rfl,by decide,by decide,rfl⟩ hY F (fun _ _ a ns hl _ hS=> ⟨a,ns,rfl,hS,hl,fun _=>rfl⟩) fun _ _ _ _ _ z=>z.never
end K58
open PySem PySem.W PyProof.Rows
set_option maxRecDepth 100000 in
set_option maxHeartbeats 0 in
theorem PySem.Challenge.cw_noshortring_k58_whole_betterings_holds : PySem.Challenge.rw_noshortring_k58_whole_betterings.Holds := by
 w_on;o_law
 refine PySem.W.holds_open (q:=K58.kq) (loose:=[]) (Xt:=fun s=>sT K58.kq [] s&&sF [] s) (XP:=PySem.W.XL K58.kq []) (Yf:=fun s=>K58.ka.map s.heap.get?) (Ya:=fun w=> (K58.Kk w.params).map fun(p:Addr×Obj)=>some p.2) (YP:=tH K58.Kk) (N:=5200) K58.left (tH.of fun _=>by kernel_rfl) tH.keeps (fun s e=>xl_of s (Bool.and_eq_true_iff.mp e).1) XL.keeps (by rfl) (by rfl) (by rfl) (fun s e=>recFacts_of (Bool.and_eq_true_iff.mp e).2) (by rfl) (by first|assumption|decide+kernel) (by first|k_qdec|decide+kernel) ⟨rfl,rfl,rfl,rfl,rfl,by decide+kernel⟩ ?hw ?hc
 (case hw=>w_witness2)
 k_fill
 refine K58.walk (l:=PySem.Challenge.rw_noshortring_k58_whole_betterings) rfl rfl (fun w h Y=>Y) ?F
 case F=>
  intro w mg fa h KX G hmg
  refine' K58.bH KX G hmg ?H0 ?H1 ?H2 ?H3 ?H4 ?H5 ?H6 ?H7 ?H8 ?H9 ?H10 ?H11 ?H12 ?H13 ?H14 ?H15 ?H16 ?H17 ?H18 ?H19 ?H20 ?H21 ?H22 ?H23 ?H24 ?H25 ?H26 ?H27 ?H28 ?H29 ?H30 ?H31 ?H32 ?H33 ?H34 ?H35 ?H36 ?H37 ?H38 ?H39 ?H40 ?H41 ?H42 ?H43 ?H44 ?H45 ?H46 ?zint ?zbool ?ztuple ?zlist ?zset ?zrange ?zisinstance ?zmax ?zmin ?zlen ?zall ?zsorted ?zrepr ?zValueError ?zenumerate ?zzip ?zsum ?zany ?vMOST_PLACES ?vMOST_TO_CROSS
  case H0|H1|H2|H3|H4|H5|H6|H7|H8|H9|H10|H11|H12|H13|H14|H15|H16|H17|H18|H19|H20|H21|H22|H23|H24|H25|H26|H27|H28|H29|H30|H31|H32|H33|H34|H35|H36|H37|H38|H39|H40|H41|H42|H43|H44|H45|H46=> (refine' L2.TL.fi ?a ?l ?q ?k;(case a=>k_is);(case l=>k_is);(case q=>k_is);(case k=>k_is))
  case zint|zbool|ztuple|zlist|zset|zrange|zisinstance|zmax|zmin|zlen|zall|zsorted|zrepr|zValueError|zenumerate|zzip|zsum|zany=> (delta L2.TL.Zn;k_is)
  case vMOST_PLACES=>k_is
  case vMOST_TO_CROSS=>k_is
